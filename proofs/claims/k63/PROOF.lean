import PyProof.Rows.All
import Wide.All
import OpenK.AllK
import Wide.FinOn
import Lean
import PyProof.EqAt
import PyProof.EqKinds
import PyProof.TupleCall
import PyProof.NeKinds
import PyProof.ZipIter
import PyProof.DictUpdate
import PyProof.FactsAll.dict_1
import PyProof.DictIter
import PyProof.DictWalks
import PySem.Challenge.RW_chanceduel_k63_whole_a_play_accounted_fo
set_option Elab.async false
set_option linter.all false
set_option maxRecDepth 100000
set_option maxHeartbeats 4000000
set_option compiler.extract_closed false
def aaa:=@List.getElem?_eq_getElem
def aab:=@List.getD_eq_getElem?_getD
def aac:=@List.mem_cons_of_mem
def aad:=@List.mem_cons_self
def aae:=@List.length_map
def aaf:=@List.getElem?_eq_some_iff
def aag:=@Int.le_of_lt
def aah:=@List.length_append
def aai:=@List.mem_map
def aaj:=@Nat.le_refl
def aak:=@List.mem_of_getElem?
def aal:=@PySem.Heap.get?_push_of_some
def aam:=@decide_eq_true_iff
def aan:=@List.getElem?_append_right
def aao:=@of_decide_eq_true
def aap:=@Int.mul_pos
def aaq:=@List.getElem_mem
def aar:=@List.getElem?_map
def aas:=@List.getElem?_append_left
def aat:=@Nat.lt_of_lt_of_le
def aau:=@List.length_cons
def aav:=@Bool.and_eq_true
def aaw:=@PySem.Heap.lt_size
def aax:=@Nat.le_trans
def aay:=@Rat.intCast_le_intCast
def aaz:=@if_pos
def aaA:=@Int.mul_le_mul_of_nonneg_left
def aaC:=@if_neg
def aaD:=@Int.mul_le_mul_of_nonneg_right
def aaE:=@Int.lt_of_le_of_lt
def aaF:=@Bool.false_ne_true
def aaG:=@decide_eq_false
def aaH:=@List.mem_append_right
def aaI:=@decide_eq_true
def aaJ:=@Option.some.inj
def aaK:=@Rat.intCast_mul
def aaL:=@List.mem_cons
def aaM:=@PySem.wpAny_bind
def aaN:=@List.map_map
def aaO:=@Rat.intCast_lt_intCast
def aaP:=@absurd
def aaQ:=@List.map_cons
def aaR:=@Rat.mul_le_mul_of_nonneg_left
def aaS:=@PySem.Heap.get?_push_size
def aaT:=@List.getElem?_range
def aaU:=@Nat.ne_of_lt
def aaV:=@List.mem_append
def aaW:=@List.nil_append
def aaX:=@Int.eq_of_mul_eq_mul_left
def aaY:=@List.append_assoc
def aaZ:=@Int.ne_of_gt
def aa0:=@Int.mul_comm
def aa1:=@Int.emod_lt_of_pos
def aa2:=@congrArg
def aa3:=@Nat.lt_of_le_of_lt
def aa4:=@of_decide_eq_false
def aa5:=@List.length_replicate
def aa6:=@List.append_nil
def aa7:=@List.map_append
def aa8:=@Int.emod_nonneg
def aa9:=@List.length_range
def aba:=@Int.mul_nonneg
def abb:=@Int.mul_le_mul
def abc:=@Int.le_trans
def abd:=@Nat.pow_le_pow_right
def abe:=@Int.natAbs_of_nonneg
def abf:=@PySem.wpAny_pure
def abi:=@Int.natAbs_mul
def abj:=@Rat.mul_le_mul_of_nonneg_right
def abl:=@List.getElem_of_mem
def abm:=@List.map_congr_left
def abn:=@List.size_toArray
def abo:=@List.getElem?_set_self
def abp:=@List.take_of_length_le
def abq:=@List.mem_singleton
def abr:=@List.length_set
def abt:=@List.replicate_succ
def abu:=@List.mem_range
def abv:=@List.ext_getElem
def abw:=@List.exists_cons_of_ne_nil
def abx:=@List.zip_cons_cons
def aby:=@List.drop_eq_getElem_cons
def abz:=@Int.natCast_pow
def abA:=@Nat.lt_succ_self
def abB:=@List.lookup_cons
def abC:=@Int.mul_ediv_cancel_left
def abD:=@Int.pow_succ
def abE:=@List.foldl_cons
def abF:=@List.length_zip
def abG:=@Int.ofNat_lt
def abH:=@beq_iff_eq
def abI:=@List.flatten_cons
def abJ:=@Nat.lt_irrefl
def abK:=@List.of_mem_zip
def abL:=@List.getElem?_eq_none
def abM:=@Option.isSome_iff_exists
def abN:=@Int.lt_of_lt_of_le
def abO:=@List.getElem?_set_ne
def abP:=@Nat.add_sub_cancel_left
def abQ:=@Int.toNat_natCast
def abR:=@Int.mul_one
def abS:=@List.nodup_cons
def abT:=@Nat.not_lt_zero
def abU:=@List.range_succ_eq_map
def abV:=@Int.fmod_eq_emod_of_nonneg
def abW:=@List.length_drop
def abX:=@Nat.le_add_right
def abY:=@Int.le_of_dvd
def abZ:=@Int.pow_nonneg
def ab0:=@Int.mul_neg_of_pos_of_neg
def ab1:=@List.set_append_left
def ab2:=@Nat.lt_succ_of_lt
def ab3:=@Rat.intCast_add
def ab4:=@Nat.zero_le
def ab5:=@List.getElem?_replicate
def ab6:=@List.all_cons
def ab7:=@List.any_cons
def ab8:=@Int.toNat_of_nonneg
def ab9:=@List.filter_cons_of_pos
def aca:=@List.filter_cons_of_neg
def acd:=@Rat.intCast_natCast
def ace:=@List.drop_eq_nil_of_le
def acf:=@List.length_nil
def acg:=@Int.le_refl
def ach:=@Int.lt_or_le
def aci:=@List.set_append_right
def acj:=@PySem.wpAny_mono
def ack:=@Int.mul_assoc
def acm:=@Array.getElem?_eq_some_iff
def acn:=@Int.fdiv_eq_ediv_of_nonneg
def aco:=@List.mem_append_left
def acp:=@List.mem_of_mem_take
def acq:=@List.drop_zero
def acr:=@PySem.F.slot_dict_getitem
def acs:=@Int.le_of_mul_le_mul_left
def acu:=@List.length_take
def acv:=@Int.ediv_le_self
def acw:=@List.getElem?_take_of_lt
def acx:=@Int.pow_zero
def acy:=@List.mem_of_mem_eraseIdx
def acz:=@Nat.sub_self
def acA:=@Int.lt_trans
def acB:=@Rat.le_trans
def acC:=@List.mem_filterMap
def acD:=@Nat.min_eq_left
def acE:=@Int.ediv_nonneg
def acF:=@List.nodup_append
def acG:=@List.ext_getElem?
def acH:=@Bool.false_and
def acI:=@Nat.ne_of_gt
def acJ:=@Int.dvd_zero
namespace Hd
open PySem PySem.W PyProof.Rows
def at_(i:Nat):Stmt:=PySem.Challenge.pw_chanceduel_k63_whole_a_play_accounted_fo.main.body.getD i (.Pass ⟨0,0,0,0⟩)
def LP:Stmt->Nat->Stmt
  | .ClassDef _ _ _ b _ _ _ _ _ _ _,j=>b.getD j (.Pass ⟨0,0,0,0⟩)
  | s,_=>s
def dA:Stmt->Arguments
  | .FunctionDef _ a _ _ _ _ _ _ _ _=>a
  | _=>⟨[],[],none,[],[],none,[]⟩
def dB:Stmt->List Stmt
  | .FunctionDef _ _ b _ _ _ _ _ _ _=>b
  | _=>[]
def dS:Stmt->Scope
  | .FunctionDef _ _ _ _ _ _ c _ _ _=>c
  | _=>{kind:= .function,names:=[],isGenerator:=false,isCoroutine:=false}
abbrev row:=PySem.Challenge.rw_chanceduel_k63_whole_a_play_accounted_fo.row
abbrev en(P:Params)(x:Str)(t:Tok)(v:Value):DictEntry:=⟨PyData.keyHash P x, .str x t,v⟩
def q:Program:={PySem.Challenge.pw_chanceduel_k63_whole_a_play_accounted_fo with main:={PySem.Challenge.pw_chanceduel_k63_whole_a_play_accounted_fo.main with body:=[at_ 1,at_ 2,at_ 3,at_ 4,at_ 5,at_ 6,at_ 7,at_ 9,at_ 10,at_ 11,at_ 12,at_ 13,at_ 14,at_ 16,at_ 17,at_ 18,at_ 19,at_ 20,at_ 21,at_ 22,at_ 23,at_ 24,at_ 25,at_ 27,at_ 28,at_ 29,at_ 30,at_ 31,at_ 32,at_ 33,at_ 34,at_ 36,at_ 37,at_ 38,at_ 39,at_ 40,at_ 41,at_ 42,at_ 43,at_ 45,at_ 46,at_ 47,at_ 48,at_ 49,at_ 50,at_ 51,at_ 52,at_ 53,at_ 54,at_ 56,at_ 57,at_ 58,at_ 59,at_ 61,at_ 62,at_ 64,at_ 66,at_ 68,at_ 69,at_ 70,at_ 71,at_ 72,at_ 73,at_ 74,at_ 75,at_ 76,at_ 77,at_ 78,at_ 79,at_ 80]}}
abbrev cO(x q:Str)(t l n f a m:Nat):Obj:=⟨.type "code",none, .fields #[.str x t, .str q (t+1), .str "/claim/cut.py" (t+2), .int l 0, .int n 0, .int 0 0, .int 0 0, .int f 0, .ref a, .bool true, .int 181 0, .ref (a+1), .none, .ref (a+2), .ref (a+3), .ref (a+4), .int m 0, .int l 0, .str "/claim/cut.py" (m+1)], #[]⟩
abbrev dO(x q:Str)(t l n f a m:Nat):Obj:=⟨.type "code",none, .fields #[.str x t, .str q (t+1), .str "/claim/cut.py" (t+2), .int l 0, .int n 0, .int 0 0, .int 0 0, .int f 0, .ref a, .bool true, .int 181 0, .ref (a+1), .none, .none, .none, .ref (a+2), .int m 0, .int l 0, .str "/claim/cut.py" (m+1)], #[]⟩
abbrev fO(x q:Str)(s:Stmt)(m:Value)(c:Nat):Obj:=⟨.type "function",none, .func ⟨x,q,(dA s), .stmts (dB s),(dS s),3,[], .none, .none, .none,m,none, .ref c, .none,0⟩, #[]⟩
abbrev m0:Value:= .str "chanceduel.parts" 341
abbrev m1:Value:= .str "chanceduel.places" 395
abbrev m2:Value:= .str "chanceduel.floors" 453
abbrev m3:Value:= .str "chanceduel.rows" 606
abbrev m4:Value:= .str "chanceduel.plans" 682
abbrev m5:Value:= .str "chanceduel.plays" 773
abbrev m6:Value:= .str "chanceduel.answers" 818
abbrev m7:Value:= .str "chanceduel.mending" 843
abbrev m8:Value:= .str "law_chanceduel_k63_whole_a_play_accounted_fo" 875
noncomputable def K:Params->Frag:=λP=>
(nat_lit 2,⟨.none,none,(.dict #[] 0), #[]⟩)::
(nat_lit 3,⟨(.type "dict"),none,(.dict #[(en P "__name__" 165 m8),(en P "__doc__" 166 .none),(en P "__package__" 167 .none),(en P "__loader__" 168 (.builtin "__main__.__loader__#opaque")),(en P "__spec__" 169 .none),(en P "__annotations__" 170 (.ref 6)),(en P "__builtins__" 171 (.ref 4)),(en P "__file__" 173 (.str "/claim/cut.py" 172)),(en P "__cached__" 174 .none),(en P "DuelError" 206 (.ref 24)),(en P "NoNumber" 222 (.ref 37)),(en P "NoFloor" 238 (.ref 49)),(en P "NoPlace" 263 (.ref 68)),(en P "NoAnswer" 288 (.ref 87)),(en P "ManyAnswers" 315 (.ref 106)),(en P "NoPlan" 340 (.ref 125)),(en P "common_divisor" 353 (.ref 134)),(en P "fraction" 362 (.ref 141)),(en P "plus" 370 (.ref 148)),(en P "minus" 378 (.ref 155)),(en P "times" 386 (.ref 162)),(en P "under" 394 (.ref 169)),(en P "HANDS" 399 (.ref 170)),(en P "MOST_DOORS" 401 (.int 6 400)),(en P "MOST_BOTTOM" 403 (.int 1000000 402)),(en P "fits_pay" 410 (.ref 177)),(en P "fits_door" 418 (.ref 184)),(en P "common_bottom" 427 (.ref 191)),(en P "fits_chances" 433 (.ref 196)),(en P "fits_doors" 439 (.ref 201)),(en P "fits_row" 445 (.ref 206)),(en P "copied_row" 452 (.ref 213)),(en P "MOST_PLACES" 456 (.int 12 455)),(en P "MOST_SHARE_BOTTOM" 458 (.int 1000 457)),(en P "TURNED_KINDS" 468 (.ref 214)),(en P "fits_share" 475 (.ref 221)),(en P "weighed" 486 (.ref 228)),(en P "greatest" 495 (.ref 235)),(en P "least" 504 (.ref 242)),(en P "Floor" 605 (.ref 319)),(en P "with_weights" 618 (.ref 330)),(en P "number_of_head" 628 (.ref 337)),(en P "moved_ahead" 637 (.ref 344)),(en P "cleared_line" 643 (.ref 349)),(en P "cleared" 649 (.ref 354)),(en P "quotients" 662 (.ref 361)),(en P "still_of" 668 (.ref 366)),(en P "answer_of" 681 (.ref 373)),(en P "places_of" 689 (.ref 378)),(en P "first_plan" 699 (.ref 385)),(en P "has_door" 708 (.ref 392)),(en P "doors_of" 719 (.ref 399)),(en P "better_doors" 731 (.ref 406)),(en P "ways_from" 741 (.ref 413)),(en P "whole_row" 747 (.ref 418)),(en P "led_row" 760 (.ref 425)),(en P "row_of" 766 (.ref 430)),(en P "worths_by" 772 (.ref 435)),(en P "chance_door" 786 (.ref 442)),(en P "door_by" 792 (.ref 447)),(en P "played" 807 (.ref 454)),(en P "brought" 817 (.ref 461)),(en P "worths_against" 829 (.ref 468)),(en P "against" 842 (.ref 475)),(en P "started" 853 (.ref 482)),(en P "mended" 867 (.ref 490)),(en P "worths" 874 (.ref 497)),(en P "_law_far" 884 (.ref 504)),(en P "_law_number" 894 (.ref 511)),(en P "_law_rest" 903 (.ref 518)),(en P "_law_lowest" 913 (.ref 525)),(en P "_law_share" 921 (.ref 532)),(en P "_law_pay" 928 (.ref 539)),(en P "_law_doors" 934 (.ref 544)),(en P "_law_rows" 940 (.ref 549)),(en P "_law_sum" 952 (.ref 556)),(en P "_law_table" 964 (.ref 563)),(en P "_law_pick" 972 (.ref 570)),(en P "_law_worth_rules" 990 (.ref 577)),(en P "law" 996 (.ref 582))] 80), #[]⟩)::
(nat_lit 23,⟨(.type "dict"),none,(.dict #[(en P "__module__" 196 (.str "chanceduel.errors" 187)),(en P "__firstlineno__" 200 (.int 2 199)),(en P "__static_attributes__" 201 (.ref 22)),(en P "__weakref__" 203 (.ref 25)),(en P "__doc__" 204 .none)] 3), #[]⟩)::
(nat_lit 24,⟨(.type "type"),none,(.cls ⟨"DuelError",[(.type "ValueError")],[(.ref 24),(.type "ValueError"),(.type "Exception"),(.type "BaseException"),(.type "object")],23,"DuelError",true,[],[(.ref 37),(.ref 49),(.ref 68),(.ref 87),(.ref 106),(.ref 125)],false,none,false⟩), #[(some (.ref 15)),none,(some (.str "DuelError" 189)),(some (.str "DuelError" 197)),(some (.builtin "ValueError.__new__")),(some (.bool true))]⟩)::
(nat_lit 37,⟨(.type "type"),none,(.cls ⟨"NoNumber",[(.ref 24)],[(.ref 37),(.ref 24),(.type "ValueError"),(.type "Exception"),(.type "BaseException"),(.type "object")],36,"NoNumber",true,[],[],false,none,false⟩), #[(some (.ref 28)),none,(some (.str "NoNumber" 207)),(some (.str "NoNumber" 215)),(some (.builtin "ValueError.__new__")),(some (.bool true))]⟩)::
(nat_lit 49,⟨(.type "type"),none,(.cls ⟨"NoFloor",[(.ref 24)],[(.ref 49),(.ref 24),(.type "ValueError"),(.type "Exception"),(.type "BaseException"),(.type "object")],48,"NoFloor",true,[],[],false,none,false⟩), #[(some (.ref 40)),none,(some (.str "NoFloor" 223)),(some (.str "NoFloor" 231)),(some (.builtin "ValueError.__new__")),(some (.bool true))]⟩)::
(nat_lit 68,⟨(.type "type"),none,(.cls ⟨"NoPlace",[(.ref 24)],[(.ref 68),(.ref 24),(.type "ValueError"),(.type "Exception"),(.type "BaseException"),(.type "object")],67,"NoPlace",true,[],[],false,none,false⟩), #[(some (.ref 52)),none,(some (.str "NoPlace" 239)),(some (.str "NoPlace" 247)),(some (.builtin "ValueError.__new__")),(some (.bool true))]⟩)::
(nat_lit 87,⟨(.type "type"),none,(.cls ⟨"NoAnswer",[(.ref 24)],[(.ref 87),(.ref 24),(.type "ValueError"),(.type "Exception"),(.type "BaseException"),(.type "object")],86,"NoAnswer",true,[],[],false,none,false⟩), #[(some (.ref 71)),none,(some (.str "NoAnswer" 264)),(some (.str "NoAnswer" 272)),(some (.builtin "ValueError.__new__")),(some (.bool true))]⟩)::
(nat_lit 106,⟨(.type "type"),none,(.cls ⟨"ManyAnswers",[(.ref 24)],[(.ref 106),(.ref 24),(.type "ValueError"),(.type "Exception"),(.type "BaseException"),(.type "object")],105,"ManyAnswers",true,[],[],false,none,false⟩), #[(some (.ref 90)),none,(some (.str "ManyAnswers" 289)),(some (.str "ManyAnswers" 297)),(some (.builtin "ValueError.__new__")),(some (.bool true))]⟩)::
(nat_lit 125,⟨(.type "type"),none,(.cls ⟨"NoPlan",[(.ref 24)],[(.ref 125),(.ref 24),(.type "ValueError"),(.type "Exception"),(.type "BaseException"),(.type "object")],124,"NoPlan",true,[],[],false,none,false⟩), #[(some (.ref 109)),none,(some (.str "NoPlan" 316)),(some (.str "NoPlan" 324)),(some (.builtin "ValueError.__new__")),(some (.bool true))]⟩)::
(nat_lit 133,cO "common_divisor" "common_divisor" 343 30 2 3 128 351)::
(nat_lit 134,fO "common_divisor" "common_divisor" (at_ 9) m0 133)::
(nat_lit 140,cO "fraction" "fraction" 354 38 2 3 135 360)::
(nat_lit 141,fO "fraction" "fraction" (at_ 10) m0 140)::
(nat_lit 147,cO "plus" "plus" 363 45 2 3 142 368)::
(nat_lit 148,fO "plus" "plus" (at_ 11) m0 147)::
(nat_lit 154,cO "minus" "minus" 371 47 2 3 149 376)::
(nat_lit 155,fO "minus" "minus" (at_ 12) m0 154)::
(nat_lit 161,cO "times" "times" 379 49 2 3 156 384)::
(nat_lit 162,fO "times" "times" (at_ 13) m0 161)::
(nat_lit 168,cO "under" "under" 387 51 2 3 163 392)::
(nat_lit 169,fO "under" "under" (at_ 14) m0 168)::
(nat_lit 170,⟨(.type "tuple"),none,(.seq #[(.str "one" 397),(.str "other" 398)] 0), #[]⟩)::
(nat_lit 176,cO "fits_pay" "fits_pay" 404 57 1 3 171 408)::
(nat_lit 177,fO "fits_pay" "fits_pay" (at_ 19) m1 176)::
(nat_lit 183,cO "fits_door" "fits_door" 411 59 2 3 178 416)::
(nat_lit 184,fO "fits_door" "fits_door" (at_ 20) m1 183)::
(nat_lit 190,cO "common_bottom" "common_bottom" 419 61 1 3 185 425)::
(nat_lit 191,fO "common_bottom" "common_bottom" (at_ 21) m1 190)::
(nat_lit 195,dO "fits_chances" "fits_chances" 428 66 1 3 192 431)::
(nat_lit 196,fO "fits_chances" "fits_chances" (at_ 22) m1 195)::
(nat_lit 200,dO "fits_doors" "fits_doors" 434 72 2 3 197 437)::
(nat_lit 201,fO "fits_doors" "fits_doors" (at_ 23) m1 200)::
(nat_lit 205,dO "fits_row" "fits_row" 440 76 2 3 202 443)::
(nat_lit 206,fO "fits_row" "fits_row" (at_ 24) m1 205)::
(nat_lit 212,cO "copied_row" "copied_row" 446 85 1 3 207 450)::
(nat_lit 213,fO "copied_row" "copied_row" (at_ 25) m1 212)::
(nat_lit 214,⟨(.type "dict"),none,(.dict #[(en P "one" 459 (.str "other" 460)),(en P "other" 461 (.str "one" 462)),(en P "chance" 463 (.str "chance" 464))] 3), #[]⟩)::
(nat_lit 220,cO "fits_share" "fits_share" 469 93 1 3 215 473)::
(nat_lit 221,fO "fits_share" "fits_share" (at_ 30) m2 220)::
(nat_lit 227,cO "weighed" "weighed" 476 95 2 3 222 484)::
(nat_lit 228,fO "weighed" "weighed" (at_ 31) m2 227)::
(nat_lit 234,cO "greatest" "greatest" 487 100 1 3 229 493)::
(nat_lit 235,fO "greatest" "greatest" (at_ 32) m2 234)::
(nat_lit 241,cO "least" "least" 496 106 1 3 236 502)::
(nat_lit 242,fO "least" "least" (at_ 33) m2 241)::
(nat_lit 253,dO "__init__" "Floor.__init__" 517 114 3 3 250 520)::
(nat_lit 254,fO "__init__" "Floor.__init__" (LP (at_ 34) 0) m2 253)::
(nat_lit 260,cO "size" "Floor.size" 523 125 1 3 255 527)::
(nat_lit 261,fO "size" "Floor.size" (LP (at_ 34) 1) m2 260)::
(nat_lit 267,cO "share" "Floor.share" 530 128 1 3 262 534)::
(nat_lit 268,fO "share" "Floor.share" (LP (at_ 34) 2) m2 267)::
(nat_lit 274,cO "kind" "Floor.kind" 537 131 2 3 269 542)::
(nat_lit 275,fO "kind" "Floor.kind" (LP (at_ 34) 3) m2 274)::
(nat_lit 281,cO "doors" "Floor.doors" 545 134 2 3 276 550)::
(nat_lit 282,fO "doors" "Floor.doors" (LP (at_ 34) 4) m2 281)::
(nat_lit 288,cO "pay" "Floor.pay" 553 139 2 3 283 558)::
(nat_lit 289,fO "pay" "Floor.pay" (LP (at_ 34) 5) m2 288)::
(nat_lit 300,cO "shown" "Floor.shown" 567 147 4 3 295 575)::
(nat_lit 301,fO "shown" "Floor.shown" (LP (at_ 34) 7) m2 300)::
(nat_lit 305,dO "all_shown" "Floor.all_shown" 578 151 3 3 302 581)::
(nat_lit 306,fO "all_shown" "Floor.all_shown" (LP (at_ 34) 8) m2 305)::
(nat_lit 310,dO "look" "Floor.look" 584 154 3 3 307 587)::
(nat_lit 311,fO "look" "Floor.look" (LP (at_ 34) 9) m2 310)::
(nat_lit 315,dO "best" "Floor.best" 590 164 3 3 312 593)::
(nat_lit 316,fO "best" "Floor.best" (LP (at_ 34) 10) m2 315)::
(nat_lit 318,⟨(.type "dict"),none,(.dict #[(en P "__module__" 512 m2),(en P "__firstlineno__" 516 (.int 112 515)),(en P "__init__" 522 (.ref 254)),(en P "size" 529 (.ref 261)),(en P "share" 536 (.ref 268)),(en P "kind" 544 (.ref 275)),(en P "doors" 552 (.ref 282)),(en P "pay" 560 (.ref 289)),(en P "rows" 566 (.ref 294)),(en P "shown" 577 (.ref 301)),(en P "all_shown" 583 (.ref 306)),(en P "look" 589 (.ref 311)),(en P "best" 595 (.ref 316)),(en P "__static_attributes__" 598 (.ref 317)),(en P "__dict__" 600 (.ref 320)),(en P "__weakref__" 602 (.ref 321)),(en P "__doc__" 603 .none)] 4), #[]⟩)::
(nat_lit 319,⟨(.type "type"),none,(.cls ⟨"Floor",[(.type "object")],[(.ref 319),(.type "object")],318,"Floor",true,[],[],false,none,false⟩), #[none,none,(some (.str "Floor" 505)),(some (.str "Floor" 513)),(some (.builtin "object.__new__")),(some (.bool true))]⟩)::
(nat_lit 329,cO "with_weights" "with_weights" 608 170 1 3 324 616)::
(nat_lit 330,fO "with_weights" "with_weights" (at_ 36) m3 329)::
(nat_lit 336,cO "number_of_head" "number_of_head" 619 177 3 3 331 626)::
(nat_lit 337,fO "number_of_head" "number_of_head" (at_ 37) m3 336)::
(nat_lit 343,cO "moved_ahead" "moved_ahead" 629 182 3 3 338 635)::
(nat_lit 344,fO "moved_ahead" "moved_ahead" (at_ 38) m3 343)::
(nat_lit 348,dO "cleared_line" "cleared_line" 638 184 4 3 345 641)::
(nat_lit 349,fO "cleared_line" "cleared_line" (at_ 39) m3 348)::
(nat_lit 353,dO "cleared" "cleared" 644 186 2 3 350 647)::
(nat_lit 354,fO "cleared" "cleared" (at_ 40) m3 353)::
(nat_lit 360,cO "quotients" "quotients" 650 203 4 3 355 660)::
(nat_lit 361,fO "quotients" "quotients" (at_ 41) m3 360)::
(nat_lit 372,cO "answer_of" "answer_of" 669 213 1 3 367 679)::
(nat_lit 373,fO "answer_of" "answer_of" (at_ 43) m3 372)::
(nat_lit 377,dO "places_of" "places_of" 684 226 2 3 374 687)::
(nat_lit 378,fO "places_of" "places_of" (at_ 45) m4 377)::
(nat_lit 384,cO "first_plan" "first_plan" 690 228 2 3 379 697)::
(nat_lit 385,fO "first_plan" "first_plan" (at_ 46) m4 384)::
(nat_lit 391,cO "has_door" "has_door" 700 233 3 3 386 706)::
(nat_lit 392,fO "has_door" "has_door" (at_ 47) m4 391)::
(nat_lit 398,cO "doors_of" "doors_of" 709 235 2 3 393 717)::
(nat_lit 399,fO "doors_of" "doors_of" (at_ 48) m4 398)::
(nat_lit 405,cO "better_doors" "better_doors" 720 245 3 3 400 729)::
(nat_lit 406,fO "better_doors" "better_doors" (at_ 49) m4 405)::
(nat_lit 412,cO "ways_from" "ways_from" 732 252 3 3 407 739)::
(nat_lit 413,fO "ways_from" "ways_from" (at_ 50) m4 412)::
(nat_lit 417,dO "whole_row" "whole_row" 742 257 1 3 414 745)::
(nat_lit 418,fO "whole_row" "whole_row" (at_ 51) m4 417)::
(nat_lit 424,cO "led_row" "led_row" 748 260 5 3 419 758)::
(nat_lit 425,fO "led_row" "led_row" (at_ 52) m4 424)::
(nat_lit 429,dO "row_of" "row_of" 761 266 3 3 426 764)::
(nat_lit 430,fO "row_of" "row_of" (at_ 53) m4 429)::
(nat_lit 434,dO "worths_by" "worths_by" 767 272 2 3 431 770)::
(nat_lit 435,fO "worths_by" "worths_by" (at_ 54) m4 434)::
(nat_lit 441,cO "chance_door" "chance_door" 775 275 2 3 436 784)::
(nat_lit 442,fO "chance_door" "chance_door" (at_ 56) m5 441)::
(nat_lit 446,dO "door_by" "door_by" 787 284 3 3 443 790)::
(nat_lit 447,fO "door_by" "door_by" (at_ 57) m5 446)::
(nat_lit 453,cO "played" "played" 793 289 3 3 448 805)::
(nat_lit 454,fO "played" "played" (at_ 58) m5 453)::
(nat_lit 460,cO "brought" "brought" 808 305 4 3 455 815)::
(nat_lit 461,fO "brought" "brought" (at_ 59) m5 460)::
(nat_lit 467,cO "worths_against" "worths_against" 820 308 3 3 462 827)::
(nat_lit 468,fO "worths_against" "worths_against" (at_ 61) m6 467)::
(nat_lit 474,cO "against" "against" 830 312 3 3 469 840)::
(nat_lit 475,fO "against" "against" (at_ 62) m6 474)::
(nat_lit 481,cO "started" "started" 845 323 3 3 476 851)::
(nat_lit 482,fO "started" "started" (at_ 64) m7 481)::
(nat_lit 483,⟨(.type "tuple"),none,(.seq #[(.str "one" 854), .none] 0), #[]⟩)::
(nat_lit 489,cO "mended" "mended" 855 327 3 3 484 865)::
(nat_lit 490,⟨(.type "function"),none,(.func ⟨"mended","mended",(dA (at_ 65)),(.stmts (dB (at_ 65))),(dS (at_ 65)),3,[],(.ref 483), .none, .none,m7,none,(.ref 489), .none,0⟩), #[]⟩)::
(nat_lit 496,cO "worths" "worths" 868 337 1 3 491 872)::
(nat_lit 497,fO "worths" "worths" (at_ 66) m7 496)::
(nat_lit 503,cO "_law_far" "_law_far" 877 340 2 3 498 882)::
(nat_lit 504,fO "_law_far" "_law_far" (at_ 68) m8 503)::
(nat_lit 510,cO "_law_number" "_law_number" 885 342 2 3 505 892)::
(nat_lit 511,fO "_law_number" "_law_number" (at_ 69) m8 510)::
(nat_lit 517,cO "_law_rest" "_law_rest" 895 348 2 3 512 901)::
(nat_lit 518,fO "_law_rest" "_law_rest" (at_ 70) m8 517)::
(nat_lit 524,cO "_law_lowest" "_law_lowest" 904 353 2 3 519 911)::
(nat_lit 525,fO "_law_lowest" "_law_lowest" (at_ 71) m8 524)::
(nat_lit 531,cO "_law_share" "_law_share" 914 359 1 3 526 919)::
(nat_lit 532,fO "_law_share" "_law_share" (at_ 72) m8 531)::
(nat_lit 538,cO "_law_pay" "_law_pay" 922 362 1 3 533 926)::
(nat_lit 539,fO "_law_pay" "_law_pay" (at_ 73) m8 538)::
(nat_lit 543,dO "_law_doors" "_law_doors" 929 366 5 3 540 932)::
(nat_lit 544,fO "_law_doors" "_law_doors" (at_ 74) m8 543)::
(nat_lit 548,dO "_law_rows" "_law_rows" 935 377 3 3 545 938)::
(nat_lit 549,fO "_law_rows" "_law_rows" (at_ 75) m8 548)::
(nat_lit 555,cO "_law_sum" "_law_sum" 941 393 3 3 550 950)::
(nat_lit 556,fO "_law_sum" "_law_sum" (at_ 76) m8 555)::
(nat_lit 562,cO "_law_table" "_law_table" 953 400 2 3 557 962)::
(nat_lit 563,fO "_law_table" "_law_table" (at_ 77) m8 562)::
(nat_lit 569,cO "_law_pick" "_law_pick" 965 410 2 3 564 970)::
(nat_lit 570,fO "_law_pick" "_law_pick" (at_ 78) m8 569)::
(nat_lit 576,cO "_law_worth_rules" "_law_worth_rules" 973 412 4 3 571 988)::
(nat_lit 577,fO "_law_worth_rules" "_law_worth_rules" (at_ 79) m8 576)::
(nat_lit 581,dO "law" "law" 991 427 1 3 578 994)::
(nat_lit 582,fO "law" "law" (at_ 80) m8 581)::[]
noncomputable abbrev H:Hook:=kHook K [2,3,23,24,37,49,68,87,106,125,133,134,140,141,147,148,154,155,161,162,168,169,170,176,177,183,184,190,191,195,196,200,201,205,206,212,213,214,220,221,227,228,234,235,241,242,253,254,260,261,267,268,274,275,281,282,288,289,300,301,305,306,310,311,315,316,318,319,329,330,336,337,343,344,348,349,353,354,360,361,372,373,377,378,384,385,391,392,398,399,405,406,412,413,417,418,424,425,429,430,434,435,441,442,446,447,453,454,460,461,467,468,474,475,481,482,483,489,490,496,497,503,504,510,511,517,518,524,525,531,532,538,539,543,544,548,549,555,556,562,563,569,570,576,577,581,582] (λ_=>by kernel_rfl)
abbrev Xt:Shared->Bool:=λs=>xlAt q [] s&&recOk (RowW.records row.toRowW) s
structure Z where
  o:List (List Obj)
  n:Nat
  t:Nat
  g:List DictEntry
  c:List (List Value)
  m:Value
  s:List Value
noncomputable def tu(l:List Value):Obj:=⟨.type "tuple",none, .seq ⟨l⟩ 0, #[]⟩
noncomputable def fl(c:Value)(l:List Value):Obj:=⟨c,none, .fields ⟨l⟩, #[]⟩
noncomputable def ss:List Str->Nat->List Value
  | [],_=>[]
  | x::r,t=> .str x t::ss r (t+1)
noncomputable def lo:List (Str×NameKind)->List Str
  | []=>[]
  | (x, .local)::r=>x::lo r
  | _::r=>lo r
noncomputable def cd(x q:Str)(t l a k b:Nat)(f:Bool)(v w z:Value)(e:Nat):Obj:=fl (.type "code") [.str x t, .str q (t+1), .str "/claim/cut.py" (t+2), .int l 0, .int a 0, .int 0 0, .int 0 0, .int k 0, .ref b, .bool f, .int 181 0, .ref (b+1), .none,v,w,z, .int e 0, .int l 0, .str "/claim/cut.py" (e+1)]
noncomputable def dfO (d:Value) (x q:Str) (a:Arguments) (b:List Stmt) (s:Scope) (l:Nat) (m:Value) (n t:Nat):List Obj×Nat:=
  let f (c:Value) (g:Nat) (d m h:Value):Obj:=⟨c,none, .func ⟨x,q,a, .stmts b,s,g,[],d, .none, .none,m,none,h, .none,0⟩, #[]⟩
  match s.more with
  | []=>let v:=lo s.names
    ([tu [],fl .none [],tu (ss v (t+3)),tu [],f .none 0 .none .none .none,cd x q t l a.args.length 3 n true (.ref (n+2)) (.ref (n+3)) (.ref (n+4)) (t+3+v.length),f (.type "function") 3 d m (.ref (n+5))],t+5+v.length)
  | _=>([tu [],fl .none [],f .none 0 .none .none .none,cd x q t l a.args.length 3 n true .none .none (.ref (n+2)) (t+3),f (.type "function") 3 d m (.ref (n+3))],t+5)
noncomputable def mt (P:Params) (x:Str) (m:Value):List Stmt->Nat->Nat->List Obj×List DictEntry×List Value×Nat×Nat
  | .FunctionDef y a b _ _ _ s _ _ p::r,n,t=>match dfO .none y (x++"."++y) a b s p.line m n t with
    | (os,k)=>match mt P x m r (n+os.length) (k+1) with
      | (o,e,c,w)=>(os++o,en P y k (.ref (n+os.length - 1))::e, .int p.line 0:: .int p.col 0:: .ref (n+os.length - 2)::c,w)
  | _::r,n,t=>mt P x m r n t
  | [],n,t=>([],[],[],n,t)
noncomputable def ty(x:Str)(bs mro:List Value)(d t:Nat)(b:Option Value)(w:String)(s:List Value):Obj:=⟨.type "type",none, .cls ⟨x,bs, .ref (d+1)::mro,d,x,true,[],s,false,none,false⟩, #[b,none,some (.str x t),some (.str x (t+8)),some (.builtin w),some (.bool true)]⟩
noncomputable abbrev VE:List Value:=[.type "ValueError", .type "Exception", .type "BaseException", .type "object"]
noncomputable def clO (P:Params) (x:Str) (bs:List Expr) (b:List Stmt) (sa:List Str) (l:Nat) (m:Value) (n t:Nat):List Obj×Nat×Nat:=
  match mt P x m b (n+7) (t+12) with
  | (mo,me,mc,n2,t2)=>
    let k:=t2+sa.length
    let e1:=en P "__module__" (t+7) m
    let e2:=en P "__firstlineno__" (t+11) (.int l (t+10))
    let e3:=en P "__static_attributes__" k (.ref n2)
    let ds (w k:Nat) (x:List DictEntry):Obj:=⟨.type "dict",none, .dict ⟨e1::e2::(me++e3::(x++[en P "__doc__" k .none]))⟩ w, #[]⟩
    let de (x:Str) (t:Nat) (u:String) (v:Value):Obj:=fl (.type "getset_descriptor") [.str x t, .ref (n2+2), .builtin u,v]
    let h (bt:List Value) (r:List Obj):List Obj:=tu bt::fl (.type "builtin_function_or_method") [.builtin "type.__prepare__", .type "type"]::⟨.type "dict",none, .dict ⟨e1::en P "__qualname__" (t+9) (.str x (t+8))::e2::(me++[e3])⟩ (4+me.length), #[]⟩::tu []::fl .none mc::cd x x (t+2) l 0 0 (n+3) false .none .none .none (t+5)::⟨.type "frame",none, .plain, #[some (.ref (n+5)),some (.ref 3),some (.ref (n+2)),none,some m,none,some (.ref 0)]⟩::(mo++tu (ss sa t2)::(r++[fl (.type "super") [.ref (n2+2), .ref (n2+2), .ref (n2+2)],fl (.type "builtin_function_or_method") [.builtin "object.__init_subclass__", .ref (n2+2)]]))
    match bs with
    | []=>(h [] [ds 4 (k+5) [en P "__dict__" (k+2) (.ref (n2+3)),en P "__weakref__" (k+4) (.ref (n2+4))],ty x [.type "object"] [.type "object"] (n2+1) t none "object.__new__" [],de "__dict__" (k+1) "function.__dict__" (.builtin "function.__dict__#set"),de "__weakref__" (k+3) "ExceptionGroup.__weakref__" .none],k+7,n2+2)
    | _=>match n with
      | 15=>(h [.type "ValueError"] [ds 3 (k+3) [en P "__weakref__" (k+2) (.ref (n2+3))],ty x [.type "ValueError"] VE (n2+1) t (some (.ref n)) "ValueError.__new__" [],de "__weakref__" (k+1) "ExceptionGroup.__weakref__" .none],k+5,n2+2)
      | _=>(h [.ref 24] [ds 2 (k+1) [],ty x [.ref 24] (.ref 24::VE) (n2+1) t (some (.ref n)) "ValueError.__new__" []],k+3,n2+2)
noncomputable def ls:List Expr->Nat->List Value×Nat
  | .Constant (.str z) _ _::r,t=>match ls r (t+1) with
    | (v,k)=>(.str z t::v,k)
  | .Constant (.int z) _ _::r,t=>match ls r (t+1) with
    | (v,k)=>(.int z t::v,k)
  | .Constant .none _ _::r,t=>match ls r t with
    | (v,k)=>(.none::v,k)
  | _,t=>([],t)
noncomputable def gv(x:Str):List DictEntry->Value
  | ⟨_, .str y _,v⟩::r=>if x=y then v else gv x r
  | _=> .none
noncomputable def dv (P:Params) (g:List DictEntry):List (Option Expr)->List Expr->Nat->List DictEntry×Nat
  | some (.Constant (.str z) _ _)::r, .Name x _::u,t=>match dv P g r u (t+1) with
    | (e,k)=>(en P z t (gv x g)::e,k+1)
  | some (.Constant (.str z) _ _)::r,c::u,t=>match ls [c] (t+1) with
    | (v,k)=>match dv P g r u k with
      | (e,k)=>(en P z t (v.headD .none)::e,k+1)
  | _,_,t=>([],t)
noncomputable def stp (P:Params) (z:Z):Stmt->Z
  | .FunctionDef x a b _ _ _ s _ _ p=>match a.defaults with
    | []=>match dfO .none x x a b s p.line z.m z.n z.t with
      | (os,k)=>{z with o:=os::z.o,n:=z.n+os.length,t:=k+1,g:=en P x k (.ref (z.n+os.length - 1))::z.g,c:=[.int p.line 0, .int p.col 0, .ref (z.n+os.length - 2)]::z.c}
    | ds=>match ls ds z.t with
      | (v,k)=>match dfO (.ref z.n) x x a b s p.line z.m (z.n+1) k with
        | (os,k)=>{z with o:=os::[tu v]::z.o,n:=z.n+1+os.length,t:=k+1,g:=en P x k (.ref (z.n+os.length))::z.g,c:=[.int p.line 0, .int p.col 0, .ref (z.n+os.length - 1)]::z.c}
  | .ClassDef x bs _ b _ _ _ _ _ sa p=>match clO P x bs b sa p.line z.m z.n z.t with
    | (os,k,d)=>{z with o:=os::z.o,n:=z.n+os.length,t:=k+1,g:=en P x k (.ref d)::z.g,c:=[.int p.line 0, .int p.col 0, .ref (z.n+5)]::z.c,s:=match z.n with
        | 15=>[]
        | _=>match bs with
          | []=>z.s
          | _=> .ref d::z.s}
  | .Assign [.Name x _] (.Tuple es _ _) _=>match ls es z.t with
    | (v,k)=>{z with o:=[tu v]::z.o,n:=z.n+1,t:=k+1,g:=en P x k (.ref z.n)::z.g}
  | .Assign [.Name x _] (.Dict ks vs _) _=>match dv P z.g ks vs z.t with
    | (e,k)=>{z with o:=[⟨.type "dict",none, .dict ⟨e⟩ e.length, #[]⟩]::z.o,n:=z.n+1,t:=k+1,g:=en P x k (.ref z.n)::z.g}
  | .Assign [.Name x _] c _=>match ls [c] z.t with
    | (v,k)=>if x="__name__" then {z with t:=k+1,m:=v.headD .none} else {z with t:=k+1,g:=en P x k (v.headD .none)::z.g}
  | _=>z
noncomputable def z0:Z:=⟨[],15,187,[],[], .str "__main__" 164,[]⟩
noncomputable def zs(P:Params)(k:Nat):Z:=((behindTheImports row.prog).take k).foldl (stp P) z0
noncomputable def g9(P:Params)(m:Value):List DictEntry:=[en P "__name__" 165 m,en P "__doc__" 166 .none,en P "__package__" 167 .none,en P "__loader__" 168 (.builtin "__main__.__loader__#opaque"),en P "__spec__" 169 .none,en P "__annotations__" 170 (.ref 6),en P "__builtins__" 171 (.ref 4),en P "__file__" 173 (.str "/claim/cut.py" 172),en P "__cached__" 174 .none]
noncomputable def zl(P:Params)(z:Z):List Obj:=boot_o_0 P::boot_o_1 P::boot_o_2 P::⟨.type "dict",none, .dict ⟨g9 P z.m++z.g.reverse⟩ (z.g.length+9), #[]⟩::boot_o_4 P::boot_o_5 P::boot_o_6 P::boot_o_7 P::boot_o_8 P::boot_o_9 P::boot_o_10 P::tu []::fl .none z.c.reverse.flatten::cd "<module>" "<module>" 182 1 0 0 11 false .none .none .none 185::⟨.type "frame",none, .plain, #[some (.ref 13),some (.ref 3),some (.ref 3),none,some (.str "__main__" 164),none,some (.ref 0)]⟩::(z.o.reverse.flatten.set 9 (ty "DuelError" [.type "ValueError"] VE 23 189 (some (.ref 15)) "ValueError.__new__" z.s.reverse))
noncomputable def od:List Obj->List Obj
  | x::_::r=>x::od r
  | l=>l
noncomputable def mkT:Nat->List Obj->BT
  | 0,_=> .nil
  | _,[]=> .nil
  | n+1,x::r=> .node x (mkT n (od r)) (mkT n (od r.tail))
noncomputable def T(P:Params)(k:Nat):BT:=mkT 12 (zl P (zs P k))
noncomputable abbrev S(k n t:Nat)(w:World)(os:OsState):SharedT:=⟨T w.params k,n,{}, #[],{},t,os⟩
noncomputable def env:Env:={scope:=row.prog.main.scope,locals:=mainNs,globals:=mainNs,cells:=[],code:= .ref 13,frame:=some 14}
noncomputable abbrev bI:List Stmt:=behindTheImports row.prog
noncomputable def cE:Code:= .body bI env
noncomputable abbrev tF:List Frame:=[topFrame ⟨0,0,0,0⟩]
noncomputable abbrev sg(w:World)(os:OsState)(N k n t:Nat)(p:Pos)(l:Nat):=segRunT treeTable row.prog w 11 (some (.ref 6)) 1 N (S k n t w os) (piecesOf ((bI.drop k).take l) env cE p tF)
noncomputable abbrev sr(w:World)(os:OsState)(k n t:Nat)(p:Pos):Option (Flow×SharedT×Code×Pos):=some (.next,S k n t w os,cE,p)
noncomputable abbrev se(w:World)(N k n t:Nat)(p:Pos)(l:Nat)(k' n' t':Nat)(p':Pos):Prop:=(λos=>sg w os N k n t p l)=λos=>sr w os k' n' t' p'
theorem lw:looseW q ["TURNED_KINDS","mended"]=(["TURNED_KINDS","mended","HANDS"]:List Str):=by kernel_rfl
theorem s0(w:World):se w 2060 0 15 187 ⟨0,0,0,0⟩ 29 29 214 459 ⟨91,0,91,17⟩:=by kernel_rfl
theorem s29f(w:World):se (w.withFollow "special-get-raises" false) 56 29 214 459 ⟨91,0,91,17⟩ 1 30 215 469 ⟨92,0,92,12⟩:=by kernel_rfl
theorem s29t(w:World):se (w.withFollow "special-get-raises" true) 56 29 214 459 ⟨91,0,91,17⟩ 1 30 215 469 ⟨92,0,92,12⟩:=by kernel_rfl
theorem s29(w:World):se w 56 29 214 459 ⟨91,0,91,17⟩ 1 30 215 469 ⟨92,0,92,12⟩:=byRow2 "special-get-raises" (P:=λw=>se w 56 29 214 459 ⟨91,0,91,17⟩ 1 30 215 469 ⟨92,0,92,12⟩) s29f s29t w
theorem s30(w:World):se w 1941 30 215 469 ⟨92,0,92,12⟩ 51 81 583 997 ⟨427,0,449,125⟩:=by kernel_rfl
theorem pre(w:World)(os:OsState):topGo treeTable row.prog w 11 (some (.ref 6)) 12 ⟨boot_heap w.params, #[],boot_drawn,boot_toks,os⟩ (topStub row.prog)=some ((S 0 15 187 w os).abs,⟨denote treeTable cE,cE,⟨0,0,0,0⟩,tF⟩):=by kernel_rfl
theorem blk(w:World)(os:OsState):segRun treeTable row.prog w 11 (some (.ref 6)) 1 1 (S 0 15 187 w os).abs (blockOf bI env cE ⟨0,0,0,0⟩ tF)=some (.next,(S 0 15 187 w os).abs,cE,⟨0,0,0,0⟩):=by kernel_rfl
theorem fin(w:World)(s:Shared)(p:Pos):topRun treeTable row.prog w 11 (some (.ref 6)) 2 s (restOf (bI.drop 81) env cE p tF)=some s:=by rewrite [show bI.drop 81=[] by kernel_rfl];rfl
theorem siz(w:World):((boot_heap w.params).isNs mainGlobals&&(#[]:Array GenState).size==0,(boot_heap w.params).objs.size,(boot_heap w.params).nsMap mainGlobals "__annotations__")=(true,11,some (.ref 6)):=by kernel_rfl
theorem opn:opening row.prog=plainProg row.prog.main.scope.names:=by kernel_rfl
theorem fen(s:Shared):fenceModules? row.prog s=some s:=by kernel_rfl
theorem pc{w:World}{n N k l:Nat}{s s':SharedT}{r:Shared}{p p':Pos}(h:segRunT treeTable row.prog w 11 (some (.ref 6)) 1 n s (piecesOf ((bI.drop k).take l) env cE p tF)=some (.next,s',cE,p'))(g:topRun treeTable row.prog w 11 (some (.ref 6)) N s'.abs (restOf (bI.drop (k+l)) env cE p' tF)=some r):topRun treeTable row.prog w 11 (some (.ref 6)) (n+N) s.abs (restOf (bI.drop k) env cE p tF)=some r:=by
  have e:(bI.drop k).take l++bI.drop (k+l)=bI.drop k:=by rw [<-List.drop_drop,List.take_append_drop]
  rewrite [<-e];exact piece_app (segRun_of h) g
theorem run(w:World)(os:OsState):topRun treeTable row.prog w 11 (some (.ref 6)) (12+(1+(2060+(56+(1941+(2)))))) ⟨boot_heap w.params, #[],boot_drawn,boot_toks,os⟩ (topStub row.prog)=some (S 81 583 997 w os).abs:=go_top (pre w os) (piece_block (blk w os) (pc (congrFun (s0 w) os) (pc (congrFun (s29 w) os) (pc (congrFun (s30 w) os) (fin w _ _)))))
noncomputable abbrev sE(w:World)(os:OsState):Shared:=(S 81 583 997 w os).abs
theorem l1(w:World)(os:OsState):(staticsOk (importedModules row.prog.main.body) (boot_heap w.params) (sE w os).heap&&namesBound row.prog (sE w os).heap&&gensDone (sE w os)&&laidKept (boot_heap w.params) (sE w os).heap)=true:=by kernel_rfl
section
variable{A B D E F G I J:Type}{u t:A×B×Bool×D×E×F×G×I×J}
noncomputable def p1:A×B×Bool×D×E×F×G×I×J->A
  | (a,_,_,_,_,_,_,_,_)=>a
noncomputable def p2:A×B×Bool×D×E×F×G×I×J->B
  | (_,b,_,_,_,_,_,_,_)=>b
noncomputable def p4:A×B×Bool×D×E×F×G×I×J->Bool
  | (_,_,c,_,_,_,_,_,_)=>c
noncomputable def p3:A×B×Bool×D×E×F×G×I×J->D
  | (_,_,_,d,_,_,_,_,_)=>d
noncomputable def p5:A×B×Bool×D×E×F×G×I×J->E
  | (_,_,_,_,e,_,_,_,_)=>e
noncomputable def p6:A×B×Bool×D×E×F×G×I×J->F
  | (_,_,_,_,_,f,_,_,_)=>f
noncomputable def p7:A×B×Bool×D×E×F×G×I×J->G
  | (_,_,_,_,_,_,g,_,_)=>g
noncomputable def p8:A×B×Bool×D×E×F×G×I×J->I
  | (_,_,_,_,_,_,_,g,_)=>g
noncomputable def p9:A×B×Bool×D×E×F×G×I×J->J
  | (_,_,_,_,_,_,_,_,g)=>g
theorem q6{a b c d e f g i j}:p6 ((a,b,c,d,e,f,g,i,j):A×B×Bool×D×E×F×G×I×J)=f:=rfl
theorem pr(h:p1 u=t.1)(g:p2 u=t.2.1)(g1:p4 u=true)(g2:t.2.2.1=true)(k:p3 u=t.2.2.2.1)(k1:p5 u=t.2.2.2.2.1)(k2:p6 u=t.2.2.2.2.2.1)(k3:p7 u=t.2.2.2.2.2.2.1)(k4:p8 u=t.2.2.2.2.2.2.2.1)(k5:p9 u=t.2.2.2.2.2.2.2.2):u=t:=Prod.ext h (Prod.ext g (Prod.ext (g1.trans g2.symm) (Prod.ext k (Prod.ext k1 (Prod.ext k2 (Prod.ext k3 (Prod.ext k4 k5)))))))
end
noncomputable abbrev sn(w:World)(os:OsState):=openSeen q ["TURNED_KINDS","mended"] (importedModules row.prog.main.body) Xt true (sE w os)
noncomputable abbrev gd:=openGood q ["TURNED_KINDS","mended"]
variable(w:World)(os:OsState)
theorem la:p1 (sn w os)=gd.1:=by kernel_rfl
theorem lb:p2 (sn w os)=gd.2.1:=by kernel_rfl
theorem lp:(sE w os).heap.keysOk (looseW q ["TURNED_KINDS","mended"]) ((recsOf q).map (·.name)) ((litsOf q).map (·.1)) ((clssOf q (looseW q ["TURNED_KINDS","mended"])).map (·.name))=true:=by rw[lw];kernel_rfl
theorem lq:(sE w os).heap.accountedOkI (importedModules row.prog.main.body)=true:=by kernel_rfl
theorem lr:(sE w os).heap.isNs mainGlobals=true:=by kernel_rfl
theorem lt:(sE w os).heap.isNs builtinsNs=true:=by kernel_rfl
theorem lu:tablesOk q (sE w os).heap=true:=by kernel_rfl
theorem lv:Xt (sE w os)=true:=by kernel_rfl
theorem p4e(s:Shared):p4 (openSeen q ["TURNED_KINDS","mended"] (importedModules row.prog.main.body) Xt true s)=(s.heap.keysOk (looseW q ["TURNED_KINDS","mended"]) ((recsOf q).map (·.name)) ((litsOf q).map (·.1)) ((clssOf q (looseW q ["TURNED_KINDS","mended"])).map (·.name))&&s.heap.accountedOkI (importedModules row.prog.main.body)&&s.heap.isNs mainGlobals&&s.heap.isNs builtinsNs&&tablesOk q s.heap&&Xt s&&(s.gens.size==0)):=rfl
theorem ld:p4 (sn w os)=true:=(p4e _).trans (look_both (look_both (look_both (look_both (look_both (look_both (lp w os) (lq w os)) (lr w os)) (lt w os)) (lu w os)) (lv w os)) rfl)
theorem na:(((recsOf q).take 50).all λd=>(sE w os).heap.tab0Ok d.name)=true:=by kernel_rfl
theorem ne:(((recsOf q).drop 50).all λd=>(sE w os).heap.tab0Ok d.name)=true:=by kernel_rfl
theorem nt{α}{l:List α}{f}(h:(l.take 50).all f=true)(g:(l.drop 50).all f=true):l.all f=true:=by rw[<-l.take_append_drop 50,List.all_append,h,g];rfl
theorem nb:(sE w os).heap.bmainOk=true:=by kernel_rfl
theorem nc:valsOk q (sE w os).heap=true:=by kernel_rfl
theorem nd:(!importsNone q||(sE w os).heap.noSeerOk)=true:=by kernel_rfl
theorem p3e(s:Shared):p3 (openSeen q ["TURNED_KINDS","mended"] (importedModules row.prog.main.body) Xt true s)=tabsOk q s:=rfl
theorem lc:p3 (sn w os)=gd.2.2.2.1:=(p3e _).trans (look_both (look_both (look_both (nt (na w os) (ne w os)) (nb w os)) (nc w os)) (nd w os))
theorem le:p5 (sn w os)=gd.2.2.2.2.1:=by kernel_rfl
theorem p6e(s:Shared):p6 (openSeen q ["TURNED_KINDS","mended"] (importedModules row.prog.main.body) Xt true s)=plainSeenE q (looseW q ["TURNED_KINDS","mended"]) s:=by delta openSeen;exact q6
theorem ga:plainSeenE q (looseW q ["TURNED_KINDS","mended"]) (sE w os)=plainGoodE q (looseW q ["TURNED_KINDS","mended"]):=by rw[lw];kernel_rfl
theorem lg:p6 (sn w os)=gd.2.2.2.2.2.1:=(p6e _).trans (ga w os)
theorem lh:p7 (sn w os)=gd.2.2.2.2.2.2.1:=by kernel_rfl
theorem lj:p8 (sn w os)=gd.2.2.2.2.2.2.2.1:=by kernel_rfl
theorem lm:p9 (sn w os)=gd.2.2.2.2.2.2.2.2:=by kernel_rfl
theorem l2:sn w os=gd:=pr (la w os) (lb w os) (ld w os) rfl (lc w os) (le w os) (lg w os) (lh w os) (lj w os) (lm w os)
theorem l3:H.obs (sE w os)=H.val w:=by kernel_rfl
theorem left:LeftO row.prog q ["TURNED_KINDS","mended"] Xt H.obs H.val 8234:=LeftO.of_pieces (H₀:=boot_heap) (H₁:=λP=>absHeap (T P 81) 583 {}) (gs₀:= #[]) (gs₁:= #[]) (d₀:=boot_drawn) (d₁:={}) (k₀:=boot_toks) (k₁:=997) (boot_open opn rfl fen) siz run rfl λw=>funext λos=>looks_pair (l1 w os) (looks_pair (l2 w os) (l3 w os))
end Hd
local macro_rules|`(())=>`(by omega)
local macro_rules|`(@_)=>`(by decide)
open Lean in
def rpt:Nat → Term → MacroM (TSyntax `rcasesPat)
|0,_=>Macro.throwUnsupported
|n+1,t=>match t with
|`(⟨$a,*⟩)=>do
 let b←a.getElems.mapM (rpt n)
 let b←b.mapM λp=>`(Lean.Parser.Tactic.rcasesPatLo|$p:rcasesPat)
 `(rcasesPat|⟨$b,*⟩)
|`(_)=>`(rcasesPat|_)
|`($x:ident)=>`(rcasesPat|$x:ident)
|_=>Macro.throwUnsupported
open Lean in
local macro_rules|`(tactic|have ⟨$a,*⟩:=$e)=>do
 let p←rpt 99 (←`(⟨$a,*⟩))
 `(tactic|obtain $p:rcasesPat:=$e)
open Lean in
local macro_rules|`(λ$xs*=>$b)=>do
 let mut ys:=#[]
 let mut ts:=#[]
 if (←MonadRef.getRef)[0].isToken "fun" then Macro.throwUnsupported
 for x in xs do
  if x.1.isOfKind `Lean.Parser.Term.anonymousCtor then
   let p←rpt 99 ⟨x.1⟩
   let y←withFreshMacroScope `(h)
   ys:=ys.push y
   ts:=ts.push (←`(tactic|obtain $p:rcasesPat:=$y))
  else ys:=ys.push ⟨x.1⟩
 if ts.isEmpty then Macro.throwUnsupported
 `(λ$ys*=>by{$[$ts]*;exact $b})
set_option hygiene false in
local macro_rules|`($g &&& ($F,$a,$n))=>`(mc $g (($F).binds λ_ _ _ _ _ _=>$n) (mg_of X G $a) ($F).kp)
set_option hygiene false in
local macro_rules|`($g ||| ($F,$a,$i,$n))=>`(⟨$g,(($F).binds λ_ _ _ _ _ _=>$n),⟨fL,fX,fT,fM⟩,⟨$a,$i,($F).kp⟩⟩)
set_option genSizeOf false
set_option bootstrap.genMatcherCode false
noncomputable def PySem.W.Fast.tw16802624906221846062:=PySem.Challenge.pw_chanceduel_k63_whole_a_play_accounted_fo
theorem PySem.W.Fast.te16802624906221846062:PySem.Challenge.pw_chanceduel_k63_whole_a_play_accounted_fo=PySem.W.Fast.tw16802624906221846062:=rfl
def gV:2<=PySem.sizeLine:=@_
abbrev fI:=PySem.W.Frag
namespace L2
open PySem PySem.Spec PyProof.Rows
variable{us:List Value}{a b dx C:Addr}{P prog:Program}{w:World}{h h' base:Heap}{ζ:List (Addr×Obj)}{s:Shared}{g':Array GenState}{ch fp:List Addr}{i:Nat}{x:Str}{M:Model}{A:Around}{E Q:Value->Shared->Prop}{u:Value}{pos:Pos}{e c tg:Expr}{es:List Expr}{body:List Stmt}{f:Value->Value->Sem Value}{op:CmpOp}{mA mg:Str->Option Value}{kw:List (Str×Value)}{outer:List Env}{ps:List Str}
abbrev Key:=Sum Int Str
def vp:Key->Value->Bool
 | .inl k,v=>Value.isInt k v
 | .inr x,v=>Value.isStrOf x v
def XJ(w:World):Key->Int
 | .inl k=>hashInt k
 | .inr x=>hashStr w x
def bO:∀{k:Key} {v:Value},vp k v=true->(∃i t,k=Sum.inl i/\v=Value.int i t)\/(∃x t,k=Sum.inr x/\v=Value.str x t)
 | .inl i,v,h=>by have⟨t,e⟩:=Value.isInt_shape (k:=i) (v:=v) h;exact .inl ⟨i,t,rfl,e⟩
 | .inr x,v,h=>by have⟨t,e⟩:=Value.isStrOf_shape (x:=x) (v:=v) h;exact .inr ⟨x,t,rfl,e⟩
def GU(i:Int)(t:Tok):vp (.inl i) (.int i t)=true:=by simp[vp,Value.isInt]
def Gw(x:Str)(t:Tok):vp (.inr x) (.str x t)=true:=by simp[vp,Value.isStrOf]
def QZ(a b:Int):decide ((Sum.inl a:Key)=Sum.inl b)=(a==b):=by
 by_cases e:a=b
 ·subst e;simp
 ·have h:¬(Sum.inl a:Key)=Sum.inl b:=λq=>e (Sum.inl.inj q);rw[aaG h];exact(beq_eq_false_iff_ne.mpr e).symm
def Qb(a b:Str):decide ((Sum.inr a:Key)=Sum.inr b)=decide (a=b):=by
 by_cases e:a=b
 ·subst e;simp
 ·have h:¬(Sum.inr a:Key)=Sum.inr b:=λq=>e (Sum.inr.inj q);rw[aaG h,aaG e]
def Q_(a:Int)(b:Str):decide ((Sum.inl a:Key)=Sum.inr b)=false:=aaG nofun
def Qs(a:Str)(b:Int):decide ((Sum.inr a:Key)=Sum.inl b)=false:=aaG nofun
def bV(prog:Program)(w:World):PySem.KeyKind prog w Key where
 is:=vp
 hash:=XJ w
 inj:=λv a b ha hb=>by
  rcases bO ha with ⟨i,t,rfl,rfl⟩| ⟨x,t,rfl,rfl⟩
  ·rcases bO hb with ⟨j,u,rfl,e⟩| ⟨y,u,rfl,e⟩
   ·injection e with e1 _;rw[e1]
   ·exact nomatch e
  ·rcases bO hb with ⟨j,u,rfl,e⟩| ⟨y,u,rfl,e⟩
   ·exact nomatch e
   ·injection e with e1 _;rw[e1]
 byValue:=λk v h=>by rcases bO h with ⟨i,t,rfl,rfl⟩| ⟨x,t,rfl,rfl⟩ <;> rfl
 pyHash:=λhv h=>by
  rcases bO hv with ⟨i,t,rfl,rfl⟩| ⟨x,t,rfl,rfl⟩
  ·exact wpAny_pyHash_int h
  ·exact wpAny_pyHash_str h
 eqBool:=λhu hv h=>by
  rcases bO hu with ⟨i,t,rfl,rfl⟩| ⟨x,t,rfl,rfl⟩
  ·rcases bO hv with ⟨j,u,rfl,rfl⟩| ⟨y,u,rfl,rfl⟩
   ·rw[QZ]at h;exact wpAny_eqBool_int h
   ·rw[Q_]at h;exact SeqAt.EqAt.int_str i t y u _ _ _ _ h
  ·rcases bO hv with ⟨j,u,rfl,rfl⟩| ⟨y,u,rfl,rfl⟩
   ·rw[Qs]at h;exact SeqAt.EqAt.str_int x t j u _ _ _ _ h
   ·rw[Qb]at h;exact wpAny_eqBool_str h
 «strs»:=λk x t v h=>by
  rcases bO h with ⟨i,u,rfl,e⟩| ⟨y,u,rfl,e⟩
  ·exact nomatch e
  ·injection e with e1 _
   subst e1;cases v <;> rfl
def z_(prog:Program)(w:World)(i:Int)(t:Tok):(bV prog w).is (.inl i) (.int i t)=true:=GU i t
def zt(prog:Program)(w:World)(x:Str)(t:Tok):(bV prog w).is (.inr x) (.str x t)=true:=Gw x t
inductive V where
 | bU| bl (b:Bool)| int (i:Int)| str (x:Str)| Ii (b:Array UInt8)| Wx (b:UInt64)| ref (a:Addr)| ty (n:String)
 deriving DecidableEq
variable{v:V}
def aS:V->Value->Prop
 | .bU,u=>u=Value.none
 | .bl b,u=>u=Value.bool b
 | .int i,u=>∃t,u=Value.int i t
 | .str x,u=>∃t,u=Value.str x t
 | .Ii b,u=>∃t,u=Value.bytes b t
 | .Wx b,u=>∃t,u=Value.float b t
 | .ref a,u=>u=Value.ref a
 | .ty n,u=>u=Value.type n
abbrev aH:List V->List Value->Prop:=Paired aS
def aH.length{xs:List V}(r:aH xs us):xs.length=us.length:=Paired.length r
def aH.get:∀{xs:List V} {us:List Value} {i:Nat} {x:V},aH xs us->xs[i]? =some x->∃u,us[i]? =some u/\aS x u
 | _,_,_,_,.nil,e=>by simp at e
 | _,_,0,_,.cons r _,e=>by simp at e;subst e;exact⟨_,rfl,r⟩
 | _,_,i+1,x,.cons _ t,e=>by have⟨u,h1,h2⟩:=aH.get (i:=i) (x:=x) t (by simpa using e);exact⟨u,by simpa using h1,h2⟩
def aH.set{x:V}{u:Value}(r:aS x u):∀{xs:List V} {us:List Value} (i:Nat),aH xs us->aH (xs.set i x) (us.set i u)
 | _,_,_,.nil=>.nil
 | _,_,0,.cons _ t=>.cons r t
 | _,_,i+1,.cons q t=>.cons q (aH.set r i t)
def aH.append:∀{xs ys:List V} {us ws:List Value},aH xs us->aH ys ws->aH (xs++ys) (us++ws)
 | _,_,_,_,.nil,s=>s
 | _,_,_,_,.cons r t,s=>.cons r (aH.append t s)
def aH.take:∀{xs:List V} {us:List Value} (n:Nat),aH xs us->aH (xs.take n) (us.take n)
 | _,_,0,_=>.nil
 | _,_,_+1,.nil=>.nil
 | _,_,n+1,.cons r t=>.cons r (aH.take n t)
def aH.drop:∀{xs:List V} {us:List Value} (n:Nat),aH xs us->aH (xs.drop n) (us.drop n)
 | _,_,0,r=>r
 | _,_,_+1,.nil=>.nil
 | _,_,n+1,.cons _ t=>aH.drop n t
def lj:Option V->Option Value->Prop
 | some v,some u=>aS v u
 | none,none=>True
 | _,_=>False
def KV{κ:Type}:List (κ×V)->List (κ×Value)->Prop:=Paired λ(p:κ×V) (q:κ×Value)=>p.1=q.1/\aS p.2 q.2
def kV:Key->V
 | .inl i=>.int i
 | .inr x=>.str x
inductive HO where
 | lst (xs:List V)
 | tup (xs:List V)
 | dK (Ρ:List (Key×V))| dT (Ρ:List (List Key×V))
 | set (S:Int->Bool) (n:Nat)
 | ins (C dx:Addr) (fs:List (Str×V))
 | own (x:Addr)
 | xd (fs:List (Str×V))
 | met (f x:Addr)
 | Ys (lo hi:Int)
 | EA (o:Obj) (u:HO)
 | Mw (ps:Array Value)
 | ext (φ:Heap->Prop)
variable{o:HO}
abbrev Hp:=Addr->Option HO
def upd(H:Hp)(a:Addr)(o:HO):Hp:=λb=>if b=a then some o else H b
def az{H:Hp}:upd H a o a=some o:=by unfold upd;rw[if_pos rfl]
def Μ{H:Hp}(h:b≠a):upd H a o b=H b:=by unfold upd;rw[if_neg h]
def Sq{H:Hp}{u:HO}(h:H a=some o)(h':H b=some u)(d:o≠u):a≠b:=by intro e;subst e;rw[h]at h';exact d (aaJ h')
def cn{H:Hp}(h:H a=some o)(h':H b=none):a≠b:=by intro e;subst e;rw[h]at h';cases h'
section
variable(P:Program)(w:World)
def dE(H:Hp)(h:Heap)(a:Addr):HO->Prop
 | .lst xs=>xs.length<=sizeLine/\∃(its:List Value) (n:Nat),aH xs its/\h.get? a=some {cls:=.type "list",data:=.seq its.toArray n}
 | .tup xs=>xs.length<=sizeLine/\∃its:List Value,aH xs its/\IsTup h a its.toArray
 | .dK Ρ=>Ρ.length<=sizeLine/\(a==sysModules)=false/\∃vs,KV Ρ vs/\h.DictOf (bV P w) a vs
 | .dT Ρ=>Ρ.length<=sizeLine/\(a==sysModules)=false/\∃xs:List (List Key×Addr×Value),
   Paired (λ(p:List Key×V) (q:List Key×Addr×Value)=>p.1=q.1/\H q.2.1=some (.tup (p.1.map kV))/\aS p.2 q.2.2) Ρ xs/\
   ∃o es ep,h.get? a=some o/\o.ExactDict/\o.data= .dict es ep/\es.toList=xs.map (entryOfKey (tupleKind (bV P w)))/\(xs.map (·.1)).Nodup
 | .set S n=>h.SetOf (intKind P w) a S n
 | .ins C dx fs=>H dx=some (.own a)/\fs.length<=1000/\dx≠a/\h.get? a=some (PySem.W.instObj C dx)/\
   ∃mA,h.Ns1 dx mA/\(∀f,lj (fs.lookup f) (mA f))/\PySem.Within mA (fs.map (·.1))
 | .own _=>∃o,h.get? a=some o
 | .xd fs=>∃mA,h.Ns1 a mA/\∀f,lj (fs.lookup f) (mA f)
 | .Ys lo hi=>∃t u v,h.get? a=some {cls:=.type "range",data:=.fields #[.int lo t,.int hi u,.int 1 v]}
 | .EA o u=>h.get? a=some o/\dE H h a u
 | .Mw ps=>h.get? a=some {cls:=.none,data:=.fields ps}
 | .met f x=>h.get? a=some (PySem.W.methodObj (.ref f) (.ref x))
 | .ext φ=>φ h/\(∃o,h.get? a=some o)/\∀h1 h2:Heap,φ h1->(∀o,h1.get? a=some o->h2.get? a=some o)->φ h2
def me(H:Hp)(h:Heap):Prop:=∀a o,H a=some o->dE P w H h a o
end
section
variable{H H':Hp}
def dE.lt(x:dE P w H h a o):a < h.objs.size:=by
 cases o with
 | lst xs=>have⟨_,_,_,_,e⟩:=x;exact aaw e
 | tup xs=>have⟨_,_,_,p⟩:=x;exact p.lt
 | dK Ρ=>have⟨_,_,_,_,o,_,_,e,_⟩:=x;exact aaw e
 | dT Ρ=>have⟨_,_,_,_,o,_,_,e,_⟩:=x;exact aaw e
 | set S n=>have⟨o,_,_,_,e,_⟩:=x;exact aaw e
 | ins C dx fs=>have⟨_,_,_,e,_⟩:=x;exact aaw e
 | own y=>have⟨_,e⟩:=x;exact aaw e
 | xd fs=>have⟨_,⟨_,_,_,e,_⟩,_⟩:=x;exact aaw e
 | Ys lo hi=>have⟨_,_,_,e⟩:=x;exact aaw e
 | EA ob u=>have⟨e,_⟩:=x;exact aaw e
 | Mw ps=>exact aaw (show h.get? a=some _ from x)
 | met f y=>exact aaw (show h.get? a=some _ from x)
 | ext φ=>have⟨_,⟨_,e⟩,_⟩:=x;exact aaw e
def Paired.PD{α β:Type}{F G:α->β->Prop}:∀{l₁:List α} {l₂:List β},Paired F l₁ l₂->(∀a b,F a b->G a b)->Paired G l₁ l₂
 | _,_,.nil,_=>.nil
 | _,_,.cons r t,f=>.cons (f _ _ r) (Paired.PD t f)
def dE.Dx(x:dE P w H h a o)(k:∀b u,(b=a\/H b=some (.own a))->h.get? b=some u->h'.get? b=some u)
  (ho:∀b,H b=some (.own a)->H' b=some (.own a)) (ht:∀b xs,H b=some (.tup xs)->H' b=some (.tup xs)):dE P w H' h' a o:=by
 induction o with
 | lst xs=>have⟨z,its,n,r,e⟩:=x;exact⟨z,its,n,r,k _ _ (.inl rfl) e⟩
 | tup xs=>have⟨z,its,r,ob,e,c⟩:=x;exact⟨z,its,r,ob,k _ _ (.inl rfl) e,c⟩
 | dK Ρ=>have⟨z,y,vs,r,ob,es,ep,e,c⟩:=x;exact⟨z,y,vs,r,ob,es,ep,k _ _ (.inl rfl) e,c⟩
 | dT Ρ=>
  have⟨z,y,xs,r,ob,es,ep,e,c⟩:=x;exact⟨z,y,xs,Paired.PD r λp q z=>⟨z.1,ht _ _ z.2.1,z.2.2⟩,ob,es,ep,k _ _ (.inl rfl) e,c⟩
 | set S n=>have⟨ob,es,ep,t,e,c⟩:=x;exact⟨ob,es,ep,t,k _ _ (.inl rfl) e,c⟩
 | ins C dx fs=>
  have⟨d,z,ne,e,mA,⟨od,es,ep,e2,c⟩,r⟩:=x;exact⟨ho _ d,z,ne,k _ _ (.inl rfl) e,mA,⟨od,es,ep,k _ _ (.inr d) e2,c⟩,r⟩
 | own y=>have⟨ob,e⟩:=x;exact⟨ob,k _ _ (.inl rfl) e⟩
 | xd fs=>have⟨mA,⟨od,es,ep,e,c⟩,r⟩:=x;exact⟨mA,⟨od,es,ep,k _ _ (.inl rfl) e,c⟩,r⟩
 | Ys lo hi=>have⟨t,u,v,e⟩:=x;exact⟨t,u,v,k _ _ (.inl rfl) e⟩
 | EA ob u ih=>have⟨e,q⟩:=x;exact⟨k _ _ (.inl rfl) e,ih q⟩
 | Mw ps=>
  have e:h.get? a=some {cls:=.none,data:=.fields ps}:=x;show h'.get? a=some {cls:=.none,data:=.fields ps};exact k a _ (.inl rfl) e
 | met f y=>
  have e:h.get? a=some (PySem.W.methodObj (.ref f) (.ref y)):=x;show h'.get? a=some (PySem.W.methodObj (.ref f) (.ref y));exact k a _ (.inl rfl) e
 | ext φ=>have⟨p,⟨o,e⟩,st⟩:=x;exact⟨st _ _ p λo q=>k _ _ (.inl rfl) q,⟨o,k _ _ (.inl rfl) e⟩,st⟩
def me.lt(x:me P w H h)(e:H a=some o):a < h.objs.size:=(x a o e).lt
def me.fresh(x:me P w H h)(e:h.objs.size<=a):H a=none:=by
 cases q:H a with
 | none=>rfl
 | some u=>exact aaP (aat (x.lt q) e) (abJ _)
def me.kept(x:me P w H h)(k:∀b u,h.get? b=some u->h'.get? b=some u):me P w H h':=λa o e=>
 (x a o e).Dx (λb u _ q=>k b u q) (λ_ q=>q) λ_ _ q=>q
def me.laid(x:me P w H h)(k:∀b u,h.get? b=some u->h'.get? b=some u)(hp:h.objs.size<=a)(new:dE P w (upd H a o) h' a o):me P w (upd H a o) h':=λb u e=>by
 have hn:=x.fresh hp;by_cases hb:b=a
 ·subst hb;rw[az]at e;cases e;exact new
 ·rw[Μ hb]at e;exact(x b u e).Dx (λc v _ q=>k c v q) (λc q=>by rw[Μ (cn q hn)];exact q) λc xs q=>by rw[Μ (cn q hn)];exact q
end
def Rd(H:Hp)(a:Addr)(u:HO):Prop:=H a=some u\/∃o,H a=some (.EA o u)
def Rd.ok{H:Hp}{u:HO}(r:Rd H a u)(x:me P w H h):dE P w H h a u:=by
 rcases r with r| ⟨o,r⟩
 ·exact x a u r
 ·have⟨_,q⟩:=x a _ r;exact q
def R9:Option HO->Prop
 | some (.lst _)=>True
 | some (.dK _)=>True
 | some (.dT _)=>True
 | some (.set _ _)=>True
 | some (.ins _ _ _)=>True
 | some (.ext _)=>True
 | _=>False
section
variable{H:Hp}{x e:Addr}{o':HO}
def me.write(ok:me P w H h)(mu:R9 (H x))(he:e=x\/H e=some (.own x))(k:∀b u,b≠e->h.get? b=some u->h'.get? b=some u)(Sb:∃u,h'.get? e=some u)
  (new:dE P w (upd H x o') h' x o'):me P w (upd H x o') h':=λb u q=>by
 have Vy:∀c y,H c=some (.own y)->c≠x:=λc y r z=>by subst z;rw[r]at mu;exact mu
 have XO:∀c xs,H c=some (.tup xs)->c≠x:=λc xs r z=>by subst z;rw[r]at mu;exact mu
 by_cases hb:b=x
 ·subst hb;rw[az]at q;cases q;exact new
 ·rw[Μ hb]at q;by_cases Qo:b=e
  ·have q':H b=some (.own x):=by
    rcases he with z| z
    ·exact aaP (Qo.trans z) hb
    ·rw[Qo];exact z
   rw[q]at q';cases q';have⟨v,hv⟩:=Sb;exact⟨v,by rw[Qo];exact hv⟩
  ·refine(ok b u q).Dx (λc v hc r=>k c v ?_ r) (λc r=>by rw[Μ (Vy c b r)];exact r) λc xs r=>by rw[Μ (XO c xs r)];exact r
   rcases hc with rfl| hc
   ·exact Qo
   ·rintro rfl;rcases he with z| z
    ·exact Vy c b hc z
    ·rw[hc]at z;cases z;exact hb rfl
end
structure Un(fs ex:List Addr)(H H':Hp)(h h':Heap):Prop where
 keep:∀b o,h.get? b=some o->H b=none->b∉fs->b∉ex->h'.get? b=some o
 slot:∀b o,h.get? b=some o->H b=none->b∈fs->b∉ex->∃sl,h'.get? b=some {o with slots:=sl}
 free:∀b o,h.get? b=some o->H b=none->b∉ex->H' b=none
 there:∀b o,h.get? b=some o->b∉ex->∃o',h'.get? b=some o'
 qN:∀b xs,H b=some (.tup xs)->H' b=some (.tup xs)
 pe:∀b o u,H b=some (.EA o u)->H' b=some (.EA o u)
 qP:∀b ps,H b=some (.Mw ps)->∃more,H' b=some (.Mw (ps++more))
section
variable{fs X5 ex ex':List Addr}{H H1 H2:Hp}{h1 h2:Heap}{x e:Addr}
def Un.any(u:Un fs ex H H1 h h1){ob:Obj}(q:h.get? b=some ob)(n:H b=none)(hx:b∉ex):∃sl,h1.get? b=some {ob with slots:=sl}:=by
 by_cases hb:b∈fs
 ·exact u.slot b ob q n hb hx
 ·exact⟨ob.slots,u.keep b ob q n hb hx⟩
def Un.kept(k:∀b u,h.get? b=some u->h'.get? b=some u):Un fs ex H H h h':=
 ⟨λb ob q _ _ _=>k b ob q,λb ob q _ _ _=>⟨ob.slots,k b ob q⟩,λ_ _ _ n _=>n,λb ob q _=>⟨ob,k b ob q⟩,λ_ _ q=>q,λ_ _ _ q=>q,λ_ ps q=>⟨#[],by rw[q];simp⟩⟩
def Un.refl:Un fs ex H H h h:=Un.kept λ_ _ q=>q
def Un.laid(k:∀b u,h.get? b=some u->h'.get? b=some u)(hp:h.objs.size<=a)(hn:H a=none):Un fs ex H (upd H a o) h h' where
 keep:=λb u q _ _ _=>k b u q
 slot:=λb u q _ _ _=>⟨u.slots,k b u q⟩
 free:=λb u q n _=>by rw[Μ (aaU (aat (aaw q) hp))];exact n
 there:=λb u q _=>⟨u,k b u q⟩
 qN:=λb xs q=>by rw[Μ (cn q hn)];exact q
 pe:=λb u xs q=>by rw[Μ (cn q hn)];exact q
 qP:=λb ps q=>⟨#[],by rw[Μ (cn q hn),q];simp⟩
def Un.write(mu:R9 (H x))(he:e=x\/H e=some (.own x))(k:∀b u,b≠e->h.get? b=some u->h'.get? b=some u)(Sb:∃u,h'.get? e=some u):Un fs ex H (upd H x o) h h':=by
 have hx:∀b,H b=none->b≠x:=λb n z=>by subst z;rw[n]at mu;exact mu
 have hb:∀b,H b=none->b≠e:=λb n z=>by
  subst z;rcases he with r| r
  ·exact hx b n r
  ·rw[n]at r;cases r
 have hm:∀b u,H b=some u->¬R9 (some u)->b≠x:=λb u q nm z=>by subst z;rw[q]at mu;exact nm mu
 refine⟨λb u q n _ _=>k b u (hb b n) q,λb u q n _ _=>⟨u.slots,k b u (hb b n) q⟩,λb u q n _=>by rw[Μ (hx b n)];exact n,λb u q _=>?_,
  λb xs q=>by rw[Μ (hm b _ q λz=>z)];exact q,λb u xs q=>by rw[Μ (hm b _ q λz=>z)];exact q,λb ps q=>⟨#[],by rw[Μ (hm b _ q λz=>z),q];simp⟩⟩
 by_cases Qo:b=e
 ·subst Qo;exact Sb
 ·exact⟨u,k b u Qo q⟩
end
def Wg(h:Heap)(H:Hp):List Addr:=(List.range h.objs.size).filter λa=>(H a).isSome
def xx(h:Heap)(H:Hp):Heap:=PySem.W.hideAll h (Wg h H)
def FN(h:Heap)(H:Hp):(xx h H).objs.size=h.objs.size:=PySem.W.hideAll_size _ _
def Li{H:Hp}{o:Obj}(e:h.get? b=some o)(n:H b=none):(xx h H).get? b=some o:=
 PySem.W.hideAll_get _ e λhm=>by have q:(H b).isSome=true:=(List.mem_filter.mp hm).2;rw[n]at q;simp at q
def NX{H:Hp}{o:Obj}(e:(xx h H).get? b=some o):h.get? b=some o/\H b=none:=by
 have e':h.get? b=some o:=PySem.W.of_hideAll (Wg h H) e;refine⟨e',?_⟩;cases q:H b with
 | none=>rfl
 | some x=>
  have hm:b∈Wg h H:=List.mem_filter.mpr ⟨List.mem_range.mpr (Heap.lt_size e'),by simp[q]⟩;have z:(xx h H).get? b=none:=PySem.W.hideAll_none (Wg h H) hm;rw[z]at e;cases e
structure Mod(K:fI)(mg:Str->Option Value)(base:Heap):Prop where
 Tr:K.In base
 glob:base.Ns mainGlobals mg
 blt:∃mb,base.Ns builtinsNs mb/\∀x:Str,x≠"__name__"->mb x=bootBuiltins x
 nolimit:base.NoLimit
structure Cx where
 prog:Program
 w:World
 K:fI
 mg:Str->Option Value
 base:Heap
 A:Around
 N:List Str
 s₀:Shared
 H₀:Hp
 env:Env
 outer:List Env
 stack:List Env
 ex:List Addr
 fn:Str->Bool
 calm:Bool
 pn:List (Addr×Obj)
 xe:Value->Shared->Prop
variable{X:Cx}
def qJ(l:List Env):List Addr:=l.filterMap (·.frame)
abbrev Cx.fs(X:Cx):List Addr:=qJ X.outer
def YJ(sc:Scope)(x:Str):Prop:=sc.names.lookup x=some .local\/sc.names.lookup x=some .cell\/sc.names.lookup x=some .free
def Loc(sc:Scope)(x:Str):Prop:=sc.names.lookup x=some .local\/sc.names.lookup x=some .cell
def Z7(env:Env)(h:Heap)(m:Str->Option Value)(x:Str)(u:Value):Prop:=
 (env.kindOf x=some .local/\m x=some u)\/((env.kindOf x=some .cell\/env.kindOf x=some .free)/\∃c,env.cells.lookup x=some c/\h.IsCell c (some u))
structure Cx.Ok(X:Cx):Prop where
 mod:Mod X.K X.mg X.base
 kind:X.env.scope.kind= .function
 glob:X.env.globals=mainGlobals
 blt:X.env.builtins=builtinsNs
 above:X.s₀.heap.objs.size<=X.env.locals
 inj:∀x y c,X.env.cells.lookup x=some c->X.env.cells.lookup y=some c->x=y
 has:∀x,(X.env.kindOf x=some .cell\/X.env.kindOf x=some .free)->∃c,X.env.cells.lookup x=some c
 Yj:∀x c,X.fn x=true->X.env.cells.lookup x=some c->X.s₀.heap.objs.size<=c
 hd:X.calm=true->X.A.handled=none
 frames:X.A.frames=some X.stack
 stk:X.stack=X.outer\/(X.stack=X.env::X.outer/\X.env.frame=some X.env.locals)
 exf:∀b∈X.ex,b≠X.env.locals/\∀x c,X.env.cells.lookup x=some c->c≠b
 bs:∀b o,X.base.get? b=some o->X.s₀.heap.get? b=some o/\X.H₀ b=none
 xw:X.base.objs.size<=X.s₀.heap.objs.size
 RE:∀b o,X.base.get? b=some o->b∉X.ex
 QE:∀b∈X.ex,b∉X.fs
 uG:X.s₀.heap.FunFrames X.base X.outer
 Tb:∀b∈X.fs,X.H₀ b=none
structure Inv(X:Cx)(ζ:List (Addr×Obj))(σ:List (Option V))(H:Hp)(s:Shared):Prop where
 ok:X.Ok
 os:s.os=X.s₀.os
 bare:AllBare s.gens
 base:Un X.fs X.ex X.H₀ H X.s₀.heap s.heap
 loc:∃m,s.heap.Ns X.env.locals m/\∀(i:Nat) (x:Str) (v:V),X.N[i]? =some x->σ[i]? =some (some v)->YJ X.env.scope x->∃u,aS v u/\Z7 X.env s.heap m x u
 cell:∀x c,X.env.cells.lookup x=some c->∃v,s.heap.IsCell c v
 free:H X.env.locals=none
 qC:∀x c,X.env.cells.lookup x=some c->H c=none
 pin:∀p∈X.pn++ζ,s.heap.get? p.1=some p.2/\H p.1=none/\p.1≠X.env.locals/\p.1∉X.fs/\∀v,p.2.data≠ .cell v
 bc:me X.prog X.w H s.heap
 len:σ.length=X.N.length
section
variable{σ:List (Option V)}{H H':Hp}
def Cx.Ok.ZK(ok:X.Ok){o:Obj}(e:X.base.get? b=some o):b∉X.fs:=λhb=>by have:=(ok.uG.mem hb).1;rw[e]at this;cases this
def Inv.bs(I:Inv X ζ σ H s):∀b o,X.base.get? b=some o->s.heap.get? b=some o/\H b=none:=λb o e=>
 ⟨I.base.keep b o (I.ok.bs b o e).1 (I.ok.bs b o e).2 (I.ok.ZK e) (I.ok.RE b o e),I.base.free b o (I.ok.bs b o e).1 (I.ok.bs b o e).2 (I.ok.RE b o e)⟩
def Inv.bk(I:Inv X ζ σ H s):∀b o,X.base.get? b=some o->s.heap.get? b=some o:=λb o e=>(I.bs b o e).1
def Inv.mod(I:Inv X ζ σ H s):Mod X.K X.mg X.base:=I.ok.mod
def Inv.C6(I:Inv X ζ σ H s):X.K.In s.heap:=I.ok.mod.Tr.keeps I.bk
def Inv.lt(I:Inv X ζ σ H s):X.env.locals < s.heap.objs.size:=let ⟨_,hn,_⟩:=I.loc;hn.lt
def Inv.sz(I:Inv X ζ σ H s):X.s₀.heap.objs.size<=s.heap.objs.size:=aax I.ok.above (Nat.le_of_lt I.lt)
def Inv.Yw(I:Inv X ζ σ H s)(h:s.heap.objs.size<=a):a∉X.fs:=λhb=>by have⟨_,o,ho,_⟩:=I.ok.uG.mem hb;exact aaP (aat (aaw ho) (aax I.sz h)) (abJ _)
def Inv.Nw(I:Inv X ζ σ H s):∀x c,X.env.cells.lookup x=some c->c≠X.env.locals:=λx c e z=>by have⟨v,o,ho,hd⟩:=I.cell x c e;have⟨m,⟨o',es,ep,Hg,ML,_⟩,_⟩:=I.loc;rw[z,Hg]at ho;cases ho;rw[ML]at hd;cases hd
def Inv.uG(I:Inv X ζ σ H s):s.heap.FunFrames X.base X.outer:=by
 have all:∀(l:List Env),(∀b∈qJ l,b∈X.fs)->X.s₀.heap.FunFrames X.base l->s.heap.FunFrames X.base l:=by
  intro l
  induction l with
  | nil=>intro _ _;trivial
  | cons env r ih=>
   intro hs hl;have⟨hk,⟨L,o,hf,hn,ho,hd⟩,hr⟩:=hl;have hL:L∈X.fs:=hs L (by unfold qJ;rw[List.filterMap_cons,hf];exact List.mem_cons_self);have⟨sl,e⟩:=I.base.slot L o ho (I.ok.Tb L hL) hL λz=>I.ok.QE L z hL;exact⟨hk,⟨L,_,hf,hn,e,hd⟩,ih (λb hb=>hs b (by unfold qJ;rw[List.filterMap_cons,hf];exact List.mem_cons_of_mem _ hb)) hr⟩
 exact all X.outer (λ_ hb=>hb) I.ok.uG
def Inv.stack(I:Inv X ζ σ H s):s.heap.FunFrames X.base X.stack:=by
 rcases I.ok.stk with e| ⟨e,hf⟩
 ·rw[e];exact I.uG
 ·rw[e];have⟨m,hn,_⟩:=I.loc;refine .cons (by rw[I.ok.kind];decide) hf hn ?_ I.uG;exact Heap.get?_none_of_le (aax I.ok.xw I.ok.above)
def Inv.yV(I:Inv X ζ σ H s):∀b∈qJ X.stack,b∈X.env.locals::X.fs:=λb hb=>by
 rcases I.ok.stk with e| ⟨e,hf⟩
 ·rw[e]at hb;exact aac _ hb
 ·rw[e]at hb;unfold qJ at hb;rw[List.filterMap_cons,hf]at hb;exact hb
def Inv.yJ(I:Inv X ζ σ H s):∀b∈qJ X.stack,H b=none:=λb hb=>by
 rcases aaL.mp (I.yV b hb) with e| hb
 ·rw[e];exact I.free
 ·have⟨_,o,ho,_⟩:=I.ok.uG.mem hb;exact I.base.free b o ho (I.ok.Tb b hb) λz=>I.ok.QE b z hb
def Inv.step{t':Nat}{d':Drawn}(I:Inv X ζ σ H s)
  (y8:∀b∈ch,(b∈X.ex\/X.s₀.heap.objs.size<=b)/\b≠X.env.locals/\(∀x c,X.env.cells.lookup x=some c->c≠b)/\∀p∈X.pn++ζ,p.1≠b)
  (keep:∀b o,b≠X.env.locals->b∉X.fs->b∉ch->s.heap.get? b=some o->H b=none->h'.get? b=some o)
  (slot:∀b o,b≠X.env.locals->b∈X.fs->b∉ch->s.heap.get? b=some o->H b=none->∃sl,h'.get? b=some {o with slots:=sl}) (free:∀b o,b∉ch->s.heap.get? b=some o->H b=none->H' b=none)
  (there:∀b o,b∉ch->s.heap.get? b=some o->∃o',h'.get? b=some o')
  (qN:∀b xs,H b=some (.tup xs)->H' b=some (.tup xs)) (pe:∀b o u,H b=some (.EA o u)->H' b=some (.EA o u)) (qP:∀b ps,H b=some (.Mw ps)->∃more,H' b=some (.Mw (ps++more)))
  (ns:∀m,s.heap.Ns X.env.locals m->h'.Ns X.env.locals m) (bc:me X.prog X.w H' h') (hg:AllBare g'):
  Inv X ζ σ H' {s with heap:=h',gens:=g',drawn:=d',toks:=t'}:=by
 have neL:∀b o,X.s₀.heap.get? b=some o->b≠X.env.locals:=λb o e=>aaU (aat (aaw e) I.ok.above);have Wj:∀b o,X.s₀.heap.get? b=some o->b∉X.ex->b∉ch:=λb o e hx hb=>by
  rcases(y8 b hb).1 with z| z
  ·exact hx z
  ·exact aaP (aat (aaw e) z) (abJ _)
 have cellK:∀x c,X.env.cells.lookup x=some c->∀v,s.heap.IsCell c v->h'.IsCell c v:=λx c e v ⟨o,ho,hd⟩=>by
  have Ti:c∉ch:=λz=>(y8 c z).2.2.1 x c e rfl;by_cases hc:c∈X.fs
  ·have⟨sl,q⟩:=slot c o (I.Nw x c e) hc Ti ho (I.qC x c e);exact⟨_,q,hd⟩
  ·exact⟨o,keep c o (I.Nw x c e) hc Ti ho (I.qC x c e),hd⟩
 refine⟨I.ok,I.os,hg,⟨λb o e n hb hx=>?_,λb o e n hb hx=>?_,λb o e n hx=>?_,λb o e hx=>?_,λb xs e=>qN b xs (I.base.qN b xs e),λb o xs e=>pe b o xs (I.base.pe b o xs e),λb ps e=>?_⟩,?_,λx c e=>?_,?_,λx c e=>?_,λp hp=>?_,bc,I.len⟩
 ·exact keep b o (neL b o e) hb (Wj b o e hx) (I.base.keep b o e n hb hx) (I.base.free b o e n hx)
 ·have⟨sl,e1⟩:=I.base.slot b o e n hb hx;have⟨sl',e2⟩:=slot b _ (neL b o e) hb (Wj b o e hx) e1 (I.base.free b o e n hx);exact⟨sl',e2⟩
 ·have⟨o',e1⟩:=I.base.there b o e hx;exact free b o' (Wj b o e hx) e1 (I.base.free b o e n hx)
 ·have⟨o',e1⟩:=I.base.there b o e hx;exact there b o' (Wj b o e hx) e1
 ·have⟨m1,e1⟩:=I.base.qP b ps e;have⟨m2,e2⟩:=qP b _ e1;exact⟨m1++m2,by rw[e2,Array.append_assoc]⟩
 ·have⟨m,hn,hl⟩:=I.loc;refine⟨m,ns m hn,λi x v e1 e2 e3=>?_⟩;have⟨u,r,l⟩:=hl i x v e1 e2 e3;refine⟨u,r,?_⟩;rcases l with l| ⟨k,c,e,z⟩
  ·exact .inl l
  ·exact .inr ⟨k,c,e,cellK x c e _ z⟩
 ·have⟨v,z⟩:=I.cell x c e;exact⟨v,cellK x c e v z⟩
 ·have⟨m,⟨o,_,_,ho,_⟩,_⟩:=I.loc;exact free _ o (λz=>(y8 _ z).2.1 rfl) ho I.free
 ·have⟨v,o,ho,hd⟩:=I.cell x c e;exact free c o (λz=>(y8 c z).2.2.1 x c e rfl) ho (I.qC x c e)
 ·have⟨e,n,ne,nf,d⟩:=I.pin p hp;have Ti:p.1∉ch:=λz=>(y8 p.1 z).2.2.2 p hp rfl;exact⟨keep p.1 p.2 ne nf Ti e n,free p.1 p.2 Ti e n,ne,nf,d⟩
def Inv.un{t':Nat}(I:Inv X ζ σ H s)(u:Un X.fs [] H H' s.heap h')(bc:me X.prog X.w H' h'):Inv X ζ σ H' {s with heap:=h',toks:=t'}:=by
 have⟨m,⟨o,es,ep,ho,r⟩,_⟩:=id I.loc;have⟨sl,hL⟩:=u.any ho I.free (by simp)
 exact I.step (g':=s.gens) (d':=s.drawn) (ch:=[]) (λ_ z=>nomatch z) (λb o _ hb _ e n=>u.keep b o e n hb (by simp)) (λb o _ hb _ e n=>u.slot b o e n hb (by simp)) (λb o _ e n=>u.free b o e n (by simp)) (λb o _ e=>u.there b o e (by simp)) u.qN u.pe u.qP (λm' hm=>by
  have⟨o',WI,W2,Hg,r'⟩:=hm;rw[ho]at Hg;cases Hg
  exact⟨_,WI,W2,hL,r'⟩) bc I.bare
def Inv.call{t':Nat}{d':Drawn}(I:Inv X ζ σ H s)(u:Un (qJ X.stack) ch H H' s.heap h')(bc:me X.prog X.w H' h')(hg:AllBare g')
  (y8:∀b∈ch,(b∈X.ex\/X.s₀.heap.objs.size<=b)/\b≠X.env.locals/\(∀x c,X.env.cells.lookup x=some c->c≠b)/\∀p∈X.pn++ζ,p.1≠b):
  Inv X ζ σ H' {s with heap:=h',gens:=g',drawn:=d',toks:=t'}:=by
 have⟨m,⟨o,es,ep,ho,r⟩,_⟩:=id I.loc;have⟨sl,hL⟩:=u.any ho I.free λz=>(y8 _ z).2.1 rfl
 exact I.step (ch:=ch) y8 (λb o hL hb hc e n=>u.keep b o e n (λz=>(aaL.mp (I.yV b z)).elim hL hb) hc) (λb o _ _ hc e n=>u.any e n hc) (λb o hc e n=>u.free b o e n hc) (λb o hc e=>u.there b o e hc) u.qN u.pe u.qP (λm' hm=>by
  have⟨o',WI,W2,Hg,r'⟩:=hm;rw[ho]at Hg;cases Hg
  exact⟨_,WI,W2,hL,r'⟩) bc hg
def Inv.turned{t':Nat}{it:Addr}(I:Inv X ζ σ H s)(k:∀b o,b≠it->s.heap.get? b=some o->h'.get? b=some o)(hn:H it=none)(hL:it≠X.env.locals)
  (h1:it∈X.ex\/X.s₀.heap.objs.size<=it) (h2:∀x c,X.env.cells.lookup x=some c->c≠it) (h3:∀p∈X.pn++ζ,p.1≠it):Inv X ζ σ H {s with heap:=h',toks:=t'}:=by
 have nit:∀b u,H b=some u->b≠it:=λb u e z=>by rw[z,hn]at e;cases e
 refine I.step (g':=s.gens) (d':=s.drawn) (ch:=[it]) (λb hb=>?_) (λb o _ _ hc e _=>k b o (λz=>hc (by simp[z])) e) (λb o _ _ hc e _=>⟨o.slots,k b o (λz=>hc (by simp[z])) e⟩) (λ_ _ _ _ n=>n)
  (λb o hc e=>⟨o,k b o (λz=>hc (by simp[z])) e⟩) (λ_ _ e=>e) (λ_ _ _ e=>e) (λb ps e=>⟨#[],by rw[e];simp⟩) (λm hm=>?_) (λb u e=>?_) I.bare
 ·have e:b=it:=by simpa using hb
  subst e;exact⟨h1,hL,h2,h3⟩
 ·have⟨o,es,ep,ho,r⟩:=hm;exact⟨o,es,ep,k _ o (Ne.symm hL) ho,r⟩
 ·refine(I.bc b u e).Dx (λc v hc q=>k c v ?_ q) (λ_ q=>q) λ_ _ q=>q;rcases hc with z| z
  ·rw[z];exact nit b u e
  ·exact nit c _ z
def Inv.tok(I:Inv X ζ σ H s)(t:Nat):Inv X ζ σ H {s with toks:=t}:=I.un (h':=s.heap) (t':=t) Un.refl I.bc
def Inv.kept{t':Nat}(I:Inv X ζ σ H s)(k:∀b u,s.heap.get? b=some u->h'.get? b=some u):Inv X ζ σ H {s with heap:=h',toks:=t'}:=I.un (Un.kept k) (I.bc.kept k)
def Inv.laid{t':Nat}(I:Inv X ζ σ H s)(k:∀b u,s.heap.get? b=some u->h'.get? b=some u)(hp:s.heap.objs.size<=a)(new:dE X.prog X.w (upd H a o) h' a o):
  Inv X ζ σ (upd H a o) {s with heap:=h',toks:=t'}:=I.un (Un.laid k hp (I.bc.fresh hp)) (I.bc.laid k hp new)
def Inv.write{x e:Addr}{t':Nat}(I:Inv X ζ σ H s)(mu:R9 (H x))(he:e=x\/H e=some (.own x))(k:∀b u,b≠e->s.heap.get? b=some u->h'.get? b=some u)(Sb:∃u,h'.get? e=some u)
  (new:dE X.prog X.w (upd H x o) h' x o):Inv X ζ σ (upd H x o) {s with heap:=h',toks:=t'}:=I.un (Un.write mu he k Sb) (I.bc.write mu he k Sb new)
def Inv.EI{OE:List (Addr×Obj)}(I:Inv X ζ σ H s)(h:∀p∈OE,s.heap.get? p.1=some p.2/\H p.1=none/\p.1≠X.env.locals/\p.1∉X.fs/\∀v,p.2.data≠ .cell v):Inv X OE σ H s:=
 ⟨I.ok,I.os,I.bare,I.base,I.loc,I.cell,I.free,I.qC,λp hp=>(aaV.mp hp).elim (λz=>I.pin p (aco _ z)) (h p),I.bc,I.len⟩
def zW{N:List Str}(hN:N.Nodup){j:Nat}(a:N[i]? =some x)(b:N[j]? =some x):i=j:=by have⟨h1,e1⟩:=aaf.mp a;have⟨h2,e2⟩:=aaf.mp b;exact(List.getElem_inj hN).mp (e1.trans e2.symm)
def vw{Q:Unit->Shared->Prop}(I:Inv X ζ σ H s)(hN:X.N.Nodup)(hi:X.N[i]? =some x)(hx:Loc X.env.scope x)(r:aS v u)
  (h:∀s',Inv X ζ (σ.set i (some v)) H s'->(∃a,Heap.SameBut a s.heap s'.heap/\(a=X.env.locals\/X.env.cells.lookup x=some a))->Q Unit.unit s') (hf:X.fn x=true\/X.env.scope.names.lookup x=some .local:=by first| exact .inl rfl| exact .inr rfl| assumption):wpAny M A (storeName X.env x u) Q E s:=by
 have⟨m,hn,hl⟩:=id I.loc;have Xo:(X.env.scope.kind== .class|| (X.env.scope.kind== .module&&X.env.locals != X.env.globals))=false:=by rw[I.ok.kind];rfl
 have T6:i < σ.length:=by rw[I.len];exact(aaf.mp hi).1
 have Nw:=I.Nw;have tracked:∀{a:Addr} {h':Heap},(∃o,s.heap.get? a=some o/\H a=none)->Heap.SameBut a s.heap h'->me X.prog X.w H h':=λ{a h'} ha hs b ob e=>by
  have⟨_,_,Ot⟩:=ha;refine(I.bc b ob e).Dx (λc w' hc q=>(hs.2 c ?_).trans q) (λ_ q=>q) λ_ _ q=>q;rintro rfl;rcases hc with rfl| hc
  ·rw[Ot]at e;cases e
  ·rw[Ot]at hc;cases hc
 rcases hx with hk| hk
 ·refine wpAny_storeName_local hk hn (λh' SG hs=>?_) Xo;have⟨oL,_,_,hoL,_⟩:=id hn;refine h _ ⟨I.ok,I.os,I.bare,⟨λb o e n hb hx=>?_,λb o e n hb hx=>?_,I.base.free,λb o e hx=>?_,I.base.qN,I.base.pe,I.base.qP⟩,⟨_,SG,λj y v' e1 e2 e3=>?_⟩,λy c e=>?_,I.free,I.qC,λp hp=>?_,tracked ⟨oL,hoL,I.free⟩ hs,by simpa using I.len⟩ ⟨_,hs,.inl rfl⟩
  ·exact(hs.2 b (aaU (aat (aaw e) I.ok.above))).trans (I.base.keep b o e n hb hx)
  ·have⟨sl,e1⟩:=I.base.slot b o e n hb hx;exact⟨sl,(hs.2 b (aaU (aat (aaw e) I.ok.above))).trans e1⟩
  ·have⟨o',e1⟩:=I.base.there b o e hx;exact⟨o',(hs.2 b (aaU (aat (aaw e) I.ok.above))).trans e1⟩
  ·by_cases hj:j=i
   ·subst hj;rw[hi]at e1;cases e1;rw[abo T6]at e2;cases e2;exact⟨u,r,.inl ⟨hk,by simp⟩⟩
   ·rw[abO (Ne.symm hj)]at e2;have⟨u',r',q⟩:=hl j y v' e1 e2 e3;refine⟨u',r',?_⟩;rcases q with ⟨k,e⟩| ⟨k,c,e,z⟩
    ·refine .inl ⟨k,?_⟩;have:y≠x:=λe=>hj (zW hN e1 (e▸hi));simp[this,e]
    ·exact .inr ⟨k,c,e,z.sameBut hs (Nw y c e)⟩
  ·have⟨w',z⟩:=I.cell y c e;exact⟨w',z.sameBut hs (Nw y c e)⟩
  ·have⟨e,n,ne,nf,d⟩:=I.pin p hp;exact⟨(hs.2 p.1 ne).trans e,n,ne,nf,d⟩
 ·have Zl:X.fn x=true:=by
   rcases hf with z| z
   ·exact z
   ·rw[z]at hk;cases hk
  have⟨c,hc⟩:=I.ok.has x (.inl hk);have⟨w',z⟩:=I.cell x c hc;refine wpAny_storeName_cell I.ok.kind hk hc z (λh' Bv hs=>?_);have⟨oc,hoc,Zp⟩:=id z;refine h {s with heap:=h'} ⟨I.ok,I.os,I.bare,⟨λb o e n hb hx=>?_,λb o e n hb hx=>?_,I.base.free,λb o e hx=>?_,I.base.qN,I.base.pe,I.base.qP⟩,⟨m,hn.sameBut hs (Ne.symm (Nw x c hc)),λj y v' e1 e2 e3=>?_⟩,λy c' e=>?_,I.free,I.qC,λp hp=>?_,tracked ⟨oc,hoc,I.qC x c hc⟩ hs,by simpa using I.len⟩ ⟨c,hs,.inr hc⟩
  ·exact(hs.2 b (aaU (aat (aaw e) (I.ok.Yj x c Zl hc)))).trans (I.base.keep b o e n hb hx)
  ·have⟨sl,e1⟩:=I.base.slot b o e n hb hx;exact⟨sl,(hs.2 b (aaU (aat (aaw e) (I.ok.Yj x c Zl hc)))).trans e1⟩
  ·have⟨o',e1⟩:=I.base.there b o e hx;exact⟨o',(hs.2 b (aaU (aat (aaw e) (I.ok.Yj x c Zl hc)))).trans e1⟩
  ·by_cases hj:j=i
   ·subst hj;rw[hi]at e1;cases e1;rw[abo T6]at e2;cases e2;exact⟨u,r,.inr ⟨.inl hk,c,hc,Bv⟩⟩
   ·rw[abO (Ne.symm hj)]at e2;have⟨u',r',q⟩:=hl j y v' e1 e2 e3;refine⟨u',r',?_⟩;rcases q with q| ⟨k,c',e,z'⟩
    ·exact .inl q
    ·refine .inr ⟨k,c',e,z'.sameBut hs ?_⟩;rintro rfl;exact hj (zW hN e1 (I.ok.inj _ _ _ e hc▸hi))
  ·by_cases PY:c'=c
   ·subst PY;exact⟨_,Bv⟩
   ·have⟨w2,z2⟩:=I.cell y c' e;exact⟨w2,z2.sameBut hs PY⟩
  ·have⟨e,n,ne,nf,d⟩:=I.pin p hp;refine⟨(hs.2 p.1 ?_).trans e,n,ne,nf,d⟩;intro q;rw[q,hoc]at e;have q':oc=p.2:=aaJ e;exact d w' (by rw[<-q'];exact Zp)
def oj{Q:Unit->Shared->Prop}(I:Inv X ζ σ H s)(hN:X.N.Nodup)(hi:X.N[i]? =some x)(hx:Loc X.env.scope x)(r:aS v u)
  (h:∀s',Inv X ζ (σ.set i (some v)) H s'->Q Unit.unit s') (hf:X.fn x=true\/X.env.scope.names.lookup x=some .local:=by first| exact .inl rfl| exact .inr rfl| assumption):wpAny M A (storeName X.env x u) Q E s:=
 vw I hN hi hx r (λs' I' _=>h s' I') hf
def Inv.TH{s':Shared}(I:Inv X ζ σ H s)(ho:s'.os=s.os)(u:Un (qJ X.stack) ch H H' s.heap s'.heap)(bc:me X.prog X.w H' s'.heap)(hg:AllBare s'.gens)
  (y8:∀b∈ch,(b∈X.ex\/X.s₀.heap.objs.size<=b)/\b≠X.env.locals/\(∀x c,X.env.cells.lookup x=some c->c≠b)/\∀p∈X.pn++ζ,p.1≠b):Inv X ζ σ H' s':=by
 have⟨h',g',d',t',o'⟩:=s';have e:o'=s.os:=ho;subst e;exact I.call (g':=g') (t':=t') (d':=d') u bc hg y8
end
abbrev XK:=Value->Option Addr->Hp->Prop
abbrev St:=List (Option V)
variable{σ:St}
abbrev VK:=V->Hp->Prop
abbrev TE:=St->Hp->VK->Prop
variable{ta te:TE}
abbrev TT:=St->Hp->(Bool->Hp->Prop)->Prop
abbrev TA:=St->Hp->(List V->Hp->Prop)->Prop
structure y6 where
 nx:St->Hp->Prop
 rt:VK
 bk:St->Hp->Prop:=λ_ _=>False
 ct:St->Hp->Prop:=λ_ _=>False
abbrev TS:=y6->St->Hp->Prop
def EP(X:Cx)(ζ:List (Addr×Obj))(σ:St)(Q:VK)(u:Value)(s':Shared):Prop:=∃v H',Inv X ζ σ H' s'/\aS v u/\Q v H'
def TP(X:Cx)(ζ:List (Addr×Obj))(σ:St)(Q:Bool->Hp->Prop)(b:Bool)(s':Shared):Prop:=∃H',Inv X ζ σ H' s'/\Q b H'
def AP(X:Cx)(ζ:List (Addr×Obj))(σ:St)(Q:List V->Hp->Prop)(us:List Value)(s':Shared):Prop:=∃vs H',Inv X ζ σ H' s'/\aH vs us/\Q vs H'
def SP(X:Cx)(ζ:List (Addr×Obj))(D:y6)(f:Flow)(s':Shared):Prop:=
 match f with
 | .next=>∃σ' H',Inv X ζ σ' H' s'/\D.nx σ' H'
 | .brk=>∃σ' H',Inv X ζ σ' H' s'/\D.bk σ' H'
 | .cont=>∃σ' H',Inv X ζ σ' H' s'/\D.ct σ' H'
 | .ret u=>∃v σ' H',Inv X ζ σ' H' s'/\aS v u/\D.rt v H'
def PE(X:Cx)(e:Expr)(t:TE):Prop:=
 ∀(ζ:List (Addr×Obj)) (s:Shared) (σ:St) (H:Hp) (Q:VK),Inv X ζ σ H s->t σ H Q->wpAny (model X.prog X.w) X.A (eval e X.env) (EP X ζ σ Q) X.xe s
def PT(X:Cx)(e:Expr)(t:TT):Prop:=
 ∀(ζ:List (Addr×Obj)) (s:Shared) (σ:St) (H:Hp) (Q:Bool->Hp->Prop),Inv X ζ σ H s->t σ H Q->wpAny (model X.prog X.w) X.A (isTrue e X.env (eval e X.env)) (TP X ζ σ Q) X.xe s
def PW(X:Cx)(e:Expr)(t:TT):Prop:=
 ∀(whole:Sem Value) (ζ:List (Addr×Obj)) (s:Shared) (σ:St) (H:Hp) (Q:Bool->Hp->Prop),Inv X ζ σ H s->t σ H Q->wpAny (model X.prog X.w) X.A (isTrue e X.env whole) (TP X ζ σ Q) X.xe s
def PA(X:Cx)(es:List Expr)(t:TA):Prop:=
 ∀(pos:Pos) (ζ:List (Addr×Obj)) (s:Shared) (σ:St) (H:Hp) (Q:List V->Hp->Prop),Inv X ζ σ H s->t σ H Q->wpAny (model X.prog X.w) X.A (spliced (backTo pos (starEach es X.env))) (AP X ζ σ Q) X.xe s
def PS(X:Cx)(st:Stmt)(t:TS):Prop:=
 ∀(ζ:List (Addr×Obj)) (s:Shared) (σ:St) (H:Hp) (D:y6),Inv X ζ σ H s->t D σ H->wpAny (model X.prog X.w) X.A (exec st X.env) (SP X ζ D) X.xe s
def Ik(X:Cx)(st:List Stmt)(t:TS):Prop:=
 ∀(ζ:List (Addr×Obj)) (s:Shared) (σ:St) (H:Hp) (D:y6),Inv X ζ σ H s->t D σ H->wpAny (model X.prog X.w) X.A (execs st X.env) (SP X ζ D) X.xe s
def bW{α:Type}{t:Sem α}{Q Q':α->Shared->Prop}(h:wpAny M A t Q E s)(hQ:∀a s,Q a s->Q' a s):wpAny M A t Q' E s:=acj h hQ λ_ _ x=>x
section
def ZZ(i:Nat):TE:=λσ H Q=>∃v,σ[i]? =some (some v)/\Q v H
def tC(v:V):TE:=λ_ H Q=>Q v H
def Qz(hN:X.N[i]? =some x)(hv:YJ X.env.scope x)(hd:(x==("__debug__":Str))=false:=by decide)(D1:(x==("__classdict__":Str))=false:=by decide):PE X (.Name x pos) (ZZ i):=by
 intro ζ s σ H Q I h;have⟨v,e,h⟩:=h;have⟨m,hn,hl⟩:=I.loc;have⟨u,r,l⟩:=hl i x v hN e hv;have fin:EP X ζ σ Q u s:=⟨v,H,I,r,h⟩;rcases l with ⟨hk,hm⟩| ⟨hk,c,hc,Oi⟩
 ·exact wpAny_Name (wpAny_loadName_local I.ok.kind hk hn hm fin) hd
 ·rcases hk with hk| hk
  ·exact wpAny_Name (wpAny_loadName_cell I.ok.kind hk hc Oi fin) hd
  ·exact wpAny_Name (wpAny_loadName_free I.ok.kind hk hc Oi fin D1) hd
def PM{i j pos}:PE X (.Constant (.int i) j pos) (tC (.int i)):=λ_ _ _ H _ I h=>wpAny_Constant_int ⟨.int i,H,I.tok _,⟨_,rfl⟩,h⟩
def US{b j pos}:PE X (.Constant (.bool b) j pos) (tC (.bl b)):=λ_ _ _ H _ I h=>Constant_bool ⟨.bl b,H,I,rfl,h⟩
def Ph{j pos}:PE X (.Constant .none j pos) (tC .bU):=λ_ _ _ H _ I h=>Constant_none ⟨.bU,H,I,rfl,h⟩
def Qv{x j pos}:PE X (.Constant (.str x) j pos) (tC (.str x)):=λ_ _ _ H _ I h=>Calls.Constant_str ⟨.str x,H,I.tok _,⟨_,rfl⟩,h⟩
def Gl(X:Cx)(x:Str):Prop:=X.env.kindOf x=some .globalImplicit
def rz{H:Hp}(I:Inv X ζ σ H s)(hg:Gl X x)(hm:X.mg x=some u)(h:Q u s)
  (hd:(x==("__debug__":Str))=false:=by decide):wpAny (model X.prog X.w) X.A (eval (.Name x pos) X.env) Q E s:=
 Calls.Name_function_global I.ok.kind hg (Calls.loadGlobal_global (by rw[I.ok.glob];exact I.mod.glob.keeps I.bk) hm h) hd
def pJ{H:Hp}(I:Inv X ζ σ H s)(hg:Gl X x)(hm:X.mg x=none)(hv:bootBuiltins x=some u)(h:Q u s)
  (hn:x≠"__name__":=by decide) (hd:(x==("__debug__":Str))=false:=by decide):wpAny (model X.prog X.w) X.A (eval (.Name x pos) X.env) Q E s:=by
 have⟨mb,h1,h2⟩:=I.mod.blt;exact Calls.Name_function_global I.ok.kind hg (Calls.loadGlobal_builtin (by rw[I.ok.glob];exact I.mod.glob.keeps I.bk) hm (by rw[I.ok.blt];exact h1.keeps I.bk) ((h2 x hn).trans hv) h) hd
def Fs(hg:Gl X x)(hm:X.mg x=some u)(r:aS v u)(hd:(x==("__debug__":Str))=false:=by decide):PE X (.Name x pos) (tC v):=
 λ_ _ _ H _ I h=>rz I hg hm ⟨v,H,I,r,h⟩ hd
variable{a b:Expr}{tb:TE}
def tB(t:TE):TT:=λσ H Q=>t σ H λx H1=>∃c,x= .bl c/\Q c H1
def Pt{t:TE}(h:PE X e t)(he:∀whole,isTrue e X.env whole=(do let v<-whole;standAt e.pos;holding [v] (truthy v)):=by intro _;rfl):PT X e (tB t):=by intro ζ s σ H Q I hw;refine isTrue_plain (bW (h ζ s σ H _ I hw) λv s1 xz=>?_) (he _);have⟨x,H1,I1,r1,q1⟩:=xz;have⟨d,rfl,q⟩:=q1;cases r1;exact wpAny_truthy_bool ⟨H1,I1,q⟩
variable{tA Ul:TT}{rest:List Expr}
def ZL(t u:TT):TT:=λσ H Q=>t σ H λc H1=>if c=true then u σ H1 Q else Q false H1
def tOr(t u:TT):TT:=λσ H Q=>t σ H λc H1=>if c=true then Q true H1 else u σ H1 Q
def WN(t:TT):TT:=λσ H Q=>t σ H λc H1=>Q (!c) H1
def pw_and1(ha:PT X a tA):PW X (.BoolOp .And [a] pos) tA:=by
 intro wh ζ s σ H Q I h;refine isTrue_and (bW (ha ζ s σ H Q I h) λc s1 e=>?_);cases c with
 | true=>exact isTrue_and_nil e
 | false=>exact e
def pw_or1(ha:PT X a tA):PW X (.BoolOp .Or [a] pos) tA:=by
 intro wh ζ s σ H Q I h;refine isTrue_or (bW (ha ζ s σ H Q I h) λc s1 e=>?_);cases c with
 | false=>exact isTrue_or_nil e
 | true=>exact e
def pw_and(ha:PT X a tA)(hb:PW X (.BoolOp .And (b::rest) pos) Ul):PW X (.BoolOp .And (a::b::rest) pos) (ZL tA Ul):=by
 intro wh ζ s σ H Q I h;refine isTrue_and (bW (ha ζ s σ H _ I h) λc s1 xz=>?_);have⟨H1,I1,q1⟩:=xz;cases c with
 | true=>exact hb wh ζ s1 σ H1 Q I1 q1
 | false=>exact⟨H1,I1,q1⟩
def pw_or(ha:PT X a tA)(hb:PW X (.BoolOp .Or (b::rest) pos) Ul):PW X (.BoolOp .Or (a::b::rest) pos) (tOr tA Ul):=by
 intro wh ζ s σ H Q I h;refine isTrue_or (bW (ha ζ s σ H _ I h) λc s1 xz=>?_);have⟨H1,I1,q1⟩:=xz;cases c with
 | true=>exact⟨H1,I1,q1⟩
 | false=>exact hb wh ζ s1 σ H1 Q I1 q1
def P4(ha:PT X a tA):PT X (.UnaryOp .Not a pos) (WN tA):=by intro ζ s σ H Q I h;exact isTrue_not (ha ζ s σ H (λc H1=>Q (!c) H1) I h)
def Tv(ta tb:TE):TE:=λσ H Q=>ta σ H λx H1=>∃c,x= .bl c/\if c=true then tb σ H1 Q else Q (.bl false) H1
def X'(ta tb:TE):TE:=λσ H Q=>ta σ H λx H1=>∃c,x= .bl c/\if c=true then Q (.bl true) H1 else tb σ H1 Q
def Qm{op}{t:TE}(h:PE X a t):PE X (.BoolOp op [a] pos) t:=λζ s σ H Q I hw=>BoolOp_one (h ζ s σ H Q I hw)
def Qu(ha:PE X a ta)(hb:PE X (.BoolOp .And (b::rest) pos) tb):PE X (.BoolOp .And (a::b::rest) pos) (Tv ta tb):=by
 intro ζ s σ H Q I h;refine BoolOp_and (bW (ha ζ s σ H _ I h) λv s1 xz=>?_);have⟨x,H1,I1,r1,q1⟩:=xz;have⟨c,rfl,q1⟩:=q1;cases r1;refine wpAny_truthy_bool ?_;cases c with
 | true=>exact hb ζ s1 σ H1 Q I1 q1
 | false=>exact⟨.bl false,H1,I1,rfl,q1⟩
def Ug(ha:PE X a ta)(hb:PE X (.BoolOp .Or (b::rest) pos) tb):PE X (.BoolOp .Or (a::b::rest) pos) (X' ta tb):=by
 intro ζ s σ H Q I h;refine BoolOp_or (bW (ha ζ s σ H _ I h) λv s1 xz=>?_);have⟨x,H1,I1,r1,q1⟩:=xz;have⟨c,rfl,q1⟩:=q1;cases r1;refine wpAny_truthy_bool ?_;cases c with
 | false=>exact hb ζ s1 σ H1 Q I1 q1
 | true=>exact⟨.bl true,H1,I1,rfl,q1⟩
def tIf(t:TT)(ta tb:TE):TE:=λσ H Q=>t σ H λc H1=>if c=true then ta σ H1 Q else tb σ H1 Q
def Jy(hc:PT X c tA)(ha:PE X a ta)(hb:PE X b tb):PE X (.IfExp c a b pos) (tIf tA ta tb):=by
 intro ζ s σ H Q I h;refine wpAny_IfExp (bW (hc ζ s σ H _ I h) λd s1 xz=>?_);have⟨H1,I1,q1⟩:=xz;cases d with
 | true=>exact ha ζ s1 σ H1 Q I1 q1
 | false=>exact hb ζ s1 σ H1 Q I1 q1
end
def iS(K:fI)(H:Hp)(a:Addr)(xs:List V):Prop:=
 Rd H a (.lst xs)\/
  ∃(o:Obj) (its:Array Value) (n:Nat),K.lookup a=some o/\o.cls= .type "list"/\o.dict=none/\o.data= .seq its n/\its.size<=sizeLine/\aH xs its.toList
def oS(K:fI)(H:Hp)(a:Addr)(xs:List V):Prop:=
 Rd H a (.tup xs)\/
  ∃(o:Obj) (its:Array Value) (n:Nat),K.lookup a=some o/\o.cls= .type "tuple"/\o.data= .seq its n/\its.size<=sizeLine/\aH xs its.toList
def Zz:Value->Option V
 | .none=>some .bU
 | .bool b=>some (.bl b)
 | .int i _=>some (.int i)
 | .str x _=>some (.str x)
 | .bytes b _=>some (.Ii b)
 | .float b _=>some (.Wx b)
 | .ref a=>some (.ref a)
 | .type n=>some (.ty n)
 | _=>none
def aS.abs{x:V}(r:aS x u):Zz u=some x:=by
 cases x with
 | bU=>cases r;rfl
 | bl _=>cases r;rfl
 | int _=>have⟨t,rfl⟩:=r;rfl
 | str _=>have⟨t,rfl⟩:=r;rfl
 | Ii _=>have⟨t,rfl⟩:=r;rfl
 | Wx _=>have⟨t,rfl⟩:=r;rfl
 | ref _=>cases r;rfl
 | ty _=>cases r;rfl
def aS.inj{x y:V}{u:Value}(r:aS x u)(q:aS y u):x=y:=aaJ (r.abs.symm.trans q.abs)
def aH.inj:∀{xs ys:List V} {us:List Value},aH xs us->aH ys us->xs=ys
 | _,_,_,.nil,.nil=>rfl
 | _,_,_,.cons r t,.cons r' t'=>by rw[r.inj r',aH.inj t t']
section
variable{H:Hp}{xs ys:List V}
def iS.of{K:fI}(h:H a=some (.lst xs)):iS K H a xs:=.inl (.inl h)
def oS.of{K:fI}(h:H a=some (.tup xs)):oS K H a xs:=.inl (.inl h)
def Inv.list(I:Inv X ζ σ H s)(h:iS X.K H a xs):∃its:List Value,aH xs its/\PlainL s.heap a its.toArray/\xs.length<=sizeLine:=by
 rcases h with h| ⟨o,its,n,hk,hc,hd,hs,hz,r⟩
 ·have⟨z,its,n,r,e⟩:=h.ok I.bc;exact⟨its,r,⟨_,n,e,rfl,rfl,rfl⟩,z⟩
 ·refine⟨its.toList,r,⟨o,n,I.C6 a o hk,hc,hd,by simpa using hs⟩,?_⟩;have e:=r.length;simp only[Array.length_toList]at e;omega
def Inv.tuple(I:Inv X ζ σ H s)(h:oS X.K H a xs):∃its:List Value,aH xs its/\IsTup s.heap a its.toArray/\xs.length<=sizeLine:=by
 rcases h with h| ⟨o,its,n,hk,hc,hs,hz,r⟩
 ·have⟨z,its,r,p⟩:=h.ok I.bc;exact⟨its,r,p,z⟩
 ·refine⟨its.toList,r,⟨o,I.C6 a o hk,hc,n,by simpa using hs⟩,?_⟩;have e:=r.length;simp only[Array.length_toList]at e;omega
def Inv.og(I:Inv X ζ σ H s)(h:iS X.K H a xs)(h':iS X.K H a ys):xs=ys:=by
 have⟨its,r,⟨o,n,e,_,_,d⟩,_⟩:=I.list h;have⟨its',r',⟨o',n',e',_,_,d'⟩,_⟩:=I.list h';rw[e]at e';cases e';rw[d]at d';injection d' with d1 _
 have:its=its':=by simpa using congrArg Array.toList d1
 subst this;exact r.inj r'
def Inv.GV(I:Inv X ζ σ H s)(h:oS X.K H a xs)(h':oS X.K H a ys):xs=ys:=by
 have⟨its,r,⟨o,e,_,n,d⟩,_⟩:=I.tuple h;have⟨its',r',⟨o',e',_,n',d'⟩,_⟩:=I.tuple h';rw[e]at e';cases e';rw[d]at d';injection d' with d1 _
 have:its=its':=by simpa using congrArg Array.toList d1
 subst this;exact r.inj r'
end
section
variable{st:Stmt}{rest:List Stmt}{t u:TS}
def SF:TS:=λD σ H=>D.nx σ H
def Zs(t u:TS):TS:=λD σ H=>t {D with nx:=u D} σ H
def Nq:Ik X [] SF:=λ_ _ σ H _ I h=>wpAny_execs_nil ⟨σ,H,I,h⟩
def Iy(h1:PS X st t)(h2:Ik X rest u):Ik X (st::rest) (Zs t u):=by
 intro ζ s σ H D I h;refine wpAny_execs_cons (bW (h1 ζ s σ H {D with nx:=u D} I h) λf s1 q=>?_);cases f with
 | next=>
  have⟨σ',H',I',q⟩:=q;exact h2 ζ s1 σ' H' D I' q
 | ret v=>exact q
 | brk=>exact q
 | cont=>exact q
def Mh(h1:PS X st t):Ik X [st] t:=by
 intro ζ s σ H D I h;refine wpAny_execs_cons (bW (h1 ζ s σ H D I h) λf s1 q=>?_);cases f with
 | next=>exact wpAny_execs_nil q
 | ret v=>exact q
 | brk=>exact q
 | cont=>exact q
def RN:TS:=λD σ H=>D.bk σ H
def TB:TS:=λD σ H=>D.ct σ H
def JU:PS X (.Break pos) RN:=λ_ _ σ H _ I h=>wpAny_Break ⟨σ,H,I,h⟩
def Bk:PS X (.Continue pos) TB:=λ_ _ σ H _ I h=>wpAny_Continue ⟨σ,H,I,h⟩
def Inv.quiet{H:Hp}(I:Inv X ζ σ H s):interactive X.env=false:=by simp[interactive,I.ok.kind]
def Ut(te:TE):TS:=λD σ H=>te σ H λ_ H1=>D.nx σ H1
def M6(he:PE X e te)(hs:swapsWith e none pos.line X.env=pure false:=by rfl):PS X (.Expr e pos) (Ut te):=by intro ζ s σ H D I h;exact wpAny_Expr_any (bW (he ζ s σ H _ I h) λv s1 ⟨x,H1,I1,r1,q1⟩=>⟨σ,H1,I1,q1⟩) I.quiet hs
def WT(te:TE):TS:=λD σ H=>te σ H D.rt
def Pr(he:PE X e te):PS X (.Return (some e) pos) (WT te):=by intro ζ s σ H D I h;exact wpAny_Return_some (bW (he ζ s σ H _ I h) λv s1 ⟨x,H1,I1,r1,q1⟩=>⟨x,σ,H1,I1,r1,q1⟩)
def WE(c:TT)(t u:TS):TS:=λD σ H=>c σ H λb H1=>if b=true then t D σ H1 else u D σ H1
def Vl{a b:List Stmt}{tc:TT}(hc:PT X c tc)(ha:Ik X a t)(hb:Ik X b u):PS X (.If c a b pos) (WE tc t u):=by
 intro ζ s σ H D I h;refine wpAny_If (bW (hc ζ s σ H _ I h) λd s1 xz=>?_);have⟨H1,I1,q1⟩:=xz;cases d with
 | true=>exact ha ζ s1 σ H1 D I1 q1
 | false=>exact hb ζ s1 σ H1 D I1 q1
end
abbrev TG:=V->St->Hp->(St->Hp->Prop)->Prop
abbrev RY:=List V->St->Hp->(St->Hp->Prop)->Prop
def PG(X:Cx)(target:Expr)(t:TG):Prop:=
 ∀(ζ:List (Addr×Obj)) (s:Shared) (σ:St) (H:Hp) (v:V) (u:Value) (Q:St->Hp->Prop),Inv X ζ σ H s->aS v u->t v σ H Q->
  wpAny (model X.prog X.w) X.A (assign target X.env u) (λ_ s'=>∃σ' H',Inv X ζ σ' H' s'/\Q σ' H') X.xe s
def Wc(X:Cx)(ts:List Expr)(t:RY):Prop:=
 ∀(ζ:List (Addr×Obj)) (s:Shared) (σ:St) (H:Hp) (vs:List V) (us:List Value) (Q:St->Hp->Prop),Inv X ζ σ H s->aH vs us->t vs σ H Q->
  wpAny (model X.prog X.w) X.A (assignInOrder ((assignEach ts X.env).map (·.2)) us) (λ_ s'=>∃σ' H',Inv X ζ σ' H' s'/\Q σ' H') X.xe s
abbrev QC:=V->V->V->Hp->(Hp->Prop)->Prop
def U5(X:Cx)(t:QC):Prop:=
 ∀(ζ:List (Addr×Obj)) (s:Shared) (σ:St) (H:Hp) (o i v:V) (ov iv u:Value) (Q:Hp->Prop),Inv X ζ σ H s->aS o ov->aS i iv->aS v u->t o i v H Q->
  wpAny (model X.prog X.w) X.A (setItem ov iv u) (λ_ s'=>∃H',Inv X ζ σ H' s'/\Q H') X.xe s
section
def gA(i:Nat):TG:=λv σ H Q=>Q (σ.set i (some v)) H
def av(hN:X.N.Nodup)(hi:X.N[i]? =some x)(hx:Loc X.env.scope x)(hf:X.fn x=true\/X.env.scope.names.lookup x=some .local:=by first| exact .inl rfl| exact .inr rfl| assumption):PG X (.Name x pos) (gA i):=by intro ζ s σ H v u Q I r h;exact wpAny_assign_Name (oj I hN hi hx r (λs' I'=>⟨_,H,I',h⟩) hf)
def Hc:RY:=λvs σ H Q=>vs=[]/\Q σ H
def kg(t:TG)(u:RY):RY:=λvs σ H Q=>∃v r,vs=v::r/\t v σ H λσ' H'=>u r σ' H' Q
def gO:Wc X [] Hc:=by intro ζ s σ H vs us Q I r h;have⟨e,h⟩:=h;subst e;cases r;exact assignInOrder_nil ⟨σ,H,I,h⟩
def aV{t:TG}{u:RY}(h1:PG X e t)(h2:Wc X es u)
  (hs:(assignEach (e::es) X.env).map (·.2)=assign e X.env::(assignEach es X.env).map (·.2):=by rfl):Wc X (e::es) (kg t u):=by
 intro ζ s σ H vs us Q I r h;have⟨v,vr,e1,h⟩:=h;subst e1;cases r with
 | cons r rr=>
  rw[hs];refine assignInOrder_cons (bW (h1 ζ s σ H _ _ _ I r h) λ_ s1 xz=>?_);have⟨σ1,H1,I1,q1⟩:=xz;exact h2 ζ s1 σ1 H1 _ _ Q I1 rr q1
def GL(K:fI)(n:Nat)(t:RY):TG:=λv σ H Q=>∃a xs,v= .ref a/\oS K H a xs/\xs.length=n/\t xs σ H Q
def jZ{k:Nat}{t:RY}{n:Nat}(hc:X.calm=true)(h:Wc X es t)
  (hn:(assignEach es X.env).length=n:=by rfl) (Ht:(assignEach es X.env).findIdx? (·.1)=none:=by rfl):PG X (.Tuple es k pos) (GL X.K n t):=by
 intro ζ s σ H v u Q I r hw;have⟨a,xs,e1,hq,hl,hw⟩:=hw;subst e1;cases r;have⟨its,rv,ht,hz⟩:=I.tuple hq;refine assign_Tuple_tuple (I.ok.hd hc) ht (by simp[hn,<-hl,rv.length]) Ht λh' hx=>?_;have I1:Inv X ζ σ H {s with heap:=h'}:=I.kept (t':=s.toks) λb o e=>hx b o (aaU (aaw e)) e;exact h ζ _ σ H xs _ Q I1 (by simpa using rv) hw
def Y0(to ti:TE)(t:QC):TG:=λv σ H Q=>to σ H λo H1=>ti σ H1 λi H2=>t o i v H2 λH3=>Q σ H3
def Rg{o i:Expr}{to ti:TE}{t:QC}(ho:PE X o to)(hi:PE X i ti)(hs:U5 X t)
  (ha:∀v,assign (.Subscript o i pos) X.env v=(do
   let ov<-holding [v] (eval o X.env)
   let iv<-holding [v,ov] (eval i X.env)
   standAt pos
   holding [v,ov,iv] (setItem ov iv v)
   release [v,ov,iv] []):=by intro _;rfl):PG X (.Subscript o i pos) (Y0 to ti t):=by
 intro ζ s σ H v u Q I r h;rw[ha];refine aaM (wpAny_holding (bW (ho ζ s σ H _ I h) λov s1 xz=>?_));have⟨x,H1,I1,r1,q1⟩:=xz;refine aaM (wpAny_holding (bW (hi ζ s1 σ H1 _ I1 q1) λiv s2 xz=>?_));have⟨y,H2,I2,r2,q2⟩:=xz;refine aaM (wpAny_standAt (aaM (wpAny_holding (bW (hs ζ s2 σ H2 x y v ov iv u _ I2 r1 r2 r q2) λ_ s3 xz=>?_))));have⟨H3,I3,q3⟩:=xz;exact wpAny_release ⟨σ,H3,I3,q3⟩
def T'(te:TE)(g:TG):TS:=λD σ H=>te σ H λx H1=>g x σ H1 D.nx
def Ct{g:TG}(he:PE X e te)(hg:PG X tg g)(hs:swapsWithSole [tg] e pos.line X.env=pure false:=by rfl)(hw:swappedStores [tg] e X.env=pure none:=by rfl)
  (h1:(assignEach [tg] X.env).map (·.2)=[assign tg X.env]:=by rfl):PS X (.Assign [tg] e pos) (T' te g):=by
 intro ζ s σ H D I h;refine wpAny_Assign_stores (bW (he ζ s σ H _ I h) λv s1 xz=>?_) hs hw;have⟨x,H1,I1,r1,q1⟩:=xz;rw[h1];exact bW (hg ζ s1 σ H1 x v _ I1 r1 q1) λ_ s2 q=>q
def Qr{pos':Pos}(hN:X.N.Nodup)(hi:X.N[i]? =some x)(hx:Loc X.env.scope x)(he:PE X e te)(hs:swapsWith e (some (.Name x pos')) pos.line X.env=pure false:=by rfl)(hf:X.fn x=true\/X.env.scope.names.lookup x=some .local:=by first| exact .inl rfl| exact .inr rfl| assumption):
  PS X (.Assign [.Name x pos'] e pos) (T' te (gA i)):=by
 intro ζ s σ H D I h;refine wpAny_Assign_Name (bW (he ζ s σ H _ I h) λv s1 xz=>?_) hs;have⟨y,H1,I1,r1,q1⟩:=xz;exact oj I1 hN hi hx r1 (λs2 I2=>⟨_,H1,I2,q1⟩) hf
def Yg(i j:Nat)(ta:TA):TS:=λD σ H=>ta σ H λvs H1=>∃v w,vs=[v,w]/\D.nx ((σ.set i (some v)).set j (some w)) H1
def RX{j:Nat}{y:Str}{a b:Expr}{ta:TA}{px py pt:Pos}{kt k2 QB}(hc:X.calm=true)(hN:X.N.Nodup)(hi:X.N[i]? =some x)(hj:X.N[j]? =some y)(X0:i≠j)
  (hx:X.env.scope.names.lookup x=some .local) (hy:X.env.scope.names.lookup y=some .local) (ha:PA X [a,b] ta)
  (hw:swappedStores [.Tuple [.Name x px,.Name y py] kt pt] (.Tuple [a,b] k2 QB) X.env=pure (some [x,y]))
  (hs:swapsWithSole [.Tuple [.Name x px,.Name y py] kt pt] (.Tuple [a,b] k2 QB) pos.line X.env=pure false:=by rfl):
  PS X (.Assign [.Tuple [.Name x px,.Name y py] kt pt] (.Tuple [a,b] k2 QB) pos) (Yg i j ta):=by
 intro ζ s σ H D I h;rw[exec_Assign_arm];refine aaM (wpAny_standAt ?_);rw[hs];refine aaM (abf ?_);rw[aaC @_];refine aaM (Tuple_ (bW (ha _ ζ s σ H _ I h) λus s1 xz=>?_));have⟨vs,H1,I1,r1,q1⟩:=xz;have⟨v,w,e1,q1⟩:=q1;subst e1;obtain⟨u1,u2,rfl,rv,HM⟩:∃u1 u2,us=[u1,u2]/\aS v u1/\aS w u2:=by
  cases r1 with
  | cons p q=>
   cases q with
   | cons p' q'=>
    cases q';exact⟨_,_,rfl,p,p'⟩
 refine wpAny_newObj_type ?_ gV;have I2:Inv X ζ σ H1 {s1 with heap:=s1.heap.push {cls:=.type "tuple",data:=.seq [u1,u2].toArray}}:=I1.kept (t':=s1.toks) λb o e=>aal _ e;rw[hw];refine aaM (abf ?_);show wpAny (model X.prog X.w) X.A (do rule "assign.swapped-stores";let items<-unpackItems (.ref s1.heap.objs.size) 2 none;assignInOrder [λv=>bindName X.env y v,λv=>bindName X.env x v] items.reverse;pure Flow.next) _ _ _;refine aaM (wpAny_rule (aaM (unpackItems_tuple (items:= #[u1,u2]) (I.ok.hd hc) (IsTup.new s1.heap _) λh' YU=>?_)));have I3:=I2.kept (h':=h') (t':=s1.toks) λb o e=>YU b o (aaU (aaw e)) e;show wpAny _ _ (assignInOrder [λv=>bindName X.env y v,λv=>bindName X.env x v] [u2,u1] >>= λ_=>pure Flow.next) _ _ _;refine aaM (assignInOrder_cons (wpAny_bindName (oj I3 hN hj (.inl hy) HM (λs2 I4=>?_) (.inr hy))));refine assignInOrder_cons (wpAny_bindName (oj I4 hN hi (.inl hx) rv (λs3 I5=>assignInOrder_nil (abf ?_)) (.inr hx)));rw[List.set_comm _ _ (Ne.symm X0)]at I5;exact⟨_,H1,I5,q1⟩
end
section
def Pe(c:TT)(tb:TS):TS:=λD σ H=>∃W:Nat->St->Hp->Prop,(∃m,W m σ H)/\∀m σ H,W m σ H->
 c σ H λb H1=>if b=true then∃N:St->Hp->Prop,(∀σ' H',N σ' H'->∃m',m' < m/\W m' σ' H')/\tb {D with nx:=N,ct:=N,bk:=D.nx} σ H1 else D.nx σ H1
def KH{tc:TT}{tb:TS}(hp:PassesOwn (model X.prog X.w) X.A X.env X.xe)(hc:PT X c tc)(hb:Ik X body tb):PS X (.While c body [] pos) (Pe tc tb):=by
 intro ζ s σ H D I h;have⟨W,⟨m0,w0⟩,turn⟩:=h;refine wpAny_While (codeAny_whileLoop (λn s'=>∃σ' H',Inv X ζ σ' H' s'/\W n σ' H') ?_ m0 ⟨σ,H,I,w0⟩);rintro n s1 ⟨σ1,H1,I1,w1⟩;refine wpAny_passesOwn hp (bW (hc ζ s1 σ1 H1 _ I1 (turn n σ1 H1 w1)) λb s2 xz=>?_);have⟨H2,I2,q2⟩:=xz;cases b with
 | true=>
  have⟨N,hN,q2⟩:=q2;rw[aaz rfl];refine wpAny_passesOwn hp (bW (hb ζ s2 σ1 H2 _ I2 q2) λf s3 q3=>?_);cases f with
  | next=>
   have⟨σ3,H3,I3,n3⟩:=q3;have⟨m',hm,w3⟩:=hN σ3 H3 n3;exact⟨m',hm,σ3,H3,I3,w3⟩
  | cont=>
   have⟨σ3,H3,I3,n3⟩:=q3;have⟨m',hm,w3⟩:=hN σ3 H3 n3;exact⟨m',hm,σ3,H3,I3,w3⟩
  | brk=>exact q3
  | ret v=>exact q3
 | false=>
  rw[aaC aaF];exact wpAny_execs_nil ⟨σ1,H2,I2,q2⟩
end
structure It where
 go:Nat->Hp->Prop
 T5:Nat->Hp->V->Hp->Prop
 stop:Nat->Hp->Prop
def sQ(X:Cx)(ζ:List (Addr×Obj))(H:Hp)(b:Addr):Prop:=
 H b=none/\b≠X.env.locals/\b∉X.fs/\(b∈X.ex\/X.s₀.heap.objs.size<=b)/\(∀x c,X.env.cells.lookup x=some c->c≠b)/\∀p∈X.pn++ζ,p.1≠b
def Inv.DL{H H':Hp}(I:Inv X ζ σ H s)(hb:s.heap.objs.size<=b)(hn:H' b=none):sQ X ζ H' b:=by
 refine⟨hn,acI (aat I.lt hb),I.Yw hb,.inr (aax I.sz hb),λx c e z=>?_,λp hp z=>?_⟩
 ·have⟨v,q⟩:=I.cell x c e;exact aaP (aat q.lt (by rw[z];exact hb)) (abJ _)
 ·exact aaP (aat (aaw (I.pin p hp).1) (by rw[z];exact hb)) (abJ _)
structure Turn(P:Program)(w:World)(K:fI)(tg:Expr)(J:It)(fp:List Addr)(it:Addr)(tn:Nat->Heap->Prop):Prop where
 mem:it∈fp
 obj:∀i h,tn i h->∀b∈fp,∃o,h.get? b=some o/\∀v,o.data≠ .cell v
 keep:∀i h h',tn i h->(∀b∈fp,∀o,h.get? b=some o->h'.get? b=some o)->tn i h'
 item:∀(X:Cx),X.prog=P->X.w=w->X.K=K->X.calm=true->∀(i:Nat) (ζ:List (Addr×Obj)) (s:Shared) (σ:St) (H:Hp) (E:Value->Shared->Prop),Inv X ζ σ H s->(∀b∈fp,sQ X ζ H b)->tn i s.heap->J.go i H->
  wpAny (model P w) X.A (pyNext (.ref it)) (λr s1=>∃u,r=some u/\
   wpAny (model P w) X.A (letOwnedTupleGo tg (.ref it) u) (λ_ s2=>∃x H',Inv X ζ σ H' s2/\aS x u/\J.T5 i H x H'/\tn (i+1) s2.heap/\∀b∈fp,H' b=none) E s1) E s
 done:∀(X:Cx),X.prog=P->X.w=w->X.K=K->X.calm=true->∀(i:Nat) (ζ:List (Addr×Obj)) (s:Shared) (σ:St) (H:Hp) (E:Value->Shared->Prop),Inv X ζ σ H s->(∀b∈fp,sQ X ζ H b)->tn i s.heap->J.stop i H->
  wpAny (model P w) X.A (pyNext (.ref it)) (λr s1=>r=none/\Inv X ζ σ H s1) E s
 self:∀(A:Around) (i:Nat) (s:Shared) (Q:Value->Shared->Prop) (E:Value->Shared->Prop),tn i s.heap->Q (.ref it) s->wpAny (model P w) A (pyIter (.ref it)) Q E s
abbrev TI:=St->Hp->(It->Hp->Prop)->Prop
def LW(X:Cx)(ζ:List (Addr×Obj))(σ:St)(tg:Expr)(R:It->Hp->Prop)(V_:Value)(s2:Shared):Prop:=
 ∃(it:Addr) (fp:List Addr) (tn:Nat->Heap->Prop) (J:It) (H':Hp),V_= .ref it/\Inv X ζ σ H' s2/\Turn X.prog X.w X.K tg J fp it tn/\tn 0 s2.heap/\(∀b∈fp,sQ X ζ H' b)/\R J H'
def PI(X:Cx)(tg iter:Expr)(wi:TI):Prop:=
 ∀(ζ:List (Addr×Obj)) (s:Shared) (σ:St) (H:Hp) (R:It->Hp->Prop),Inv X ζ σ H s->wi σ H R->
  wpAny (model X.prog X.w) X.A (eval iter X.env) (λv s1=>wpAny (model X.prog X.w) X.A (pyIter v) (LW X ζ σ tg R) X.xe s1) X.xe s
def vF   {E : Value -> Shared -> Prop}   {it : Addr}  {o : Obj} {n : String} {vs : Array Value} {Q : Unit -> Shared -> Prop} (ho : s.heap.get? it = some o) (hc : o.cls = .type n) (hd : o.data = .fields vs)
    (hn : ["enumerate","zip","dict_itemiterator","dict_reverseitemiterator","odict_iterator","itertools.zip_longest","itertools.pairwise"].contains n = false) (hQ : Q Unit.unit s) : wpAny M A (letOwnedTupleGo tg (.ref it) u) Q E s :=by
  unfold letOwnedTupleGo
  cases tg <;> first
    | exact abf hQ
    | (cases u <;> first
        | exact abf hQ
        | (refine aaM (wpAny_load ho ?_)
           rw[hc,hd];show wpAny M A (if (["enumerate","zip","dict_itemiterator","dict_reverseitemiterator","odict_iterator","itertools.zip_longest","itertools.pairwise"].contains n && vs[0]? == some (rawInt _)) = true then _ else _) Q E s;rw[aaC (by intro h;rw[hn,acH]at h;cases h)]
           exact abf hQ))
def V8(K:fI)(a:Addr):It:=
 ⟨λi H=>∃xs x,iS K H a xs/\xs[i]? =some x,λi H x H'=>H'=H/\∀xs,iS K H a xs->xs[i]? =some x,λi H=>∃xs,iS K H a xs/\xs.length<=i⟩
def W9(K:fI)(a:Addr):It:=
 ⟨λi H=>∃xs x,oS K H a xs/\xs[i]? =some x,λi H x H'=>H'=H/\∀xs,oS K H a xs->xs[i]? =some x,λi H=>∃xs,oS K H a xs/\xs.length<=i⟩
def Vu(lo:Int)(n:Nat):It:=⟨λi _=>i < n,λi H x H'=>H'=H/\x= .int (lo+i),λi _=>n<=i⟩
def Gy{K:fI}(a it:Addr):Turn P w K tg (V8 K a) [it] it (λi h=>h.IsListIter it a i) where
 mem:=by simp
 obj:=λi h st b hb=>by
  have e:b=it:=by simpa using hb
  subst e;have⟨o,e,c,d⟩:=st;exact⟨o,e,λv z=>by rw[d]at z;cases z⟩
 keep:=λi h h' st k=>st.at λo e=>k it (by simp) o e
 item:=by intro X hP hw hK hc i ζ s σ H E I hf st hg;subst hP hw hK;have⟨xs,x,hq,hx⟩:=hg;have⟨its,rv,p,hz⟩:=I.list hq;have⟨u,hu,ru⟩:=rv.get hx;have⟨f0,f1,f2,f3,f4,f5⟩:=hf it (by simp);refine wpAny_pyNext_list_item st p.isList (x:=u) (by simpa using hu) λh' xM sb=>?_;have I1:Inv X ζ σ H {s with heap:=h'}:=I.turned (t':=s.toks) (λb o hb e=>(sb.2 b hb).trans e) f0 f1 f3 f4 f5;have⟨o,e,c,d⟩:=id xM;exact⟨u,rfl,vF (s:={s with heap:=h'}) e c d @_ ⟨x,H,I1,ru,⟨rfl,λys hy=>by rw[I.og hy hq];exact hx⟩,xM,λb hb=>(hf b hb).1⟩⟩
 done:=by intro X hP hw hK hc i ζ s σ H E I hf st hg;subst hP hw hK;have⟨xs,hq,hx⟩:=hg;have⟨its,rv,p,hz⟩:=I.list hq;have⟨f0,f1,f2,f3,f4,f5⟩:=hf it (by simp);have hl:=rv.length;exact wpAny_pyNext_list_end (I.ok.hd hc) st p.isList (by simp;omega) λh' eb=>⟨rfl,I.turned (t':=s.toks) (λb o hb e=>eb b o hb e) f0 f1 f3 f4 f5⟩
 self:=λ_ _ _ _ _ st h=>wpAny_pyIter_listiter st h
def Dq{K:fI}(a it:Addr):Turn P w K tg (W9 K a) [it] it (λi h=>h.IsTupleIter it a i) where
 mem:=by simp
 obj:=λi h st b hb=>by
  have e:b=it:=by simpa using hb
  subst e;have⟨o,e,c,d⟩:=st;exact⟨o,e,λv z=>by rw[d]at z;cases z⟩
 keep:=λi h h' st k=>st.at λo e=>k it (by simp) o e
 item:=by intro X hP hw hK hc i ζ s σ H E I hf st hg;subst hP hw hK;have⟨xs,x,hq,hx⟩:=hg;have⟨its,rv,p,hz⟩:=I.tuple hq;have⟨u,hu,ru⟩:=rv.get hx;have⟨f0,f1,f2,f3,f4,f5⟩:=hf it (by simp);refine wpAny_pyNext_tuple_item st (show s.heap.IsTuple a its.toArray from p) (x:=u) (by simpa using hu) λh' xM sb=>?_;have I1:Inv X ζ σ H {s with heap:=h'}:=I.turned (t':=s.toks) (λb o hb e=>(sb.2 b hb).trans e) f0 f1 f3 f4 f5;have⟨o,e,c,d⟩:=id xM;exact⟨u,rfl,vF (s:={s with heap:=h'}) e c d @_ ⟨x,H,I1,ru,⟨rfl,λys hy=>by rw[I.GV hy hq];exact hx⟩,xM,λb hb=>(hf b hb).1⟩⟩
 done:=by intro X hP hw hK hc i ζ s σ H E I hf st hg;subst hP hw hK;have⟨xs,hq,hx⟩:=hg;have⟨its,rv,p,hz⟩:=I.tuple hq;have⟨f0,f1,f2,f3,f4,f5⟩:=hf it (by simp);have hl:=rv.length;exact wpAny_pyNext_tuple_end (I.ok.hd hc) st (show s.heap.IsTuple a its.toArray from p) (by simp;omega) λh' eb=>⟨rfl,I.turned (t':=s.toks) (λb o hb e=>eb b o hb e) f0 f1 f3 f4 f5⟩
 self:=λ_ _ _ _ _ st h=>wpAny_pyIter_tupleiter st h
def Bx{K:fI}(it:Addr)(lo:Int)(n:Nat):Turn P w K tg (Vu lo n) [it] it (λi h=>IsRangeIter h it (lo+(i:Nat) * 1) ((n:Int) - (i:Nat)) 1) where
 mem:=by simp
 obj:=λi h st b hb=>by
  have e:b=it:=by simpa using hb
  subst e
  exact⟨_,st,λv z=>by
   have z':Data.fields _=Data.cell v:=z
   cases z'⟩
 keep:=λi h h' st k=>k it (by simp) _ st
 item:=by intro X hP hw hK hc i ζ s σ H E I hf st hg;subst hP hw hK;have⟨f0,f1,f2,f3,f4,f5⟩:=hf it (by simp);have W:=Walks.range (prog:=X.prog) (w:=X.w) (I.ok.hd hc) it lo 1 n;refine W.item i s _ _ hg st λv h' tk hv xM kk=>?_;have⟨t,rfl⟩:=hv;have I1:Inv X ζ σ H {s with heap:=h',toks:=tk}:=I.turned (λb o hb e=>kk b o (by simpa using hb) e) f0 f1 f3 f4 f5;refine⟨_,rfl,vF (s:={s with heap:=h',toks:=tk}) (n:="range_iterator") xM rfl rfl @_ ⟨.int (lo+i),H,I1,⟨t,?_⟩,⟨rfl,rfl⟩,xM,λb hb=>(hf b hb).1⟩⟩;rw[abR]
 done:=by intro X hP hw hK hc i ζ s σ H E I hf st hg;subst hP hw hK;have⟨f0,f1,f2,f3,f4,f5⟩:=hf it (by simp);exact wpAny_pyNext_range_end (I.ok.hd hc) st (by have:n<=i:=hg;omega) λh' eb=>⟨rfl,I.turned (t':=s.toks) (λb o hb e=>eb b o hb e) f0 f1 f3 f4 f5⟩
 self:=λ_ _ _ _ _ st h=>wpAny_pyIter_rangeiter st h
section
def zh{H:Hp}{R:It->Hp->Prop}{lo hi:Int}{t u v:Tok}{tk:Nat}(I:Inv X ζ σ H s)(h1: -(2 ^ 62)<=lo)(h2:lo < 2 ^ 62)(h3: -(2 ^ 62)<=hi)(h4:hi < 2 ^ 62)
  (q:R (Vu lo (hi - lo).toNat) H):wpAny (model X.prog X.w) X.A (pyIter (.ref s.heap.objs.size)) (LW X ζ σ tg R) E {s with heap:=s.heap.push {cls:=.type "range",data:=.fields #[.int lo t,.int hi u,.int 1 v]},toks:=tk}:=by
 refine wpAny_pyIter_range (IsRange.new ..) (small_one h1 h2 h3 h4) ?_;have I1:Inv X ζ σ H {s with heap:=s.heap.push {cls:=.type "range",data:=.fields #[.int lo t,.int hi u,.int 1 v]},toks:=tk}:=I.kept λb o e=>aal _ e
 refine⟨(s.heap.push {cls:=.type "range",data:=.fields #[.int lo t,.int hi u,.int 1 v]}).objs.size,[(s.heap.push {cls:=.type "range",data:=.fields #[.int lo t,.int hi u,.int 1 v]}).objs.size],_,_,H,rfl,
  I1.kept (t':=tk) λb o e=>aal _ e,Bx _ lo (hi - lo).toNat,?_,λb hb=>?_,q⟩
 ·have e1:lo+((0:Nat):Int) * 1=lo:=by simp
  have e2:(((hi - lo).toNat:Nat):Int) - ((0:Nat):Int)=Builtin.Range.rangeSize lo hi 1:=by rw[rangeSize_one];split <;> omega
  show IsRangeIter _ _ (lo+((0:Nat):Int) * 1) ((((hi - lo).toNat:Nat):Int) - ((0:Nat):Int)) 1;rw[e1,e2];exact aaS _ rfl
 ·have e:b=(s.heap.push {cls:=.type "range",data:=.fields #[.int lo t,.int hi u,.int 1 v]}).objs.size:=by simpa using hb
  subst e;exact I1.DL (aaj _) (I1.bc.fresh (aaj _))
def TC(ta:TA):TI:=λσ H R=>ta σ H λvs H1=>∃j:Int,vs=[.int j]/\ -(2 ^ 62)<=j/\j < 2 ^ 62/\R (Vu 0 j.toNat) H1
def TN(ta:TA):TI:=λσ H R=>ta σ H λvs H1=>∃i j:Int,vs=[.int i,.int j]/\(-(2 ^ 62)<=i/\i < 2 ^ 62/\ -(2 ^ 62)<=j/\j < 2 ^ 62)/\R (Vu i (j - i).toNat) H1
def Gh{a:Expr}{ta:TA}{p:Pos}(hg:Gl X "range")(hm:X.mg "range"=none)(ha:PA X [a] ta)(hs:starEach [a] X.env=[(false,eval a X.env)]:=by rfl):PI X tg (.Call (.Name "range" p) [a] [] pos) (TC ta):=by
 intro ζ s σ H R I h;refine Call_ (pJ I hg hm boot_range (PyProof.Rows.callWith_type1 (bW (ha pos ζ s σ H _ I h) λus s1 xz=>?_) hs rfl));have⟨vs,H1,I1,r1,q1⟩:=xz;have⟨j,e,q1,q2,q⟩:=q1;subst e;cases r1 with
 | cons r rr=>
  cases rr;have⟨t,rfl⟩:=r;exact call_range_1 (zh I1 () () q1 q2 (by simpa using q))
def HZ{a b:Expr}{ta:TA}{p:Pos}(hg:Gl X "range")(hm:X.mg "range"=none)(ha:PA X [a,b] ta)(hs:starEach [a,b] X.env=[(false,eval a X.env),(false,eval b X.env)]:=by rfl)(PC:starEach [b] X.env=[(false,eval b X.env)]:=by rfl):
  PI X tg (.Call (.Name "range" p) [a,b] [] pos) (TN ta):=by
 intro ζ s σ H R I h;refine Call_ (pJ I hg hm boot_range (PyProof.Rows.callWith_type1 (bW (ha pos ζ s σ H _ I h) fun us s1 ⟨vs,H1,I1,r1,q1⟩=>?_) (by rw[hs,PC]) (by rw[PC];rfl)));have⟨i,j,e,⟨q1,q2,q3,q4⟩,q⟩:=q1;subst e;cases r1 with
 | cons r rr=>
  cases rr with
  | cons r' rr=>
   cases rr;have⟨t,rfl⟩:=r;have⟨t',rfl⟩:=r';exact call_range_2 (zh I1 q1 q2 q3 q4 q)
def Zj(wi:TI)(g:TG)(tb:TS):TS:=λD σ H=>wi σ H λJ H1=>∃W:Nat->Nat->St->Hp->Prop,(∃m,W 0 m σ H1)/\∀i m σ H,W i m σ H->
 (J.stop i H/\D.nx σ H)\/(J.go i H/\∃N:St->Hp->Prop,(∀σ' H',N σ' H'->∃m',m' < m/\W (i+1) m' σ' H')/\∀x H',J.T5 i H x H'->g x σ H' λσ2 H2=>tb {D with nx:=N,ct:=N,bk:=D.nx} σ2 H2)
def yf(fp:List Addr)(h:Heap):List (Addr×Obj):=fp.filterMap λb=>(h.get? b).map λo=>(b,o)
def fB{o:Obj}(hb:b∈fp)(e:h.get? b=some o):(b,o)∈yf fp h:=acC.mpr ⟨b,hb,by rw[e];rfl⟩
def GN{p:Addr×Obj}(hp:p∈yf fp h):p.1∈fp/\h.get? p.1=some p.2:=by
 have⟨b,hb,e⟩:=acC.mp hp;cases q:h.get? b with
 | none=>rw[q]at e;cases e
 | some o=>
  rw[q]at e;have e':(b,o)=p:=aaJ e;subst e';exact⟨hb,q⟩
def Inv.pinned{H:Hp}(I:Inv X ζ σ H s)(hf:∀b∈fp,sQ X ζ H b)(ho:∀b∈fp,∃o,s.heap.get? b=some o/\∀v,o.data≠ .cell v):Inv X (ζ++yf fp s.heap) σ H s:=
 I.EI λp hp=>(aaV.mp hp).elim (λz=>I.pin p (aaH _ z)) λz=>by have⟨hb,e⟩:=GN z;have⟨f0,f1,f2,_⟩:=hf p.1 hb;have⟨o,e',d⟩:=ho p.1 hb;rw[e]at e';cases e';exact⟨e,f0,f1,f2,d⟩
def Inv.kR{pl:List (Addr×Obj)}{H:Hp}(I:Inv X (ζ++pl) σ H s):Inv X ζ σ H s:=I.EI λp hp=>I.pin p (aaH _ (aco _ hp))
def CS{iter:Expr}{wi:TI}{g:TG}{tb:TS}(hp:PassesOwn (model X.prog X.w) X.A X.env X.xe)(hc:X.calm=true)(hi:PI X tg iter wi)(hg:PG X tg g)(hb:Ik X body tb)
  (hs:∀x,foldedSetIterable iter X.env x=pure x:=by intro _;rfl):PS X (.For tg iter body [] pos) (Zj wi g tb):=by
 intro ζ s σ H D I h;refine wpAny_For (bW (hi ζ s σ H _ I h) λv s1 h1=>bW h1 λV_ s2 h2=>?_) hs;have⟨it,fp,tn,J,H2,e,I2,T,st2,f2,W,⟨m0,w0⟩,turn⟩:=h2;subst e;have P2:∀{H':Hp},(∀b∈fp,H' b=none)->∀b∈fp,sQ X ζ H' b:=λhn b hb=>⟨hn b hb,(f2 b hb).2⟩;refine codeAny_forLoop_any (λn s'=>∃i σ' H',Inv X ζ σ' H' s'/\tn i s'.heap/\(∀b∈fp,H' b=none)/\W i n σ' H') ?_ m0 ⟨0,σ,H2,I2,st2,λb hb=>(f2 b hb).1,w0⟩;rintro n s3 ⟨i,σ3,H3,I3,st3,fr3,w3⟩;rcases turn i n σ3 H3 w3 with ⟨stop,qn⟩| ⟨go,N,hN,step⟩
 ·refine wpAny_passesOwn hp (bW (T.done X rfl rfl rfl hc i ζ s3 σ3 H3 X.xe I3 (P2 fr3) st3 stop) λr s4 xz=>?_);have⟨hr,I4⟩:=xz;subst hr;exact wpAny_execs_nil ⟨σ3,H3,I4,qn⟩
 ·refine wpAny_passesOwn hp (bW (T.item X rfl rfl rfl hc i ζ s3 σ3 H3 X.xe I3 (P2 fr3) st3 go) λr s4 xz=>?_);have⟨u,hr,h4⟩:=xz;subst hr;refine wpAny_passesOwn hp (bW h4 λ_ s5 xz=>?_);have⟨x,H5,I5,r5,y5,Xu,Wo⟩:=xz;have I5':=I5.pinned (P2 Wo) (T.obj _ _ Xu);refine wpAny_passesOwn hp (bW (hg _ s5 σ3 H5 x u _ I5' r5 (step x H5 y5)) λ_ s6 xz=>?_);have⟨σ6,H6,I6,q6⟩:=xz;refine wpAny_passesOwn hp (bW (hb _ s6 σ6 H6 _ I6 q6) λf s7 q7=>?_);have again:∀{σ7:St} {H7:Hp},Inv X (ζ++yf fp s5.heap) σ7 H7 s7->N σ7 H7->∃m,m < n/\∃i σ' H',Inv X ζ σ' H' s7/\tn i s7.heap/\(∀b∈fp,H' b=none)/\W i m σ' H':=λ{σ7 H7} I7 n7=>by have⟨m',hm,w7⟩:=hN σ7 H7 n7;refine⟨m',hm,i+1,σ7,H7,I7.kR,T.keep _ _ _ Xu λb hb o e=>(I7.pin (b,o) (aaH _ (aaH _ (fB hb e)))).1,λb hb=>?_,w7⟩;have⟨o,e,d⟩:=T.obj _ _ Xu b hb;exact(I7.pin (b,o) (aaH _ (aaH _ (fB hb e)))).2.1
  cases f with
  | next=>have⟨σ7,H7,I7,n7⟩:=q7;exact again I7 n7
  | cont=>have⟨σ7,H7,I7,n7⟩:=q7;exact again I7 n7
  | brk=>have⟨σ7,H7,I7,q7⟩:=q7;exact⟨σ7,H7,I7.kR,q7⟩
  | ret v=>have⟨x7,σ7,H7,I7,r7,q7⟩:=q7;exact⟨x7,σ7,H7,I7.kR,r7,q7⟩
end
abbrev R2:=V->V->Hp->VK->Prop
def ky(X:Cx)(f:Value->Value->Sem Value)(r:R2):Prop:=
 ∀(ζ:List (Addr×Obj)) (s:Shared) (σ:St) (H:Hp) (x y:V) (v u:Value) (Q:VK),Inv X ζ σ H s->aS x v->aS y u->r x y H Q->
  wpAny (model X.prog X.w) X.A (f v u) (EP X ζ σ Q) X.xe s
def VM(X:Cx)(f:Value->Sem Value)(r:V->Hp->VK->Prop):Prop:=
 ∀(ζ:List (Addr×Obj)) (s:Shared) (σ:St) (H:Hp) (x:V) (v:Value) (Q:VK),Inv X ζ σ H s->aS x v->r x H Q->
  wpAny (model X.prog X.w) X.A (f v) (EP X ζ σ Q) X.xe s
def eY(X:Cx)(f:Value)(r:List V->Hp->VK->Prop):Prop:=
 ∀(ζ:List (Addr×Obj)) (s:Shared) (σ:St) (H:Hp) (xs:List V) (us:List Value) (Q:VK),Inv X ζ σ H s->aH xs us->r xs H Q->
  wpAny (model X.prog X.w) X.A (call f us) (EP X ζ σ Q) X.xe s
def UC(r:R2)(ta tb:TE):TE:=λσ H Q=>ta σ H λx H1=>tb σ H1 λy H2=>r x y H2 Q
def tUn(r:V->Hp->VK->Prop)(ta:TE):TE:=λσ H Q=>ta σ H λx H1=>r x H1 Q
def rI(C:Int->Int->Prop)(g:Int->Int->V):R2:=λx y H Q=>∃i j,x= .int i/\y= .int j/\C i j/\Q (g i j) H
def HE(g:Int->Int->V):R2:=λx y H Q=>∃i j,x= .int i/\y= .int j/\Q (g i j) H
def rU(g:Int->V):V->Hp->VK->Prop:=λx H Q=>∃i,x= .int i/\Q (g i) H
section
variable{a b:Expr}{tb tc:TE}
def P_(ha:PE X a ta)(hb:PE X b tb){H:Hp}{R:V->V->Hp->Prop}(I:Inv X ζ σ H s)
  (h:ta σ H λx H1=>tb σ H1 λy H2=>R x y H2)
  (hf:∀v u s2 x y H2,Inv X ζ σ H2 s2->aS x v->aS y u->R x y H2->wpAny (model X.prog X.w) X.A (f v u) Q X.xe s2):
  wpAny (model X.prog X.w) X.A (eval a X.env) (λv s₁=>wpAny (model X.prog X.w) X.A (eval b X.env) (λu s₂=>wpAny (model X.prog X.w) X.A (f v u) Q X.xe s₂) X.xe s₁) X.xe s:=by
 refine bW (ha ζ s σ H _ I h) λv s1 xz=>?_;have⟨x,H1,I1,r1,q1⟩:=xz;refine bW (hb ζ s1 σ H1 _ I1 q1) λu s2 xz=>?_;have⟨y,H2,I2,r2,q2⟩:=xz;exact hf v u s2 x y H2 I2 r1 r2 q2
def Uz{op:Operator}{r:R2}(ho:ky X (binaryOp op) r)(ha:PE X a ta)(hb:PE X b tb):PE X (.BinOp a op b pos) (UC r ta tb):=by intro ζ s σ H Q I h;exact wpAny_BinOp (P_ ha hb I h λv u s2 x y H2 I2 rx ry q=>ho ζ s2 σ H2 x y v u Q I2 rx ry q)
def To{op:UnaryOp}{r:V->Hp->VK->Prop}(ho:VM X (unaryOp op) r)(ha:PE X a ta):PE X (.UnaryOp op a pos) (tUn r ta):=by intro ζ s σ H Q I h;exact UnaryOp_ (bW (ha ζ s σ H _ I h) λv s1 ⟨x,H1,I1,r1,q1⟩=>ho ζ s1 σ H1 x v Q I1 r1 q1)
def V7{C:Int->Int->Prop}{g:Int->Int->Int}
  (rule:∀(i j:Int) (t u:Tok) (s:Shared) (Q:Value->Shared->Prop) (E:Value->Shared->Prop),C i j->Q (.int (g i j) s.toks) {s with toks:=s.toks+1}->wpAny (model X.prog X.w) X.A (f (.int i t) (.int j u)) Q E s):
  ky X f (rI C λi j=>.int (g i j)):=by
 intro ζ s σ H x y v u Q I rx ry h;have⟨i,j,rfl,rfl,hc,q⟩:=h;have⟨t,rfl⟩:=rx;have⟨t',rfl⟩:=ry;exact rule i j t t' s _ _ hc ⟨.int (g i j),H,I.tok _,⟨_,rfl⟩,q⟩
def U7{g:Int->Int->Int}
  (rule:∀(i j:Int) (t u:Tok) (s:Shared) (Q:Value->Shared->Prop) (E:Value->Shared->Prop),Q (.int (g i j) s.toks) {s with toks:=s.toks+1}->wpAny (model X.prog X.w) X.A (f (.int i t) (.int j u)) Q E s):
  ky X f (HE λi j=>.int (g i j)):=by
 intro ζ s σ H x y v u Q I rx ry h;have⟨i,j,rfl,rfl,q⟩:=h;have⟨t,rfl⟩:=rx;have⟨t',rfl⟩:=ry;exact rule i j t t' s _ _ ⟨.int (g i j),H,I.tok _,⟨_,rfl⟩,q⟩
def NH{g:Int->Int->Bool}
  (rule:∀(i j:Int) (t u:Tok) (s:Shared) (Q:Value->Shared->Prop) (E:Value->Shared->Prop),Q (.bool (g i j)) s->wpAny (model X.prog X.w) X.A (f (.int i t) (.int j u)) Q E s):
  ky X f (HE λi j=>.bl (g i j)):=by
 intro ζ s σ H x y v u Q I rx ry h;have⟨i,j,rfl,rfl,q⟩:=h;have⟨t,rfl⟩:=rx;have⟨t',rfl⟩:=ry;exact rule i j t t' s _ _ ⟨.bl (g i j),H,I,rfl,q⟩
def sD(i j:Int):Prop:=0<=j/\j<=1000000/\i.natAbs < 2 ^ 64
def P8:ky X (binaryOp .Add) (HE λi j=>.int (i+j)):=U7 λ_ _ _ _ _ _ _ q=>add_int q
def PN:ky X (binaryOp .Sub) (HE λi j=>.int (i - j)):=U7 λ_ _ _ _ _ _ _ q=>sub_int q
def Q4:ky X (binaryOp .Mod) (rI (λ_ j=>0 < j) λi j=>.int (i % j)):=V7 λi j _ _ _ _ _ hc q=>by have h1:(0:Int) < j:=hc;exact mod_int' () (by rw[abV i ()];exact q)
def QF:ky X (binaryOp .Pow) (rI sD λi j=>.int (i ^ j.toNat)):=V7 λ_ _ _ _ _ _ _ hc q=>pow_int_small hc.1 hc.2.1 hc.2.2 q
def unI{f:Value->Sem Value}{g:Int->Int}
  (rule:∀(i:Int) (t:Tok) (s:Shared) (Q:Value->Shared->Prop) (E:Value->Shared->Prop),Q (.int (g i) s.toks) {s with toks:=s.toks+1}->wpAny (model X.prog X.w) X.A (f (.int i t)) Q E s):
  VM X f (rU λi=>.int (g i)):=by
 intro ζ s σ H x v Q I rx h;have⟨i,rfl,q⟩:=h;have⟨t,rfl⟩:=rx;exact rule i t s _ _ ⟨.int (g i),H,I.tok _,⟨_,rfl⟩,q⟩
def P1:VM X (unaryOp .USub) (rU λi=>.int (-i)):=unI λ_ _ _ _ _ q=>neg_int q
end
def Vr:V->V->Bool
 | .bU,.bU=>true| .bU,.int _=>true| .int _,.bU=>true| .bU,.bl _=>true| .bl _,.bU=>true| .bU,.str _=>true| .str _,.bU=>true
 | .int _,.int _=>true| .bl _,.bl _=>true| .str _,.str _=>true| .Ii _,.Ii _=>true
 | .int _,.str _=>true| .str _,.int _=>true| .bl _,.str _=>true| .str _,.bl _=>true
 | _,_=>false
def rEq:R2:=λx y H Q=>Vr x y=true/\Q (.bl (decide (x=y))) H
def rNe:R2:=λx y H Q=>Vr x y=true/\Q (.bl (!decide (x=y))) H
def EB{i j:Int}:decide (V.int i=V.int j)=(i==j):=by rw[Bool.eq_iff_iff];simp
def Lv{i j:Bool}:decide (V.bl i=V.bl j)=(i==j):=by rw[Bool.eq_iff_iff];simp
def EV{i j:Str}:decide (V.str i=V.str j)=(i==j):=by rw[Bool.eq_iff_iff];simp
def E9{i j:Array UInt8}:decide (V.Ii i=V.Ii j)=(i.toList==j.toList):=by rw[Bool.eq_iff_iff];cases i;cases j;simp
section
variable{a b:Expr}{tb tc:TE}
def aT{H:Hp}{Q:VK}{k k':Bool}(I:Inv X ζ σ H s)(q:Q (.bl k) H)(e:k=k'):EP X ζ σ Q (.bool k') s:=by subst e;exact⟨.bl k,H,I,rfl,q⟩
def OK:ky X (compareOp .Eq) rEq:=by
 intro ζ s σ H x y v u Q I rx ry h;have⟨hs,q⟩:=h;cases x with
 | bU=>
  cases rx;cases y with
  | bU=>cases ry;exact PySem.EqNone.eq_none_none (aT I q (by simp))
  | bl j=>cases ry;exact PySem.EqNone.eq_none_bool (aT I q (by simp))
  | int j=>have⟨t',rfl⟩:=ry;exact PySem.EqNone.eq_none_int (aT I q (by simp))
  | str j=>have⟨t',rfl⟩:=ry;exact PySem.EqNone.eq_none_str (aT I q (by simp))
  | _=>exact aaP (show false=true from hs) aaF
 | bl i=>
  cases rx;cases y with
  | bU=>cases ry;exact PySem.EqNone.eq_bool_none (aT I q (by simp))
  | bl j=>cases ry;exact eq_bool (aT I q Lv)
  | str j=>have⟨t',rfl⟩:=ry;exact PySem.EqMixed.eq_bool_str (aT I q (by simp))
  | _=>exact aaP (show false=true from hs) aaF
 | int i=>
  have⟨t,rfl⟩:=rx;cases y with
  | bU=>cases ry;exact PySem.EqNone.eq_int_none (aT I q (by simp))
  | int j=>have⟨t',rfl⟩:=ry;exact eq_int (aT I q EB)
  | str j=>have⟨t',rfl⟩:=ry;exact PySem.EqMixed.eq_int_str (aT I q (by simp))
  | _=>exact aaP (show false=true from hs) aaF
 | str i=>
  have⟨t,rfl⟩:=rx;cases y with
  | bU=>cases ry;exact PySem.EqNone.eq_str_none (aT I q (by simp))
  | bl j=>cases ry;exact PySem.EqMixed.eq_str_bool (aT I q (by simp))
  | int j=>have⟨t',rfl⟩:=ry;exact PySem.EqMixed.eq_str_int (aT I q (by simp))
  | str j=>have⟨t',rfl⟩:=ry;exact eq_str (aT I q EV)
  | _=>exact aaP (show false=true from hs) aaF
 | Ii i=>
  have⟨t,rfl⟩:=rx;cases y with
  | Ii j=>have⟨t',rfl⟩:=ry;exact PySem.W.eq_bytes (aT I q E9)
  | _=>exact aaP (show false=true from hs) aaF
 | _=>cases y <;> exact aaP (show false=true from hs) aaF
def Tt:ky X (compareOp .NotEq) rNe:=by
 intro ζ s σ H x y v u Q I rx ry h;have⟨hs,q⟩:=h;cases x with
 | bU=>
  cases rx;cases y with
  | bU=>cases ry;exact PySem.EqNone.ne_none_none (aT I q (by simp))
  | bl j=>cases ry;exact PySem.EqNone.ne_none_bool (aT I q (by simp))
  | int j=>have⟨t',rfl⟩:=ry;exact PySem.EqNone.ne_none_int (aT I q (by simp))
  | str j=>have⟨t',rfl⟩:=ry;exact PySem.EqNone.ne_none_str (aT I q (by simp))
  | _=>exact aaP (show false=true from hs) aaF
 | bl i=>
  cases rx;cases y with
  | bU=>cases ry;exact PySem.EqNone.ne_bool_none (aT I q (by simp))
  | bl j=>cases ry;exact ne_bool (aT I q (aa2 not Lv))
  | str j=>have⟨t',rfl⟩:=ry;exact PySem.EqMixed.ne_bool_str (aT I q (by simp))
  | _=>exact aaP (show false=true from hs) aaF
 | int i=>
  have⟨t,rfl⟩:=rx;cases y with
  | bU=>cases ry;exact PySem.EqNone.ne_int_none (aT I q (by simp))
  | int j=>have⟨t',rfl⟩:=ry;exact ne_int (aT I q (aa2 not EB))
  | str j=>have⟨t',rfl⟩:=ry;exact PySem.EqMixed.ne_int_str (aT I q (by simp))
  | _=>exact aaP (show false=true from hs) aaF
 | str i=>
  have⟨t,rfl⟩:=rx;cases y with
  | bU=>cases ry;exact PySem.EqNone.ne_str_none (aT I q (by simp))
  | bl j=>cases ry;exact PySem.EqMixed.ne_str_bool (aT I q (by simp))
  | int j=>have⟨t',rfl⟩:=ry;exact PySem.EqMixed.ne_str_int (aT I q (by simp))
  | str j=>have⟨t',rfl⟩:=ry;exact ne_str (aT I q (aa2 not EV))
  | _=>exact aaP (show false=true from hs) aaF
 | Ii i=>
  have⟨t,rfl⟩:=rx;cases y with
  | Ii j=>have⟨t',rfl⟩:=ry;exact PySem.W.ne_bytes (aT I q (aa2 not E9))
  | _=>exact aaP (show false=true from hs) aaF
 | _=>cases y <;> exact aaP (show false=true from hs) aaF
def OH:ky X (compareOp .Lt) (HE λi j=>.bl (decide (i < j))):=NH λ_ _ _ _ _ _ _ q=>lt_int q
def Ox:ky X (compareOp .LtE) (HE λi j=>.bl (decide (i<=j))):=NH λ_ _ _ _ _ _ _ q=>le_int q
def S6:ky X (compareOp .Gt) (HE λi j=>.bl (decide (j < i))):=NH λ_ _ _ _ _ _ _ q=>gt_int q
def OY:ky X (compareOp .GtE) (HE λi j=>.bl (decide (j<=i))):=NH λ_ _ _ _ _ _ _ q=>ge_int q
def RR:ky X (compareOp .Is) (λx y H Q=>y= .bU/\Q (.bl (decide (x= .bU))) H):=by
 intro ζ s σ H x y v u Q I rx ry h;have⟨rfl,q⟩:=h;cases ry;refine is_none_gen (aT I q ?_)
 cases x <;> first
  | (cases rx;rfl)
  | (have⟨t,rfl⟩:=rx;rfl)
def ky.or{r r':R2}(h:ky X f r)(h':ky X f r'):ky X f (λx y H Q=>r x y H Q\/r' x y H Q):=by
 intro ζ s σ H x y v u Q I rx ry q;rcases q with q| q
 ·exact h ζ s σ H x y v u Q I rx ry q
 ·exact h' ζ s σ H x y v u Q I rx ry q
def ie(b:Expr)(h:op≠ .In:=by decide)(h2:op≠ .NotIn:=by decide):behindInMarks op b=false:=by
 have e1:(op==CmpOp.In)=false:=by cases op <;> first| rfl| exact aaP rfl h
 have e2:(op==CmpOp.NotIn)=false:=by cases op <;> first| rfl| exact aaP rfl h2
 cases b <;> simp[behindInMarks,e1,e2]
def Ml{r:R2}(ho:ky X (compareOp op) r)(ha:PE X a ta)(hb:PE X b tb)(hm:behindInMarks op b=false):PE X (.Compare a [op] [b] pos) (UC r ta tb):=by intro ζ s σ H Q I h;exact wpAny_Compare1 (P_ ha hb I h λv u s2 x y H2 I2 rx ry q=>ho ζ s2 σ H2 x y v u Q I2 rx ry q) hm
def Tq(t:TE):TT:=λσ H Q=>t σ H λx H'=>∃k,x= .bl k/\Q k H'
def Nj{r:R2}(ho:ky X (compareOp op) r)(ha:PE X a ta)(hb:PE X b tb)(hm:behindInMarks op b=false):PT X (.Compare a [op] [b] pos) (Tq (UC r ta tb)):=by
 intro ζ s σ H Q I h
 refine wpAny_isTrue_Compare1 (bW (ha ζ s σ H _ I h) fun v s1 ⟨x,H1,I1,r1,q1⟩=>bW (hb ζ s1 σ H1 _ I1 q1) fun u s2 ⟨y,H2,I2,r2,q2⟩=>
  bW (ho ζ s2 σ H2 x y v u _ I2 r1 r2 q2) fun c s3 ⟨z,H3,I3,r3,k,e,q3⟩=>?_) hm
 subst e;cases r3;exact wpAny_truthy_bool ⟨H3,I3,q3⟩
def pA:(sizeLine:Nat) < 2 ^ 63:=by rw[sizeLine_eq];decide
def Cn:ky X (binaryOp .Add) (λx y H Q=>∃i j,x= .str i/\y= .str j/\i.length+j.length<=sizeLine/\Q (.str (i++j)) H):=by intro ζ s σ H x y v u Q I rx ry h;have⟨i,j,rfl,rfl,hz,q⟩:=h;have⟨t,rfl⟩:=rx;have⟨t',rfl⟩:=ry;exact add_str (λt' tk=>⟨.str (i++j),H,I.tok _,⟨_,rfl⟩,q⟩) hz
def lN{x:V}(r:aH [x] us):∃u,us=[u]/\aS x u:=by
 cases r with
 | cons r1 r2=>cases r2;exact⟨_,rfl,r1⟩
def VH{x y:V}(r:aH [x,y] us):∃u w',us=[u,w']/\aS x u/\aS y w':=by
 cases r with
 | cons r1 r2=>
  cases r2 with
  | cons r3 r4=>cases r4;exact⟨_,_,rfl,r1,r3⟩
def IY:eY X (.builtin "abs") (λxs H Q=>∃i,xs=[.int i]/\Q (.int (if i < 0 then -i else i)) H):=by intro ζ s σ H xs us Q I r h;have⟨i,rfl,q⟩:=h;have⟨u,rfl,t,rfl⟩:=lN r;exact call_abs_int λu tk=>⟨.int (if i < 0 then -i else i),H,I.tok _,⟨_,rfl⟩,q⟩
def Gm(hc:X.calm=true):eY X (.builtin "min") (λxs H Q=>∃i j,xs=[.int i,.int j]/\Q (.int (if j < i then j else i)) H):=by
 intro ζ s σ H xs us Q I r h;have⟨i,j,rfl,q⟩:=h;have⟨u,w',rfl,⟨t,rfl⟩,⟨t',rfl⟩⟩:=VH r;refine min_two_ints (I.ok.hd hc) λh' tk k=>⟨_,H,I.kept k,?_,q⟩;by_cases hj:j < i
 ·rw[aaz hj,aaz hj];exact⟨_,rfl⟩
 ·rw[aaC hj,aaC hj];exact⟨_,rfl⟩
def Gk:eY X (.type "int") (λxs H Q=>(∃i,xs=[.int i]/\Q (.int i) H)\/∃k,xs=[.bl k]/\Q (.int (if k then 1 else 0)) H):=by
 intro ζ s σ H xs us Q I r h;rcases h with ⟨i,rfl,q⟩| ⟨k,rfl,q⟩
 ·have⟨u,rfl,t,rfl⟩:=lN r;exact call_int_int ⟨.int i,H,I,⟨_,rfl⟩,q⟩
 ·have⟨u,rfl,r1⟩:=lN r;cases r1;exact call_int_bool ⟨.int (if k then 1 else 0),H,I.tok _,⟨_,rfl⟩,q⟩
end
structure DO(h:Heap)(x dx C:Addr)(mA:Str->Option Value):Prop where
 obj:h.get? x=some (PySem.W.instObj C dx)
 ns:h.Ns1 dx mA
 ne:dx≠x
def FY(n:h.Ns1 dx mA):∃od,h.get? dx=some od/\∀name,PySem.W.lookIn name od=some (mA name):=by
 have⟨o,es,ep,ho,hd,hk,_,hm⟩:=n;refine⟨o,ho,λname=>?_⟩;have e:=hm name;unfold nsFind findBy at e;rw[<-Array.find?_toList]at e;unfold PySem.W.lookIn;rw[hd];dsimp only;split
 ·rename_i y q;rw[q]at e;exact aa2 some e
 ·rename_i q;rw[q]at e;have a:es.toList.any (·.refKey)=false:=by rw[List.any_eq_false];intro y hy;have⟨z,t,Zi⟩:=hk y (Array.mem_toList_iff.mp hy);simp[DictEntry.refKey,Zi]
  have a':¬es.toList.any (·.refKey)=true:=by rw[a];exact aaF
  rw[aaC a'];exact aa2 some e
def DO.look{x:Addr}(I:DO h x dx C mA):∃od,PySem.W.InstAt h x (PySem.W.instObj C dx) C (some od)/\∀name,PySem.W.lookIn name od=some (mA name):=
 let ⟨od,ho,hl⟩:=FY I.ns
 ⟨od,⟨I.obj,rfl,rfl,ho⟩,hl⟩
section
variable{K:fI}{x f:Addr}{name:Str}{v:Value}
def rE{expr:Bool}(X:K.In s.heap)(I:DO s.heap x dx C mA)(hg:PySem.W.plainGet K C name=true)(hh:PySem.W.hasDictIn K C=true)
  (ha:PySem.W.findIn K (.ref C) name=some none) (hv:mA name=some v) (hv':PySem.W.handedIn v=true) (h:Q v {s with toks:=s.toks+1}):
  wpAny (model prog w) A (getAttr (.ref x) name expr) Q E s:=by
 have⟨od,J,hl⟩:=I.look;exact PySem.W.get_value X J (PySem.W.plainGet_of hg).1 (PySem.W.findObj_own hh ha rfl (by rw[hl,hv])) hv' h
def IW{pl:Sem Bool}{Q:Value×List Value->Shared->Prop}(X:K.In s.heap)(I:DO s.heap x dx C mA)(hg:PySem.W.plainGet K C name=true)
  (hf:PySem.W.findIn K (.ref C) name=some (some (.ref f))) (ht:PySem.W.isFn K (.ref f)=true) (hv:mA name=none) (h:Q (.ref f,[.ref x]) s):
  wpAny (model prog w) A (getMethod (.ref x) name pl) Q E s:=by
 have⟨od,J,hl⟩:=I.look;exact PySem.W.method_fn X J (PySem.W.plainGet_of hg).1 (PySem.W.plainGet_of hg).2 hf (abH.mp ht) (by show(PySem.W.lookIn name od).map (·.isSome)=some false;rw[hl,hv];rfl) h
def N9{ns:List Str}{Q:Unit->Shared->Prop}(X:K.In s.heap)(I:DO s.heap x dx C mA)
  (hs:PySem.W.findIn K (.ref C) "__setattr__"=some (some (.builtin "object.__setattr__"))) (hp:PySem.W.plainOver K C=true) (ht:PySem.W.takerIn K C name=some none) (hh:PySem.W.hasDictIn K C=true)
  (hw:PySem.Within mA ns) (hsz:ns.length<=sizeLine)
  (h:∀h',DO h' x dx C (λy=>if y=name then some v else mA y)->Heap.SameBut dx s.heap h'->Q Unit.unit {s with heap:=h',toks:=s.toks+2}):
  wpAny (model prog w) A (setAttr (.ref x) name v) Q E s:=by
 have⟨od,J,hl⟩:=I.look;refine PySem.W.set_plain X J hs (PySem.W.osa_open (s:={s with toks:=s.toks+1}) (r:=none) X J hp ht λb=>?_);have⟨cd,hc,ML⟩:=PySem.W.any_some hh;have hx:s.heap.get? x=some ⟨.ref C,some dx,.plain,#[]⟩:=I.obj;refine aaM (abf (aaM (aaM (wpAny_loadPart hx (aaM (PySem.W.Looks.here (s:={s with toks:=s.toks+1}) (PySem.W.looks_clsIn X hc) ?_))))));rw[ML];refine abf (a:=some dx) (aaM (abf (aaM ?_)));refine wpAny_nsSet1 (s:={s with toks:=s.toks+1}) I.ns λh' Ud PC=>?_;have⟨oD,esD,epD,hoD,hdD,hcD⟩:=Ud.count (PySem.Within.cons name v hw);refine aaM (wpAny_lookBehind hoD (by rw[hdD];exact pastItsLine_dict (aax hcD (by rw[aau];omega))) ?_);exact abf (h _ ⟨(PC.2 _ (Ne.symm I.ne)).trans I.obj,Ud,I.ne⟩ PC)
def K1{R:Result->Shared->Prop}{vs:List Value}(X:K.In s.heap)(hm:PySem.W.makesIn K C=true)
  (hi:PySem.W.findIn K (.ref C) "__init__"=some (some (.ref f))) (hf:PySem.W.typeIn K (.ref f)=some (.type "function"))
  (h:codeAny (model prog w) (A.under (.builtin "type.__call__" ⟨.ref C::vs,kw⟩)) (.call (.ref f) ⟨.ref (s.heap.objs.size+1)::vs,kw⟩) (PySem.W.InitBack (s.heap.objs.size+1) R)
   {s with heap:=(s.heap.push PySem.W.emptyDict).push (PySem.W.instObj C s.heap.objs.size)}):
  codeAny (model prog w) A (.call (.ref C) ⟨vs,kw⟩) R s:=by
 have⟨hh,g,d,t,os⟩:=s;exact PySem.W.make_core (PySem.W.makes_of X hm) (PySem.W.looks_findIn X hi) (λself=>PySem.W.bind_fn X self hf) (.inl rfl) h
end
def kq(f:Str)(v:V):List (Str×V)->List (Str×V)
 | []=>[(f,v)]
 | (g,x)::r=>if g=f then (g,v)::r else (g,x)::kq f v r
def qt(f g:Str)(v:V):∀fs:List (Str×V),(kq f v fs).lookup g=if g=f then some v else fs.lookup g
 | []=>by
  show List.lookup g [(f,v)]=_;by_cases h:g=f
  ·have hb:(g==f)=true:=abH.mpr h;simp only[List.lookup,hb,if_pos h]
  ·have hb:(g==f)=false:=beq_eq_false_iff_ne.mpr h;simp only[List.lookup,hb,if_neg h]
 | (k,x)::r=>by
  have ih:=qt f g v r;rw[show kq f v ((k,x)::r)=(if k=f then (k,v)::r else (k,x)::kq f v r) from rfl];by_cases hk:k=f
  ·rw[aaz hk];by_cases h:g=k
   ·have hb:(g==k)=true:=abH.mpr h;simp only[List.lookup,hb,if_pos (h.trans hk)]
   ·have hb:(g==k)=false:=beq_eq_false_iff_ne.mpr h;simp only[List.lookup,hb,if_neg (λe:g=f=>h (e.trans hk.symm))]
  ·rw[aaC hk];by_cases h:g=k
   ·have hb:(g==k)=true:=abH.mpr h;simp only[List.lookup,hb,if_neg (λe:g=f=>hk (h.symm.trans e))]
   ·have hb:(g==k)=false:=beq_eq_false_iff_ne.mpr h;simp only[List.lookup,hb];exact ih
def pV(f:Str)(v:V):∀fs:List (Str×V),f∈(kq f v fs).map (·.1)/\∀g,g∈fs.map (·.1)->g∈(kq f v fs).map (·.1)
 | []=>⟨by simp[kq],λg h=>by simp at h⟩
 | (k,x)::r=>by
  have⟨i1,i2⟩:=pV f v r;rw[show kq f v ((k,x)::r)=(if k=f then (k,v)::r else (k,x)::kq f v r) from rfl];by_cases hk:k=f
  ·rw[aaz hk];subst hk;exact⟨by simp,λg h=>by simpa using h⟩
  ·rw[aaC hk];refine⟨?_,λg h=>?_⟩
   ·rw[aaQ];exact aac _ i1
   ·rw[aaQ]at h⊢;rcases aaL.mp h with e| e
    ·exact aaL.mpr (.inl e)
    ·exact aac _ (i2 g e)
def qk(f:Str)(v:V):∀fs:List (Str×V),(kq f v fs).length<=fs.length+1
 | []=>by simp[kq]
 | (k,x)::r=>by
  have ih:=qk f v r;rw[show kq f v ((k,x)::r)=(if k=f then (k,v)::r else (k,x)::kq f v r) from rfl];by_cases hk:k=f
  ·rw[aaz hk,aau,aau];omega
  ·rw[aaC hk,aau,aau];omega
def lj.some_of{o:Option Value}(r:lj (some v) o):∃u,o=some u/\aS v u:=by
 cases o with
 | none=>exact(show False from r).elim
 | some u=>exact⟨u,rfl,r⟩
def lj.none_of{o:Option Value}(r:lj none o):o=none:=by
 cases o with
 | none=>rfl
 | some u=>exact(show False from r).elim
def Hy(r:aS v u):PySem.W.handedIn u=true:=by
 cases v with
 | bU=>cases(show u=Value.none from r);rfl
 | bl b=>cases(show u=Value.bool b from r);rfl
 | int i=>have⟨t,e⟩:=(show∃t,u=Value.int i t from r);cases e;rfl
 | str x=>have⟨t,e⟩:=(show∃t,u=Value.str x t from r);cases e;rfl
 | Ii b=>have⟨t,e⟩:=(show∃t,u=Value.bytes b t from r);cases e;rfl
 | Wx b=>have⟨t,e⟩:=(show∃t,u=Value.float b t from r);cases e;rfl
 | ref a=>cases(show u=Value.ref a from r);rfl
 | ty n=>cases(show u=Value.type n from r);rfl
section
variable{H H':Hp}{fs X5:List (Str×V)}
def yY(bc:me P w H h)(e:H a=some (.ins C dx fs)):∃mA,DO h a dx C mA/\(∀f,lj (fs.lookup f) (mA f))/\PySem.Within mA (fs.map (·.1))/\fs.length<=1000/\H dx=some (.own a):=by have⟨d,z,ne,ob,mA,n,r,q⟩:=(show dE P w H h a (.ins C dx fs) from bc a _ e);exact⟨mA,⟨ob,n,ne⟩,r,q,z,d⟩
end
structure GB(K:fI)(C:Addr):Prop where
 pg:PySem.W.plainGet K C Str.empty=true
 hd:PySem.W.hasDictIn K C=true
 po:PySem.W.plainOver K C=true
 sa:PySem.W.findIn K (.ref C) "__setattr__"=some (some (.builtin "object.__setattr__"))
def GB.get{K:fI}{C:Addr}(c:GB K C)(f:Str):PySem.W.plainGet K C f=true:=c.pg
def iQ(K:fI)(C:Addr)(f:Str):Prop:=PySem.W.findIn K (.ref C) f=some none
def iQ.Vt{K:fI}{f:Str}(n:iQ K C f):PySem.W.takerIn K C f=some none:=by unfold PySem.W.takerIn;rw[show PySem.W.findIn K (.ref C) f=some none from n];rfl
structure Oc(K:fI)(C:Addr)(m:Str)(f:Addr):Prop where
 at_:PySem.W.findIn K (.ref C) m=some (some (.ref f))
 fn:PySem.W.isFn K (.ref f)=true
 kp:PySem.W.keepIn K (.ref f)=true
section
variable{H:Hp}{fs:List (Str×V)}{f:Str}
def BB{b:Bool}(I:Inv X ζ σ H s)(e:H a=some (.ins C dx fs))(c:GB X.K C)(n:iQ X.K C f)(l:fs.lookup f=some v)
  (h:∀u s',Inv X ζ σ H s'->aS v u->Q u s'):wpAny (model X.prog X.w) A (getAttr (.ref a) f b) Q E s:=by
 have⟨mA,O,r,_,_,_⟩:=yY I.bc e;have⟨u,hu,ru⟩:=lj.some_of (v:=v) (o:=mA f) (by rw[<-l];exact r f);exact rE I.C6 O (c.get f) c.hd n hu (Hy ru) (h u _ (I.tok _) ru)
def rN{m:Str}{g:Addr}{pl:Sem Bool}{Q:Value×List Value->Shared->Prop}(I:Inv X ζ σ H s)(e:H a=some (.ins C dx fs))(c:GB X.K C)(k:Oc X.K C m g)(l:fs.lookup m=none)
  (h:Q (.ref g,[.ref a]) s):wpAny (model X.prog X.w) A (getMethod (.ref a) m pl) Q E s:=by
 have⟨mA,O,r,_,_,_⟩:=yY I.bc e;have hn:mA m=none:=lj.none_of (by rw[<-l];exact r m);exact IW I.C6 O (c.get m) k.at_ k.fn hn h
def Ca{y:V}{Q:Unit->Shared->Prop}(I:Inv X ζ σ H s)(e:H a=some (.ins C dx fs))(c:GB X.K C)(n:iQ X.K C f)(hl:fs.length < 1000)(ry:aS y u)
  (h:∀s',Inv X ζ σ (upd H a (.ins C dx (kq f y fs))) s'->Q Unit.unit s'):wpAny (model X.prog X.w) A (setAttr (.ref a) f u) Q E s:=by
 have⟨mA,O,r,wi,_,ho⟩:=yY I.bc e;have hz:(fs.map (·.1)).length<=sizeLine:=by rw[aae,sizeLine_eq];omega
 refine N9 I.C6 O c.sa c.po n.Vt c.hd wi hz λh' O' sb=>h _ ?_;have hd:∃o,h'.get? dx=some o:=let ⟨o,_,_,e',_⟩:=O'.ns;⟨o,e'⟩
 refine I.write (x:=a) (e:=dx) (by rw[e];exact True.intro) (.inr ho) (λb q hb z=>(sb.2 b hb).trans z) hd ?_;refine⟨by rw[Μ O.ne];exact ho,?_,O.ne,O'.obj,_,O'.ns,λg=>?_,λg hg=>?_⟩
 ·have:=qk f y fs;omega
 ·show lj ((kq f y fs).lookup g) (if g=f then some u else mA g);rw[qt];by_cases q:g=f
  ·rw[aaz q,aaz q];exact ry
  ·rw[aaC q,aaC q];exact r g
 ·by_cases q:g=f
  ·rw[q];exact(pV f y fs).1
  ·refine(pV f y fs).2 g (wi g λz=>hg ?_);show(if g=f then some u else mA g)=none;rw[aaC q];exact z
def Inv.made(I:Inv X ζ σ H s):Inv X ζ σ (upd (upd H s.heap.objs.size (.own (s.heap.objs.size+1))) (s.heap.objs.size+1) (.ins C s.heap.objs.size []))
  {s with heap:=(s.heap.push PySem.W.emptyDict).push (PySem.W.instObj C s.heap.objs.size)}:=by
 have e1:(s.heap.push PySem.W.emptyDict).get? s.heap.objs.size=some PySem.W.emptyDict:=aaS s.heap rfl;have e2:((s.heap.push PySem.W.emptyDict).push (PySem.W.instObj C s.heap.objs.size)).get? (s.heap.objs.size+1)=some (PySem.W.instObj C s.heap.objs.size):=by have:=aaS (s.heap.push PySem.W.emptyDict) (o:=PySem.W.instObj C s.heap.objs.size) rfl;rwa[Heap.size_push]at this
 have e3:(s.heap.push PySem.W.emptyDict).Ns s.heap.objs.size (λ_=>none):=⟨PySem.W.emptyDict,#[],_,e1,rfl,(λe he=>absurd he (by simp)),λ_=>rfl⟩;have I1:=I.laid (a:=s.heap.objs.size) (o:=.own (s.heap.objs.size+1)) (h':=s.heap.push PySem.W.emptyDict) (t':=s.toks) (λb u q=>aal _ q) (aaj _) ⟨_,e1⟩;refine I1.laid (a:=s.heap.objs.size+1) (o:=.ins C s.heap.objs.size []) (t':=s.toks) (λb u q=>aal _ q) (Nat.le_of_eq (Heap.size_push _ _)) ?_;have ne:s.heap.objs.size≠s.heap.objs.size+1:=aaU (abA _);refine⟨by rw[Μ ne,az],ab4 _,ne,e2,λ_=>none,(Heap.Ns1.of_empty e3).at λo q=>aal _ q,λ_=>True.intro,λy hy=>aaP rfl hy⟩
def N7{env:Env}{f:Str}(hb:attributeBase e f env (eval e env)=eval e env)
  (h:wpAny (model prog w) A (eval e env) (λo s₁=>wpAny (model prog w) A (getAttr o f true) Q E s₁) E s):wpAny (model prog w) A (eval (.Attribute e f pos) env) Q E s:=
 Attribute_any_ h (by rw[arm_eval_Attribute,hb])
end
def X4(K:fI)(ta:TE)(f:Str):TE:=λσ H Q=>ta σ H λx H1=>∃a C dx fs v,x= .ref a/\H1 a=some (.ins C dx fs)/\GB K C/\iQ K C f/\fs.lookup f=some v/\Q v H1
def ZF(K:fI)(ta tv:TE)(f:Str):TS:=λD σ H=>tv σ H λy H1=>ta σ H1 λx H2=>∃a C dx fs,x= .ref a/\H2 a=some (.ins C dx fs)/\GB K C/\iQ K C f/\fs.length < 1000/\
 D.nx σ (upd H2 a (.ins C dx (kq f y fs)))
section
variable{o value:Expr}{f:Str}{pos' u7:Pos}{tv:TE}
def PX(he:PE X e ta)(hb:attributeBase e f X.env (eval e X.env)=eval e X.env):PE X (.Attribute e f pos) (X4 X.K ta f):=by intro ζ s σ H Q I h;refine N7 hb (bW (he ζ s σ H _ I h) λu s1 xz=>?_);have⟨x,H1,I1,rx,a,C,dx,fs,v,ex,ea,c,n,l,q⟩:=xz;subst ex;obtain rfl:u=Value.ref a:=rx;exact BB I1 ea c n l λu' s2 I2 ru=>⟨v,H1,I2,ru,q⟩
def Qd(ha:PE X o ta)(hv:PE X value tv)(hs:swapsWith value (some (.Attribute o f pos')) pos.line X.env=pure false):PS X (.Assign [.Attribute o f pos'] value pos) (ZF X.K ta tv f):=by intro ζ s σ H D I h;refine plainObj_wpAny_Assign_Attribute (bW (hv ζ s σ H _ I h) fun u s1 ⟨y,H1,I1,ry,q⟩=>bW (ha ζ s1 σ H1 _ I1 q) λov s2 xz=>?_) hs;have⟨x,H2,I2,rx,a,C,dx,fs,ex,ea,c,n,l,q2⟩:=xz;subst ex;obtain rfl:ov=Value.ref a:=rx;exact Ca I2 ea c n l ry λs3 I3=>⟨σ,_,I3,q2⟩
end
structure cF(k:Nat)(A:Around):Prop where
 hd:A.handled=none
 dp:A.depth+3 * k+5 < recursionLimit
 un:A.units+16 * k+200 < cLine
def cF.mono{j k:Nat}(r:cF k A)(h:j<=k):cF j A:=⟨r.hd,by have:=r.dp;omega,by have:=r.un;omega⟩
def cF.deeper{k:Nat}(r:cF (k+1) A)(env:Env):cF k (A.deeper env):=
 ⟨r.hd,by have:=r.dp;show A.depth+1+3 * k+5 < _;omega,by have:=r.un;show A.units+3+16 * k+200 < _;omega⟩
def CZ:(A.under (.builtin "type.__call__" ⟨.ref C::us,kw⟩)).depth=A.depth+1:=by
 first| rfl| simp[Around.under,Code.weight,Code.isCreation,Code.isGuard,Code.isCaller,Code.frames,Code.isFrame,guardIds]
def BE:(A.under (.builtin "type.__call__" ⟨.ref C::us,kw⟩)).units=A.units+1:=by
 first| rfl| simp[Around.under,Code.cUnits,Code.frames,Code.isFrame]
def cF.make{k:Nat}(r:cF (k+1) A)(C:Addr)(us:List Value)(kw:List (Str×Value)):cF k (A.under (.builtin "type.__call__" ⟨.ref C::us,kw⟩)):=
 ⟨r.hd,by have:=r.dp;rw[CZ];omega,by have:=r.un;rw[BE];omega⟩
def cF.depth{k:Nat}(r:cF k A):A.depth < recursionLimit:=by have:=r.dp;omega
def cF.units{k:Nat}(r:cF k A):A.units+64 < cLine:=by have:=r.un;omega
def cF.C8{k:Nat}(r:cF k A):A.units < cLine:=by have:=r.un;omega
def UO:TA:=λ_ H Q=>Q [] H
def Vb(ta:TE)(tr:TA):TA:=λσ H Q=>ta σ H λx H1=>tr σ H1 λxs H2=>Q (x::xs) H2
section
variable{t:TA}
def QQ:PA X [] UO:=λ_ _ _ _ H Q I h=>Calls.spliced_nil ⟨[],H,I,.nil,h⟩
def M8(ha:PE X e te)(hr:PA X es t)(hs:starEach (e::es) X.env=(false,eval e X.env)::starEach es X.env:=by rfl):PA X (e::es) (Vb te t):=by intro pos ζ s σ H Q I h;rw[hs];show wpAny _ _ (spliced ((false,eval e X.env)::backTo pos (starEach es X.env))) _ _ s;refine Calls.spliced_cons (bW (ha ζ s σ H _ I h) λu s1 xz=>?_);have⟨x,H1,I1,r1,q1⟩:=xz;exact bW (hr pos ζ s1 σ H1 _ I1 q1) λus s2 ⟨xs,H2,I2,r2,q2⟩=>⟨x::xs,H2,I2,.cons r1 r2,q2⟩
def YE(t:TA):TE:=λσ H Q=>t σ H λxs H1=>xs.length<=sizeLine/\∀p,H1 p=none->Q (.ref p) (upd H1 p (.tup xs))
def WK(t:TA):TE:=λσ H Q=>t σ H λxs H1=>xs.length<=sizeLine/\∀p,H1 p=none->Q (.ref p) (upd H1 p (.lst xs))
def RC{x1}(h:PA X es t):PE X (.Tuple es x1 pos) (YE t):=by intro ζ s σ H Q I hq;refine wpAny_Tuple_spliced (bW (h pos ζ s σ H _ I hq) fun us s1 ⟨xs,H1,I1,r,z,q⟩=>⟨by rw[<-r.length];exact z,?_⟩);have hf:H1 s1.heap.objs.size=none:=I1.bc.fresh (aaj _);refine⟨.ref s1.heap.objs.size,upd H1 s1.heap.objs.size (.tup xs),I1.laid (t':=s1.toks) (λb u e=>aal _ e) (aaj _) ?_,rfl,q _ hf⟩;exact⟨z,us,r,⟨_,aaS _ rfl,rfl,_,rfl⟩⟩
def LG(h:PA X es t):PE X (.List es pos) (WK t):=by intro ζ s σ H Q I hq;refine wpAny_List_spliced (bW (h pos ζ s σ H _ I hq) fun us s1 ⟨xs,H1,I1,r,z,q⟩=>⟨by rw[<-r.length];exact z,?_⟩);have hf:H1 s1.heap.objs.size=none:=I1.bc.fresh (aaj _);refine⟨.ref s1.heap.objs.size,upd H1 s1.heap.objs.size (.lst xs),I1.laid (t':=s1.toks) (λb u e=>aal _ e) (aaj _) ?_,rfl,q _ hf⟩;exact⟨z,us,0,r,aaS _ rfl⟩
end
abbrev Sp:=List V->Hp->VK->XK->Prop
abbrev Bt:=List Env->Hp->Shared->XK->Value->Shared->Prop
structure DM(P:Program)(w:World)(K:fI)(mg:Str->Option Value)(base:Heap)(A:Around)(outer:List Env)(s:Shared)(H:Hp):Prop where
 frames:A.frames=some outer
 mod:Mod K mg base
 bs:∀b o,base.get? b=some o->s.heap.get? b=some o/\H b=none
 xw:base.objs.size<=s.heap.objs.size
 uG:s.heap.FunFrames base outer
 Tb:∀b∈qJ outer,H b=none
 bc:me P w H s.heap
 bare:AllBare s.gens
def CE(outer:List Env)(P:Program)(w:World)(H:Hp)(s:Shared)(Q:VK)(u:Value)(s':Shared):Prop:=
 ∃v H',s'.os=s.os/\AllBare s'.gens/\Un (qJ outer) [] H H' s.heap s'.heap/\me P w H' s'.heap/\aS v u/\Q v H'
def CR(CX:Bt)(outer:List Env)(P:Program)(w:World)(H:Hp)(s:Shared)(Q:VK)(E:XK)(r:Result)(s':Shared):Prop:=
 match r with
 | .ok (.ret u)=>CE outer P w H s Q u s'
 | .ok _=>False
 | .error e=>CX outer H s E e s'
structure aw(P:Program)(w:World)(K:fI)(mg:Str->Option Value)(base:Heap)(CX:Bt)(k:Nat)(f:Addr)(fd:FuncData)(ps:List Str)(sp:Sp):Prop where
 len:∀vs H Q E,sp vs H Q E->vs.length=ps.length
 run:∀(A:Around) (outer:List Env) (s:Shared) (H:Hp) (args:Args) (us:List Value) (vs:List V) (Q:VK) (E:XK),cF k A->DM P w K mg base A outer s H->BindsTo s fd args (ps.zip us)->aH vs us->sp vs H Q E->
  codeAny (model P w) A (.call (.ref f) args) (CR CX outer P w H s Q E) s
def DM.make{K:fI}{H:Hp}(e:DM P w K mg base A outer s H)(C:Addr)(us:List Value)(kw:List (Str×Value)):
  DM P w K mg base (A.under (.builtin "type.__call__" ⟨.ref C::us,kw⟩)) outer s H:=⟨by first| exact e.frames| (simpa [Around.under,Code.envs,Code.isFrame,pushEnvs] using e.frames),e.mod,e.bs,e.xw,e.uG,e.Tb,e.bc,e.bare⟩
section
variable{H:Hp}{s':Shared}
def Inv.SE(I:Inv X ζ σ H s):DM X.prog X.w X.K X.mg X.base X.A X.stack s H:=
 ⟨I.ok.frames,I.ok.mod,I.bs,aax I.ok.xw I.sz,I.stack,I.yJ,I.bc,I.bare⟩
def Inv.after{Q:VK}(I:Inv X ζ σ H s)(h:CE X.stack X.prog X.w H s Q u s'):EP X ζ σ Q u s':=by have⟨v,H',os,bare,un,bc,r,q⟩:=h;have⟨hh,g,d,t,VO⟩:=s';obtain rfl:VO=s.os:=os;exact⟨v,H',I.call (h':=hh) (g':=g) (d':=d) (t':=t) (ch:=[]) un bc bare (λb z=>absurd z (by simp)),r,q⟩
end
def iE(K:fI)(fd:FuncData)(ps:List Str)(ds:List Value):Prop:=
 ∀(s:Shared) (us:List Value),K.In s.heap->(us++ds).length=ps.length->BindsTo s fd ⟨us,[]⟩ (ps.zip (us++ds))
def iE.all{K:fI}{fd:FuncData}(h:∀us:List Value,us.length=ps.length->bindArgs fd ⟨us,[]⟩=pure (ps.zip us)):iE K fd ps []:=λs us _ hl=>by rw[aa6]at hl⊢;exact .of_eq (h us hl)
section
variable{CX:Bt}{k:Nat}{f:Addr}{fd:FuncData}{sp:Sp}{oP:List V}{ds:List Value}{E:XK}{m:Str}{p apos:Pos}{o:Expr}{t:TA}
structure Mk(K:fI)(C f:Addr):Prop where
 makes:PySem.W.makesIn K C=true
 init:PySem.W.findIn K (.ref C) "__init__"=some (some (.ref f))
 fn:PySem.W.isFn K (.ref f)=true
 kp:PySem.W.keepIn K (.ref C)=true
end
structure Ε(N P:List Str)(sc:Scope):Prop where
 kind:sc.kind= .function
 co:sc.isCoroutine=false
 gen:sc.isGenerator=false
 nd:N.Nodup
 pre:N.take P.length=P
 par:∀x∈P,sc.names.lookup x=some .local\/sc.names.lookup x=some .cell
 QU:∀y∈sc.names,y.2≠ .free
def vQ{kindOf:Str->Option NameKind}{x:Str}:∀{binds:List (Str×Value)} {m:Str->Option Value},(∀v,(x,v)∉binds)->bindL kindOf binds m x=m x
 | [],_,_=>rfl
 | (n,v)::r,m,h=>by
  unfold bindL;rw[vQ λw hw=>h w (aac _ hw)];split
  ·have:x≠n:=by rintro rfl;exact h v aad
   simp[this]
  ·rfl
def vU{kindOf:Str->Option NameKind}{x:Str}:∀{binds:List (Str×Value)} {m:Str->Option Value},(∀v,(x,v)∉binds)->bindC kindOf binds m x=m x
 | [],_,_=>rfl
 | (n,v)::r,m,h=>by
  unfold bindC;rw[vU λw hw=>h w (aac _ hw)];split
  ·rfl
  ·have:x≠n:=by rintro rfl;exact h v aad
   simp[this]
def vJ{kindOf:Str->Option NameKind}{x:Str}{v:Value}:∀{P:List Str} {vs:List Value} {i:Nat} {m:Str->Option Value},P.Nodup->P[i]? =some x->vs[i]? =some v->kindOf x=some .local->
  bindL kindOf (P.zip vs) m x=some v
 | [],_,_,_,_,h,_,_=>by simp at h
 | _::_,[],_,_,_,_,h,_=>by simp at h
 | p::P,w::vs,0,m,nd,h1,h2,hk=>by simp at h1 h2;subst h1;subst h2;show bindL kindOf ((p,w)::P.zip vs) m p=_;unfold bindL;rw[vQ λv hv=>(abS.mp nd).1 (abK hv).1,aaz hk];simp
 | p::P,w::vs,i+1,m,nd,h1,h2,hk=>by show bindL kindOf ((p,w)::P.zip vs) m x=_;unfold bindL;exact vJ (i:=i) (List.nodup_cons.mp nd).2 (by simpa using h1) (by simpa using h2) hk
def vz{kindOf:Str->Option NameKind}{x:Str}{v:Value}:∀{P:List Str} {vs:List Value} {i:Nat} {m:Str->Option Value},P.Nodup->P[i]? =some x->vs[i]? =some v->kindOf x≠some .local->
  bindC kindOf (P.zip vs) m x=some v
 | [],_,_,_,_,h,_,_=>by simp at h
 | _::_,[],_,_,_,_,h,_=>by simp at h
 | p::P,w::vs,0,m,nd,h1,h2,hk=>by simp at h1 h2;subst h1;subst h2;show bindC kindOf ((p,w)::P.zip vs) m p=_;unfold bindC;rw[vU λv hv=>(abS.mp nd).1 (abK hv).1,aaC hk];simp
 | p::P,w::vs,i+1,m,nd,h1,h2,hk=>by show bindC kindOf ((p,w)::P.zip vs) m x=_;unfold bindC;exact vz (i:=i) (List.nodup_cons.mp nd).2 (by simpa using h1) (by simpa using h2) hk
def start(N:List Str)(vs:List V):St:=vs.map some++List.replicate (N.length - vs.length) none
def uQ(CX:Bt)(P:Program)(w:World)(K:fI)(mg:Str->Option Value)(base:Heap)(N:List Str)(qual:Str)(scope:Scope)(f:Addr)(cd:Value)(A:Around)(outer:List Env)(s:Shared)(H:Hp)(E:XK):Cx where
 prog:=P
 w:=w
 K:=K
 mg:=mg
 base:=base
 A:=A.deeper (envOfC qual scope s.heap.objs.size f cd)
 N:=N
 s₀:=s
 H₀:=H
 env:=envOfC qual scope s.heap.objs.size f cd
 outer:=outer
 stack:=envOfC qual scope s.heap.objs.size f cd::outer
 ex:=[]
 calm:=true
 fn:=λ_=>true
 pn:=[]
 xe:=λe s'=>wpAny (model P w) (A.deeper (envOfC qual scope s.heap.objs.size f cd)) (leaving (envOfC qual scope s.heap.objs.size f cd) e) (λ_ YW=>CX outer H s E e YW) (λe' YW=>CX outer H s E e' YW) s'
def zM{sc:Scope}{n:Nat}(h:sc.names.lookup x=some .cell):∃c,(cellsFrom n sc.names []).lookup x=some c:=by have q:=PySem.W.cellsFrom_some sc.names n [] (.inl h);exact abM.mp q
def Hx{CX:Bt}{K:fI}{N:List Str}{qual:Str}{scope:Scope}{f:Addr}{cd:Value}{s1:Shared}{H:Hp}{E:XK}{vs:List V}
  (S:Ε N ps scope) (hd:A.handled=none) (e0:DM P w K mg base A outer s H) (hl:vs.length=ps.length) (r:aH vs us)
  (x:InCallC s s.heap.objs.size (bindL (envOfC qual scope s.heap.objs.size f cd).kindOf (ps.zip us) λ_=>none) (cellsFrom (s.heap.objs.size+1) scope.names []) (bindC (envOfC qual scope s.heap.objs.size f cd).kindOf (ps.zip us) λ_=>none) s1):
  Inv (uQ CX P w K mg base N qual scope f cd A outer s H E) [] (start N vs) H s1:=by
 have hU:ps.length<=N.length:=by have:=aa2 List.length S.pre;rw[acu]at this;omega
 have⟨h1,tk,rfl,hk⟩:=x.done;have Vj:∀b:Addr,b∉(uQ CX P w K mg base N qual scope f cd A outer s H E).ex:=λb z=>absurd (show b∈([]:List Addr) from z) (by simp)
 refine⟨⟨e0.mod,S.kind,rfl,rfl,aaj _,λy z c h1 h2=>?_,λy hy=>?_,λy c _ h=>?_,λ_=>hd,Around.frames_deeper e0.frames,.inr ⟨rfl,rfl⟩,λb z=>aaP z (Vj b),e0.bs,e0.xw,λb _ _=>Vj b,λb z=>aaP z (Vj b),e0.uG,e0.Tb⟩,
  rfl,e0.bare,Un.kept hk,⟨_,x.toInCall.ns,λi y v h1 h2 h3=>?_⟩,λy c h=>⟨_,x.cell y c h⟩,e0.bc.fresh (Nat.le_refl _),λy c h=>?_,λp hp=>absurd (show p∈([]:List (Addr×Obj)) from hp) (by simp),e0.bc.kept hk,?_⟩
 ·exact name_of_addr x.apart (PySem.mem_of_lookup h1) (PySem.mem_of_lookup h2)
 ·have hy:scope.names.lookup y=some .cell\/scope.names.lookup y=some .free:=hy;rcases hy with hy| hy
  ·exact zM hy
  ·exact aaP rfl (S.QU _ (PySem.mem_of_lookup hy))
 ·exact Nat.le_of_lt (x.above y c (PySem.mem_of_lookup h))
 ·have hi:i < vs.length:=by
   unfold start at h2;by_cases hi:i < vs.length
   ·exact hi
   ·rw[List.getElem?_append_right (by simpa using hi)]at h2;rw[ab5]at h2;split at h2 <;> cases h2
  have ha:vs[i]? =some v:=by
   unfold start at h2;rw[List.getElem?_append_left (by simpa using hi),List.getElem?_map]at h2;cases e:vs[i]? with
   | none=>rw[e]at h2;cases h2
   | some a=>rw[e]at h2;cases h2;rfl
  have⟨u,hu,rv⟩:=r.get ha;have hp:ps[i]? =some y:=by rw[<-S.pre,acw ()];exact h1
  have ndP:ps.Nodup:=by rw[<-S.pre];exact S.nd.sublist (List.take_sublist _ _)
  refine⟨u,rv,?_⟩;rcases S.par y (aak hp) with k| k
  ·exact .inl ⟨k,vJ ndP hp hu k⟩
  ·have⟨c,e⟩:=zM (n:=s.heap.objs.size+1) k;refine .inr ⟨.inl k,c,e,?_⟩;have q:=x.cell y c e;rw[vz ndP hp hu (by show scope.names.lookup y≠_;rw[k];decide)]at q;exact q
 ·exact e0.bc.fresh (Nat.le_of_lt (x.above y c (PySem.mem_of_lookup h)))
 ·unfold start;show _=N.length;rw[aah,aae,aa5];omega
def OC{CX:Bt}{K:fI}{k:Nat}{f:Addr}{name qual:Str}{params:Arguments}{scope:Scope}{dV kV doc pm aW ct oc:Value}{an od:Option Addr}
  {Bu:Array (Option Value)} {N:List Str} {sp:Sp} (lk:K.lookup f=some ⟨oc,od,.func (PySem.W.fnOf name qual params body scope dV kV doc pm an aW ct),Bu⟩) (D1:PySem.W.codeIn K aW qual=true) (S:Ε N ps scope)
  (len:∀vs H Q E,sp vs H Q E->vs.length=ps.length)
  (tJ:∀(A:Around) (outer:List Env) (s:Shared) (H:Hp) (vs:List V) (Q:VK) (E:XK),cF k (A.deeper (envOfC qual scope s.heap.objs.size f aW))->sp vs H Q E->
   ∃t,Ik (uQ CX P w K mg base N qual scope f aW A outer s H E) body t/\t {nx:=λ_ H'=>Q .bU H',rt:=Q} (start N vs) H):
  aw P w K mg base CX (k+1) f (PySem.W.fnOf name qual params body scope dV kV doc pm an aW ct) ps sp:=by
 refine⟨len,λA outer s H args us vs Q E hr e0 hb r O4=>?_⟩;have hl:=len _ _ _ _ O4;have KX:K.In s.heap:=e0.mod.Tr.keeps λb o e=>(e0.bs b o e).1;have lim:s.heap.NoLimit:=e0.mod.nolimit.keeps λb o e=>(e0.bs b o e).1;have Tp:∀y∈ps.zip us,scope.names.lookup y.1=some .local\/(scope.names.lookup y.1=some .cell/\((cellsFrom (s.heap.objs.size+1) scope.names []).lookup y.1).isSome=true):=λ⟨n,v⟩ hy=>by
  rcases S.par n (abK hy).1 with q| q
  ·exact .inl q
  ·exact .inr ⟨q,PySem.W.cellsFrom_some _ _ _ (.inl q)⟩
 refine codeAny_call_function hr.depth (KX _ _ lk) rfl S.co S.gen rfl (PySem.W.codeRec_of KX D1) (hb _ _ _ _ ?_);refine wpAny_newFunctionEnv_cells S.kind Tp λenv he s1 x=>?_;subst he;refine⟨lim.keeps x.toInCall.keep,codeAny_func ?_⟩;have⟨t,ht,hq⟩:=tJ A outer s H vs Q E (hr.deeper _) O4;have I:Inv (uQ CX P w K mg base N qual scope f aW A outer s H E) [] (start N vs) H s1:=Hx S hr.hd e0 hl r x;refine acj (ht [] s1 (start N vs) H _ I hq) (λfl s' hs=>?_) λe s' hs=>hs
 have fin:∀{σ':St} {H':Hp} {v:V} {u:Value},Inv (uQ CX P w K mg base N qual scope f aW A outer s H E) [] σ' H' s'->aS v u->Q v H'->CE outer P w H s Q u s':=
  λ{σ' H' v u} J rv q=>⟨v,H',J.os,J.bare,J.base,J.bc,rv,q⟩
 cases fl with
 | ret u=>
  have⟨v,σ',H',J,rv,q⟩:=hs;exact fin J rv q
 | next=>
  have⟨σ',H',J,q⟩:=hs;exact fin (v:=V.bU) (u:=Value.none) J rfl q
 | brk=>
  have⟨_,_,_,q⟩:=hs;exact False.elim q
 | cont=>
  have⟨_,_,_,q⟩:=hs;exact False.elim q
section
variable{p:Pos}{t:TA}{id T:String}{r:List V->Hp->VK->Prop}
def Z1(r:List V->Hp->VK->Prop)(t:TA):TE:=λσ H Q=>t σ H λvs H1=>r vs H1 Q
def KR(hc:eY X (.builtin id) r)(hg:Gl X x)(hm:X.mg x=none)(hv:bootBuiltins x=some (.builtin id))(ha:PA X (e::es) t)(hn:x≠"__name__":=by decide)(u9:(x==("__debug__":Str))=false:=by decide)
  (he:starEach (e::es) X.env=(false,eval e X.env)::starEach es X.env:=by rfl) (hU:(backTo pos (starEach es X.env)).any (·.1)=false:=by rfl):PE X (.Call (.Name x p) (e::es) [] pos) (Z1 r t):=by
 intro ζ s σ H Q I h;refine wpAny_Call_Name_kw (pJ I hg hm hv ?_ hn u9);exact PyProof.Rows.callWith_builtin1 (bW (ha pos ζ s σ H _ I h) λus s1 ⟨vs,H1,I1,r1,q1⟩=>hc ζ s1 σ H1 vs us Q I1 r1 q1) he hU
def HN(hc:eY X (.type T) r)(hg:Gl X x)(hm:X.mg x=none)(hv:bootBuiltins x=some (.type T))(ha:PA X (e::es) t)(hn:x≠"__name__":=by decide)(u9:(x==("__debug__":Str))=false:=by decide)
  (he:starEach (e::es) X.env=(false,eval e X.env)::starEach es X.env:=by rfl) (hU:(backTo pos (starEach es X.env)).any (·.1)=false:=by rfl):PE X (.Call (.Name x p) (e::es) [] pos) (Z1 r t):=by
 intro ζ s σ H Q I h;refine wpAny_Call_Name_kw (pJ I hg hm hv ?_ hn u9);exact PyProof.Rows.callWith_type1 (bW (ha pos ζ s σ H _ I h) λus s1 ⟨vs,H1,I1,r1,q1⟩=>hc ζ s1 σ H1 vs us Q I1 r1 q1) he hU
end
end L2
namespace HT
open PySem PyProof.Rows
section
variable{prog:Program}{w:World}{A:Around}{E:Value->Shared->Prop}{s:Shared}
def Mu{t b:Addr}{vs ws:List Value}{Q:Value->Shared->Prop}(ht:IsTup s.heap t vs.toArray)(hb:IsTup s.heap b ws.toArray)(hv:vs≠[])
  (h1:ws=[]->Q (.ref t) s) (h2:ws≠[]->Q (.ref s.heap.objs.size) {s with heap:=s.heap.push {cls:=.type "tuple",data:=.seq (vs++ws).toArray}})
  (hsz:vs.length+ws.length<=sizeLine):wpAny (model prog w) A (binaryOp .Add (.ref t) (.ref b)) Q E s:=by
 have⟨⟨cls,dd,data,sl⟩,ho,hc,n,hd⟩:=id ht;have⟨⟨adE,Ws,data2,We⟩,Ww,hc2,n2,hd2⟩:=id hb;simp only at hc hd hc2 hd2;subst hc hd hc2 hd2;have e:vs.toArray++ws.toArray=(vs++ws).toArray:=by simp
 by_cases hw:ws=[]
 ·exact concat_meets ⟨_,ho,rfl⟩ ⟨_,Ww,rfl⟩ noFill_tuple_add seq_tuple_add PySem.F.slot_tuple_add PySem.F.entry_tuple_add (PySem.F.args_tuple_add_2 _ _)
   (tuple_addW1 t b vs.toArray ws.toArray n n2 dd Ws sl We (by simpa using hv) (by simp[hw])) ⟨ho,Ww,h1 hw⟩
 ·refine concat_meets ⟨_,ho,rfl⟩ ⟨_,Ww,rfl⟩ noFill_tuple_add seq_tuple_add PySem.F.slot_tuple_add PySem.F.entry_tuple_add (PySem.F.args_tuple_add_2 _ _)
   (tuple_addW2 t b vs.toArray ws.toArray n n2 dd Ws sl We (by simpa using hv) (by simpa using hw) (by rw[List.size_toArray,List.size_toArray];exact hsz)) ⟨ho,Ww,?_⟩
  rw[e];exact h2 hw
def An(n d:Nat):Option Int->Nat
 | none=>d
 | some v=>if v < 0 then (v+(n:Int)).toNat else min v.toNat n
def zN(n d:Nat):An n d none=d:=rfl
def qT(n d k:Nat):An n d (some (k:Int))=min k n:=by show(if (k:Int) < 0 then ((k:Int)+(n:Int)).toNat else min (k:Int).toNat n)=min k n;rw[aaC (),abQ]
end
end HT
namespace L2
open PySem PySem.Spec PyProof.Rows
variable{X:Cx}{xs:List V}{n:Nat}{ζ:List (Addr×Obj)}{σ:St}{s:Shared}{its:List Value}
abbrev TO:=St->Hp->(Option Int->Hp->Prop)->Prop
def PO(X:Cx)(e:Option Expr)(t:TO):Prop:=
 ∀(ζ:List (Addr×Obj)) (s:Shared) (σ:St) (H:Hp) (Q:Option Int->Hp->Prop),Inv X ζ σ H s->t σ H Q->
  wpAny (model X.prog X.w) X.A (evalPart e X.env) (λu s'=>∃o H',Inv X ζ σ H' s'/\IsPart u o/\Q o H') X.xe s
def NW:TO:=λ_ H Q=>Q none H
def Uq(t:TE):TO:=λσ H Q=>t σ H λx H1=>∃i,x= .int i/\Q (some i) H1
section
variable{e:Expr}{te:TE}{lo hi:Option Expr}{tl th:TO}{pos p2:Pos}
def Ef:PO X none NW:=by intro ζ s σ H Q I h;rw[evalPart_none];exact abf ⟨none,H,I,.none,h⟩
def oh(h:PE X e te):PO X (some e) (Uq te):=by intro ζ s σ H Q I hw;rw[evalPart_some];refine bW (h ζ s σ H _ I hw) λu s1 xz=>?_;have⟨x,H1,I1,r1,q1⟩:=xz;have⟨i,rfl,q⟩:=q1;have⟨t,rfl⟩:=r1;exact⟨some i,H1,I1,.int i t,q⟩
def SlR(X:Cx)(r:V->Option Int->Option Int->Hp->VK->Prop):Prop:=
 ∀(ζ:List (Addr×Obj)) (s:Shared) (σ:St) (H:Hp) (x:V) (v vl vu:Value) (lo hi:Option Int) (sl:Addr) (Q:VK),Inv X ζ σ H s->aS x v->s.heap.IsSliceOf sl vl vu .none->IsPart vl lo->IsPart vu hi->r x lo hi H Q->
  ∃T id,typeLookup (.type T) "__getitem__"=pure (some (.builtin id))/\s.TypeIs v T/\wpAny (model X.prog X.w) X.A (getItem v (.ref sl)) (EP X ζ σ Q) X.xe s
def tSl(r:V->Option Int->Option Int->Hp->VK->Prop)(te:TE)(tl th:TO):TE:=λσ H Q=>te σ H λx H1=>tl σ H1 λl H2=>th σ H2 λu H3=>r x l u H3 Q
def tP{r:V->Option Int->Option Int->Hp->VK->Prop}(hr:SlR X r)(he:PE X e te)(hl:PO X lo tl)(hu:PO X hi th):PE X (.Subscript e (.Slice lo hi none p2) pos) (tSl r te tl th):=by intro ζ s σ H Q I h;refine Subscript_ (bW (he ζ s σ H _ I h) λv s1 xz=>?_);have⟨x,H1,I1,r1,q1⟩:=xz;refine wpAny_Slice (bW (hl ζ s1 σ H1 _ I1 q1) fun vl s2 ⟨l,H2,I2,pl,q2⟩=>bW (hu ζ s2 σ H2 _ I2 q2) λvu s3 xz=>?_);have⟨u,H3,I3,pu,q3⟩:=xz;rw[evalPart_none];refine abf ?_;have I4:Inv X ζ σ H3 {s3 with heap:=s3.heap.push {cls:=.type "slice",data:=.fields #[vl,vu,.none]}}:=I3.kept (t':=s3.toks) λb ob q=>aal _ q;have⟨T,id,hT,ht,hg⟩:=hr ζ {s3 with heap:=s3.heap.push {cls:=.type "slice",data:=.fields #[vl,vu,.none]}} σ H3 x v vl vu l u s3.heap.objs.size Q I4 r1 (Heap.IsSliceOf.new ..) pl pu q3;show wpAny (model X.prog X.w) X.A (subscriptTail e (.Slice lo hi none p2) v (.ref s3.heap.objs.size)) (EP X ζ σ Q) X.xe {s3 with heap:=s3.heap.push {cls:=.type "slice",data:=.fields #[vl,vu,.none]}};exact tail_any (ops:=[.ref s3.heap.objs.size,v]) ht hT hg (by with_unfolding_all rfl)
def uO(xs:List V)(lo hi:Option Int):List V:=(xs.drop (HT.An xs.length 0 lo)).take (HT.An xs.length xs.length hi - HT.An xs.length 0 lo)
def zH(xs:List V)(lo hi:Option Int):(uO xs lo hi).length<=xs.length:=by unfold uO;rw[acu,abW];omega
def Ol(K:fI):R2:=λx y H Q=>∃a b xs ys,x= .ref a/\y= .ref b/\oS K H a xs/\oS K H b ys/\xs≠[]/\xs.length+ys.length<=sizeLine/\
 (ys=[]->Q (.ref a) H)/\(ys≠[]->∀p,H p=none->Q (.ref p) (upd H p (.tup (xs++ys))))
def aH.yU{us:List Value}(r:aH xs us):us=[]↔xs=[]:=by
 cases r with
 | nil=>simp
 | cons _ _=>simp
def N8:ky X (binaryOp .Add) (Ol X.K):=by intro ζ s σ H x y v u Q I rx ry h;have⟨a,b,xs,ys,rfl,rfl,ha,hb,hx,hz,q1,q2⟩:=h;cases rx;cases ry;have⟨its,r1,p1,_⟩:=I.tuple ha;have⟨Ju,r2,p2,_⟩:=I.tuple hb;refine HT.Mu p1 p2 (λz=>hx (r1.yU.mp z)) (λz=>⟨.ref a,H,I,rfl,q1 (r2.yU.mp z)⟩) (λz=>?_) (by rw[<-r1.length,<-r2.length];exact hz);refine⟨.ref s.heap.objs.size,_,I.laid (t':=s.toks) (o:=.tup (xs++ys)) (λb ob q=>aal _ q) (aaj _) ?_,rfl,q2 (λw=>z (r2.yU.mpr w)) _ (I.bc.fresh (aaj _))⟩;exact⟨by rw[aah];exact hz,_,r1.append r2,IsTup.new _ _⟩
end
def KZ(n:Nat)(i:Int):Option Nat:=if 0<=i then (if i < n then some i.toNat else none) else if -(n:Int)<=i then some (i+n).toNat else none
def nY{α:Type}(xs:List α)(i:Int):Option α:=(KZ xs.length i).bind λj=>xs[j]?
def EC{i:Int}{j:Nat}(h:KZ n i=some j):seqIndex? i n=some j/\j < n/\ -(n:Int)<=i/\i < n:=by
 unfold KZ at h;by_cases h0:0<=i
 ·rw[aaz h0]at h;by_cases h1:i < n
  ·rw[aaz h1]at h;have e:i.toNat=j:=aaJ h;exact⟨by rw[seqIndex_of h0 h1,e],(),(),h1⟩
  ·rw[aaC h1]at h;cases h
 ·rw[aaC h0]at h;by_cases h1: -(n:Int)<=i
  ·rw[aaz h1]at h;have e:(i+n).toNat=j:=aaJ h;exact⟨by rw[seqIndex_neg () h1,e],(),h1,()⟩
  ·rw[aaC h1]at h;cases h
def x8{α:Type}{xs:List α}{i:Int}{v:α}(h:nY xs i=some v):∃j,seqIndex? i xs.length=some j/\xs[j]? =some v/\j < xs.length/\ -(xs.length:Int)<=i/\i < xs.length:=by
 unfold nY at h;cases e:KZ xs.length i with
 | none=>rw[e]at h;cases h
 | some j=>
  rw[e]at h;have⟨h1,h2,h3,h4⟩:=EC e;exact⟨j,h1,h,h2,h3,h4⟩
def ak{α:Type}{xs:List α}{j:Nat}{v:α}(h:xs[j]? =some v):nY xs (j:Int)=some v:=by
 have hj:j < xs.length:=(aaf.mp h).1;have e:KZ xs.length (j:Int)=some j:=by unfold KZ;rw[if_pos (),if_pos ()];simp
 unfold nY;rw[e];exact h
def xc(b:Expr):Prop:=∀o i,subscripted b false o i=operate [o,i] (getItem o i)
def LV(X:Cx)(r:R2):Prop:=
 ∀(value slice:Expr) (ζ:List (Addr×Obj)) (s:Shared) (σ:St) (H:Hp) (x y:V) (v u:Value) (Q:VK),Inv X ζ σ H s->aS x v->aS y u->r x y H Q->
  subscripted slice false v u=operate [v,u] (getItem v u)->wpAny (model X.prog X.w) X.A (subscriptTail value slice v u) (EP X ζ σ Q) X.xe s
def MtR(X:Cx)(id:String)(r:V->List V->Hp->VK->Prop):Prop:=
 ∀(ζ:List (Addr×Obj)) (s:Shared) (σ:St) (H:Hp) (x:V) (xs:List V) (v:Value) (us:List Value) (Q:VK),Inv X ζ σ H s->aS x v->aH xs us->r x xs H Q->
  wpAny (model X.prog X.w) X.A (call (.builtin id) (v::us)) (EP X ζ σ Q) X.xe s
section
variable{a b:Expr}{ta tb:TE}{pos:Pos}
def LV.or{r r':R2}(h:LV X r)(h':LV X r'):LV X (λx y H Q=>r x y H Q\/r' x y H Q):=by
 intro value slice ζ s σ H x y v u Q I rx ry q hs;rcases q with q| q
 ·exact h value slice ζ s σ H x y v u Q I rx ry q hs
 ·exact h' value slice ζ s σ H x y v u Q I rx ry q hs
def Tn{r:R2}(hr:LV X r)(ha:PE X a ta)(hb:PE X b tb)(hs:xc b):PE X (.Subscript a b pos) (UC r ta tb):=by intro ζ s σ H Q I h;exact Subscript_ (P_ ha hb I h λv u s2 x y H2 I2 rx ry q=>hr a b ζ s2 σ H2 x y v u Q I2 rx ry q (hs _ _))
def T9(K:fI):R2:=λx y H Q=>∃p xs i v,x= .ref p/\y= .int i/\iS K H p xs/\nY xs i=some v/\Q v H
def U9(K:fI):R2:=λx y H Q=>∃p xs i v,x= .ref p/\y= .int i/\oS K H p xs/\nY xs i=some v/\Q v H
def Ta:R2:=λx y H Q=>∃z i c,x= .str z/\y= .int i/\z.length<=sizeLine/\nY z.cps.toList i=some c/\Q (.str ⟨#[c]⟩) H
def Mm:LV X (T9 X.K):=by
 intro value slice ζ s σ H x y v u Q I rx ry h hs;have⟨p,xs,i,z,rfl,rfl,hq,he,q⟩:=h;cases rx;have⟨t,rfl⟩:=ry;have⟨its,r,pl,hz⟩:=I.list hq;have⟨j,h1,h2,h3,h4,h5⟩:=x8 he;have⟨w,ew,HM⟩:=r.get h2;have hl:=r.length;have hn:=pA;have fin:EP X ζ σ Q w s:=⟨z,H,I,HM,q⟩;by_cases h0:0<=i
 ·have hj:i.toNat=j:=by rw[seqIndex_of h0 h5]at h1;exact aaJ h1
  exact item_listR pl.isList h0 () (by rw[hj];simpa using ew) fin hs
 ·have hj:(i+(its.toArray.size:Int)).toNat=j:=by rw[seqIndex_neg () h4]at h1;rw[abn,<-hl];exact aaJ h1
  exact subscriptTail_builtinR (x:=w) pl.isList.typeIs slot_list_getitem.lookup
   (wpAny_getItem_list_neg (Q:=λr s'=>r=w/\EP X ζ σ Q r s') pl.isList () (by rw[List.size_toArray] <;> omega) () (by rw[hj];simpa using ew) ⟨rfl,fin⟩) hs
def Qx:LV X (U9 X.K):=by
 intro value slice ζ s σ H x y v u Q I rx ry h hs;have⟨p,xs,i,z,rfl,rfl,hq,he,q⟩:=h;cases rx;have⟨t,rfl⟩:=ry;have⟨its,r,pl,hz⟩:=I.tuple hq;have⟨j,h1,h2,h3,h4,h5⟩:=x8 he;have⟨w,ew,HM⟩:=r.get h2;have hl:=r.length;have hn:=pA;have fin:EP X ζ σ Q w s:=⟨z,H,I,HM,q⟩
 exact subscriptTail_builtinR (x:=w) pl.typeIs slot_tuple_getitem.lookup
  (getItem_tuple (j:=j) (Q:=λr s'=>r=w/\EP X ζ σ Q r s') pl () () (by rw[List.size_toArray,<-hl];exact h1) (by simpa using ew) ⟨rfl,fin⟩) hs
def PK:LV X Ta:=by
 intro value slice ζ s σ H x y v u Q I rx ry h hs;have⟨z,i,c,rfl,rfl,hz,he,q⟩:=h;have⟨t,rfl⟩:=rx;have⟨t',rfl⟩:=ry;have⟨j,h1,h2,h3,h4,h5⟩:=x8 he;have hl:z.cps.toList.length=z.length:=by simp[Str.length]
 rw[hl]at h1 h4 h5;have hn:=pA
 exact tail_any (typeIs_str s z t) slot_str_getitem.lookup (getItem_str (c:=c) (by
  have e1:decide (i < -(2 ^ 63:Int))=false:=aaG ();have e2:decide (i ≥ 2 ^ 63)=false:=aaG ()
  rw[e1,e2,Bool.or_false]) (by rw[h1];simpa using h2) ⟨.str ⟨#[c]⟩,H,I.tok _,⟨_,rfl⟩,q⟩) hs
def rIx(K:fI):R2:=λx y H Q=>T9 K x y H Q\/U9 K x y H Q\/Ta x y H Q
def PJ:LV X (rIx X.K):=Mm.or (Qx.or PK)
def Cr(its:List Value)(n j:Nat)(u:Value):Obj.mapSeq (·.setIfInBounds j u) {cls:=.type "list",data:=.seq its.toArray n}={cls:=.type "list",data:=.seq (its.set j u).toArray n}:=by simp[Obj.mapSeq]
def Inv.lst{H:Hp}{p:Addr}(I:Inv X ζ σ H s)(h:H p=some (.lst xs)):
  ∃(its:List Value) (n:Nat),aH xs its/\s.heap.get? p=some {cls:=.type "list",data:=.seq its.toArray n}/\xs.length<=sizeLine:=by
 have⟨z,its,n,r,e⟩:=I.bc p _ h;exact⟨its,n,r,e,z⟩
def Inv.QA{H:Hp}{p:Addr}{ys:List V}{its':List Value}{n':Nat}{f:Obj->Obj}(I:Inv X ζ σ H s)(h:H p=some (.lst xs))
  (ho:s.heap.get? p=some {cls:=.type "list",data:=.seq its.toArray n}) (hf:f {cls:=.type "list",data:=.seq its.toArray n}={cls:=.type "list",data:=.seq its'.toArray n'}) (r:aH ys its') (hz:ys.length<=sizeLine) (t:Nat):
  Inv X ζ σ (upd H p (.lst ys)) {s with heap:=s.heap.update p f,toks:=t}:=by
 have e:(s.heap.update p f).get? p=some {cls:=.type "list",data:=.seq its'.toArray n'}:=by rw[Heap.get?_update_self f ho (by rw[hf] <;> rfl),hf]
 refine I.write (x:=p) (e:=p) (by rw[h];trivial) (.inl rfl) (λb u hb q=>(Heap.get?_update_other _ _ (Ne.symm hb)).trans q) ⟨_,e⟩ ?_;exact⟨hz,its',n',r,e⟩
def O5:V->V->V->Hp->(Hp->Prop)->Prop:=λo i v H Q=>∃p xs k j,o= .ref p/\i= .int k/\H p=some (.lst xs)/\KZ xs.length k=some j/\Q (upd H p (.lst (xs.set j v)))
def LL:U5 X O5:=by
 intro ζ s σ H o i v ov iv u Q I ro ri rv h;have⟨p,xs,k,j,rfl,rfl,hp,hj,q⟩:=h;cases ro;have⟨t,rfl⟩:=ri;have⟨its,n,r,ho,hz⟩:=I.lst hp;have⟨h1,h2,h3,h4⟩:=EC hj;have hl:=r.length;have hn:=pA
 have I':Inv X ζ σ (upd H p (.lst (xs.set j v))) {s with heap:=s.heap.update p (Obj.mapSeq (·.setIfInBounds j u))}:=
  I.QA hp ho (Cr its n j u) (r.set rv j) (by rw[abr];exact hz) s.toks
 by_cases h0:0<=k
 ·have hk:k.toNat=j:=by rw[seqIndex_of h0 h4]at h1;exact aaJ h1
  exact PySem.W.ki_setAt ho h0 () (by rw[abn,<-hl];exact h4) (by rw[hk];exact⟨_,I',q⟩)
 ·have hk:(k+(its.toArray.size:Int)).toNat=j:=by rw[seqIndex_neg () h3]at h1;rw[abn,<-hl];exact aaJ h1
  exact PySem.W.ki_setBack ho () (by rw[abn,<-hl];exact h3) () (by rw[hk];exact⟨_,I',q⟩)
def xy(lo hi:Option Int)(n:Nat):(sliceBounds lo hi none n).1=((HT.An n 0 lo:Nat):Int)/\(sliceBounds lo hi none n).2.1=((HT.An n n hi:Nat):Int)/\(sliceBounds lo hi none n).2.2=1:=by
 refine⟨?_,?_,rfl⟩
 ·cases lo with
  | none=>simp[sliceBounds,HT.An]
  | some i=>
   simp only[sliceBounds,HT.An,Option.getD_none,show(1:Int) > 0 by decide,if_true];by_cases h:i < 0
   ·simp only[h,if_true] <;> omega
   ·simp only[h,if_false] <;> omega
 ·cases hi with
  | none=>simp[sliceBounds,HT.An]
  | some i=>
   simp only[sliceBounds,HT.An,Option.getD_none,show(1:Int) > 0 by decide,if_true];by_cases h:i < 0
   ·simp only[h,if_true] <;> omega
   ·simp only[h,if_false] <;> omega
def uE(its:List Value)(lo hi:Option Int):slicePick its.toArray lo hi none=((its.drop (HT.An its.length 0 lo)).take (HT.An its.length its.length hi - HT.An its.length 0 lo)).toArray:=by have⟨h1,h2,h3⟩:=xy lo hi its.toArray.size;unfold slicePick;rw[h1,h2,h3];simp only[sliceRange_one,pick_run,List.size_toArray] <;> rfl
def X2(K:fI):V->Option Int->Option Int->Hp->VK->Prop:=λx lo hi H Q=>∃a xs,x= .ref a/\iS K H a xs/\∀p,H p=none->Q (.ref p) (upd H p (.lst (uO xs lo hi)))
def xD:SlR X (X2 X.K):=by intro ζ s σ H x v vl vu lo hi sl Q I rx hs pl pu h;have⟨a,xs,rfl,hx,q⟩:=h;cases rx;have⟨its,r,ht,hz⟩:=I.list hx;have hlen:=r.length;refine⟨"list",_,slot_list_getitem.lookup,ht.isList.typeIs,?_⟩;refine wpAny_getItem_list_slice ht.isList hs pl pu .none (by simp) ?_ (by rw[List.size_toArray] <;> omega);rw[uE,<-hlen];refine⟨.ref s.heap.objs.size,_,I.laid (t':=s.toks) (o:=.lst (uO xs lo hi)) (λb ob q=>aal _ q) (aaj _) ?_,rfl,q _ (I.bc.fresh (aaj _))⟩;exact⟨aax (zH xs lo hi) hz,_,0,(r.drop (HT.An xs.length 0 lo)).take (HT.An xs.length xs.length hi - HT.An xs.length 0 lo),aaS _ rfl⟩
def gD:V->Bool
 | .bU=>true
 | .bl _=>true
 | .int _=>true
 | .str _=>true
 | _=>false
def Bq:V->V->Bool
 | .bU,.bU=>true
 | .bl a,.bl b=>a==b
 | .bl a,.int b=>(if a then 1 else 0)==b
 | .int a,.bl b=>a==(if b then 1 else 0)
 | .int a,.int b=>a==b
 | .str a,.str b=>a==b
 | _,_=>false
def B'{A:Around}{y x:V}{u v:Value}(ry:aS y u)(rx:aS x v)(fy:gD y=true)(fx:gD x=true):SeqAt.EqAt A s u v (Bq y x):=by
 cases y with
 | bU=>
  cases ry;cases x with
  | bU=>cases rx;exact SeqAt.EqAt.same _
  | bl b=>cases rx;exact SeqAt.EqAt.none_bool b
  | int b=>have⟨t,rfl⟩:=rx;exact SeqAt.EqAt.none_int b t
  | str b=>have⟨t,rfl⟩:=rx;exact SeqAt.EqAt.none_str b t
  | _=>exact aaP (show false=true from fx) aaF
 | bl a=>
  cases ry;cases x with
  | bU=>cases rx;exact SeqAt.EqAt.bool_none a
  | bl b=>cases rx;exact SeqAt.EqAt.bool_bool a b
  | int b=>have⟨t,rfl⟩:=rx;exact SeqAt.EqAt.bool_int a b t
  | str b=>have⟨t,rfl⟩:=rx;exact SeqAt.EqAt.bool_str a b t
  | _=>exact aaP (show false=true from fx) aaF
 | int a=>
  have⟨t',rfl⟩:=ry;cases x with
  | bU=>cases rx;exact SeqAt.EqAt.int_none a t'
  | bl b=>cases rx;exact SeqAt.EqAt.int_bool a t' b
  | int b=>have⟨t,rfl⟩:=rx;exact SeqAt.EqAt.int_int a t' b t
  | str b=>have⟨t,rfl⟩:=rx;exact SeqAt.EqAt.int_str a t' b t
  | _=>exact aaP (show false=true from fx) aaF
 | str a=>
  have⟨t',rfl⟩:=ry;cases x with
  | bU=>cases rx;exact SeqAt.EqAt.str_none a t'
  | bl b=>cases rx;exact SeqAt.EqAt.str_bool a t' b
  | int b=>have⟨t,rfl⟩:=rx;exact SeqAt.EqAt.str_int a t' b t
  | str b=>have⟨t,rfl⟩:=rx;exact SeqAt.EqAt.str_str a t' b t
  | _=>exact aaP (show false=true from fx) aaF
 | _=>exact aaP (show false=true from fy) aaF
def C4(x:V)(u:Value):Bool:=match u with
 | .none=>Bq .bU x
 | .bool b=>Bq (.bl b) x
 | .int i _=>Bq (.int i) x
 | .str z _=>Bq (.str z) x
 | _=>false
def J9{x y:V}{u:Value}(r:aS y u)(f:gD y=true):C4 x u=Bq y x:=by
 cases y with
 | bU=>cases r;rfl
 | bl b=>cases r;rfl
 | int i=>have⟨t,rfl⟩:=r;rfl
 | str z=>have⟨t,rfl⟩:=r;rfl
 | _=>exact aaP (show false=true from f) aaF
def oo{x:V}:∀{xs:List V} {us:List Value},aH xs us->xs.all gD=true->us.any (C4 x)=xs.any λy=>Bq y x
 | _,_,.nil,_=>rfl
 | y::xs,u::us,.cons r t,f=>by rw[ab6,aav]at f;rw[ab7,ab7,J9 r f.1,oo t f.2]
def lx{A:Around}{s:Shared}{x:V}{v:Value}(rx:aS x v)(fx:gD x=true):∀{xs:List V} {us:List Value},aH xs us->xs.all gD=true->∀u∈us,SeqAt.EqAt A s u v (C4 x u)
 | _,_,.nil,_=>λu hu=>by cases hu
 | y::xs,u::us,.cons r t,f=>λu' hu=>by
  rw[ab6,aav]at f;rcases aaL.mp hu with rfl| hu
  ·rw[J9 r f.1];exact B' r rx f.1 fx
  ·exact lx rx fx t f.2 u' hu
def RG(x:V)(xs:List V):Bool:=xs.any λy=>Bq y x
def VQ(K:fI)(neg:Bool):R2:=λx y H Q=>∃p xs,y= .ref p/\(iS K H p xs\/oS K H p xs)/\gD x=true/\xs.all gD=true/\Q (.bl (if neg then !RG x xs else RG x xs)) H
def GC:ky X (compareOp .In) (VQ X.K false):=by
 intro ζ s σ H x y v u Q I rx ry h;have⟨p,xs,rfl,hq,fx,fs,q⟩:=h;cases ry;rcases hq with hq| hq
 ·have⟨its,r,pl,hz⟩:=I.list hq;refine SeqAt.in_listAt (C4 x) pl.isList (λw hw=>lx rx fx r fs w (by simpa using hw)) ⟨.bl _,H,I,rfl,?_⟩;rw[show its.toArray.any (C4 x)=its.any (C4 x) by simp,oo r fs];exact q
 ·have⟨its,r,pl,hz⟩:=I.tuple hq;refine SeqAt.in_tupleAt (C4 x) pl (λw hw=>lx rx fx r fs w (by simpa using hw)) ⟨.bl _,H,I,rfl,?_⟩;rw[show its.toArray.any (C4 x)=its.any (C4 x) by simp,oo r fs];exact q
def xC:ky X (compareOp .NotIn) (VQ X.K true):=by
 intro ζ s σ H x y v u Q I rx ry h;have⟨p,xs,rfl,hq,fx,fs,q⟩:=h;cases ry;rcases hq with hq| hq
 ·have⟨its,r,pl,hz⟩:=I.list hq;refine SeqAt.notIn_listAt (C4 x) pl.isList (λw hw=>lx rx fx r fs w (by simpa using hw)) ⟨.bl _,H,I,rfl,?_⟩;rw[show its.toArray.any (C4 x)=its.any (C4 x) by simp,oo r fs];exact q
 ·have⟨its,r,pl,hz⟩:=I.tuple hq;refine SeqAt.notIn_tupleAt (C4 x) pl (λw hw=>lx rx fx r fs w (by simpa using hw)) ⟨.bl _,H,I,rfl,?_⟩;rw[show its.toArray.any (C4 x)=its.any (C4 x) by simp,oo r fs];exact q
def w8:eY X (.builtin "len") (λxs H Q=>∃p ys,xs=[.ref p]/\(iS X.K H p ys\/oS X.K H p ys)/\Q (.int ys.length) H):=by
 intro ζ s σ H xs us Q I r h;have⟨p,ys,rfl,hq,q⟩:=h;have⟨u,rfl,rx⟩:=lN r;cases rx;have hn:=pA;rcases hq with hq| hq
 ·have⟨its,r',pl,hz⟩:=I.list hq;have hlen:=r'.length;exact Calls.call_len_list pl.isList (by simp only[List.size_toArray] <;> omega) ⟨.int ys.length,H,I.tok _,⟨s.toks+1,by rw[List.size_toArray,hlen]⟩,q⟩
 ·have⟨its,r',pl,hz⟩:=I.tuple hq;have hlen:=r'.length;exact len_tuple pl (by simp only[List.size_toArray] <;> omega) ⟨.int ys.length,H,I.tok _,⟨s.toks+1,by rw[List.size_toArray,hlen]⟩,q⟩
def wI:eY X (.builtin "len") (λxs H Q=>∃z,xs=[.str z]/\z.length<=sizeLine/\Q (.int z.length) H):=by intro ζ s σ H xs us Q I r h;have⟨z,rfl,hz,q⟩:=h;have⟨u,rfl,t,rfl⟩:=lN r;have hn:=pA;exact len_str () ⟨.int z.length,H,I.tok _,⟨_,rfl⟩,q⟩
def eY.or{f:Value}{r r':List V->Hp->VK->Prop}(h:eY X f r)(h':eY X f r'):eY X f (λxs H Q=>r xs H Q\/r' xs H Q):=by
 intro ζ s σ H xs us Q I rs q;rcases q with q| q
 ·exact h ζ s σ H xs us Q I rs q
 ·exact h' ζ s σ H xs us Q I rs q
def wZ:eY X (.type "list") (λxs H Q=>∃p ys,xs=[.ref p]/\(iS X.K H p ys\/oS X.K H p ys)/\∀l,H l=none->Q (.ref l) (upd H l (.lst ys))):=by
 intro ζ s σ H xs us Q I r h;have⟨p,ys,rfl,hq,q⟩:=h;have⟨u,rfl,rx⟩:=lN r;cases rx
 have fin:∀(its:List Value),aH ys its->ys.length<=sizeLine->∀(h':Heap) (c':Nat),(∀b o',s.heap.get? b=some o'->h'.get? b=some o')->
   h'.get? s.heap.objs.size=some {cls:=.type "list",dict:=none,data:=.seq its.toArray c',slots:= #[]}->EP X ζ σ Q (.ref s.heap.objs.size) {s with heap:=h'}:=λits r' hz h' c' kp e=>
  ⟨.ref s.heap.objs.size,_,I.laid (t':=s.toks) kp (aaj _) (show dE X.prog X.w _ h' _ (.lst ys) from⟨hz,its,c',r',e⟩),rfl,q _ (I.bc.fresh (aaj _))⟩
 rcases hq with hq| hq
 ·have⟨its,r',pl,hz⟩:=I.list hq;have hlen:=r'.length;have⟨o,ho,hc,n,hd⟩:=pl.isList;exact call_list_seq p (.inl rfl) ho hc hd (λh' c' kp e=>fin its r' hz h' c' kp e) (by simp only[List.size_toArray] <;> omega)
 ·have⟨its,r',pl,hz⟩:=I.tuple hq;have hlen:=r'.length;have⟨o,ho,hc,n,hd⟩:=pl;exact call_list_seq p (.inr rfl) ho hc hd (λh' c' kp e=>fin its r' hz h' c' kp e) (by simp only[List.size_toArray] <;> omega)
def tyV(K:fI)(T:String)(x:V)(H:Hp):Prop:=match x with
 | .str _=>T="str"
 | .int _=>T="int"
 | .ref p=>(T="list"/\∃xs,iS K H p xs)\/(T="tuple"/\∃o,K.lookup p=some o/\o.cls= .type "tuple"/\o.dict=none)\/
   (T="dict"/\((∃Ρ,H p=some (.dK Ρ))\/∃Ρ,H p=some (.dT Ρ)))\/(T="set"/\∃S n,H p=some (.set S n))
 | _=>False
def RF{H:Hp}{T:String}{x:V}{v:Value}(I:Inv X ζ σ H s)(r:aS x v)(ty:tyV X.K T x H):
  s.TypeIs v T/\∀a,v= .ref a->∃ob,s.heap.get? a=some ob/\ob.dict=none:=by
 cases x with
 | str z=>
  have⟨t,rfl⟩:=r;cases(show T="str" from ty);exact⟨typeIs_str s z t,λ_ e=>nomatch e⟩
 | int i=>
  have⟨t,rfl⟩:=r;cases(show T="int" from ty);exact⟨typeIs_int s i t,λ_ e=>nomatch e⟩
 | ref p=>
  cases r;rcases ty with ⟨rfl,xs,hq⟩| ⟨rfl,o,hk,hc,hd⟩| ⟨rfl,hk⟩| ⟨rfl,S,n,hk⟩
  ·have⟨its,_,pl,_⟩:=I.list hq;refine⟨pl.isList.typeIs,λa e=>?_⟩;cases e;have⟨o,n,e,c,hd,_⟩:=pl;exact⟨o,e,hd⟩
  ·refine⟨⟨o,I.C6 p o hk,hc⟩,λa e=>?_⟩;cases e;exact⟨o,I.C6 _ o hk,hd⟩
  ·have z:∃o,s.heap.get? p=some o/\o.ExactDict:=by
    rcases hk with ⟨Ρ,hk⟩| ⟨Ρ,hk⟩
    ·have⟨_,_,_,_,o,_,_,e,ex,_⟩:=I.bc p _ hk;exact⟨o,e,ex⟩
    ·have⟨_,_,_,_,o,_,_,e,ex,_⟩:=I.bc p _ hk;exact⟨o,e,ex⟩
   have⟨o,e,ex⟩:=z;refine⟨⟨o,e,ex.1⟩,λa e2=>?_⟩;cases e2;exact⟨o,e,ex.2.1⟩
  ·have⟨o,_,_,_,e,ex,_⟩:=I.bc p _ hk;refine⟨⟨o,e,ex.1⟩,λa e2=>?_⟩;cases e2;exact⟨o,e,ex.2.1⟩
 | _=>exact False.elim ty
def tBM(K:fI)(T:String)(r:V->List V->Hp->VK->Prop)(to:TE)(t:TA):TE:=λσ H Q=>to σ H λx H1=>tyV K T x H1/\t σ H1 λxs H2=>r x xs H2 Q
variable{o e:Expr}{es:List Expr}{to:TE}{t:TA}{name:Str}{apos dj:Pos}{T id:String}{r:V->List V->Hp->VK->Prop}
def SS(pa:PlainAttrs T)(slot:Slot T name id)(hty:typeOf (.builtin id)=pure (.type "method_descriptor"))(hm:MtR X id r)(ho:PE X o to)(ha:PA X (e::es) t)
  (Jt:attributeBase o name X.env (eval o X.env)=eval o X.env:=by rfl)
  (Py:((backTo dj (starEach (e::es) X.env)).all (λx=> !x.1)&&(backToKw dj (keywordEach [] X.env)).all (λx=>x.1.isSome)
   &&decide ((e::es).length+([]:List Keyword).length+(if ([]:List Keyword).isEmpty then 0 else 1) < 30))=true:=by rfl)
  (KS:(apos.endLine==dj.line)=true:=by rfl) (hs:starEach (e::es) X.env=(false,eval e X.env)::starEach es X.env:=by rfl) (Cf:(backTo dj (starEach es X.env)).any (·.1)=false:=by rfl):
  PE X (.Call (.Attribute o name apos) (e::es) [] dj) (tBM X.K T r to t):=by
 intro ζ s σ H Q I h;refine wpAny_Call_method_late Jt Py KS rfl (bW (ho ζ s σ H _ I h) λv s1 xz=>?_);have⟨x,H1,I1,r1,ty,q1⟩:=xz;have⟨h1,h2⟩:=RF I1 r1 ty;refine⟨T,id,pa,slot,hty,h1,h2,?_⟩;have hA:=ha dj ζ s1 σ H1 _ I1 q1;rw[hs]at hA⊢;refine Calls.callWith_builtin (by show(false|| (backTo dj (starEach es X.env)).any (·.1))=false;rw[Cf] <;> rfl) (Calls.evalArgs_plain ?_);exact bW hA λus s2 ⟨vs,H2,I2,r2,q2⟩=>hm ζ s2 σ H2 x vs v us Q I2 r1 r2 q2
end
def MtM(X:Cx)(id:String)(r:V->List V->Hp->VK->Prop):Prop:=
 ∀(ζ:List (Addr×Obj)) (s:Shared) (σ:St) (H:Hp) (x:V) (xs:List V) (v:Value) (us:List Value) (Q:VK),Inv X ζ σ H s->aS x v->aH xs us->r x xs H Q->
  wpAny (model X.prog X.w) X.A (call (.builtin id) (v::us)) (EP X ζ σ Q) X.xe s
def aH.one:∀{x:V} {us:List Value},aH [x] us->∃u,us=[u]/\aS x u
 | _,_,.cons r .nil=>⟨_,rfl,r⟩
def aH.rep{xs:List V}{us:List Value}(h:aH xs us):∀k:Nat,aH (List.replicate k xs).flatten (List.replicate k us).flatten
 | 0=>.nil
 | k+1=>by rw[abt,abt,abI,abI];exact aH.append h (aH.rep h k)
def wG(its:List Value):∀(k:Nat) (Θ:List Value),
  List.foldl (λx1 x2=>x1++x2) Θ.toArray (List.replicate k its.toArray)=(Θ++(List.replicate k its).flatten).toArray
 | 0,Θ=>by simp
 | k+1,Θ=>by
  have e:Θ.toArray++its.toArray=(Θ++its).toArray:=by simp
  have e2:(Θ++its)++(List.replicate k its).flatten=Θ++(List.replicate (k+1) its).flatten:=by rw[abt,abI,aaY]
  rw[<-e2,<-wG its k (Θ++its),<-e,abt,abE]
section
variable{H:Hp}{l b:Addr}{ys zs:List V}
def Inv.Zo{its':List Value}{f:Array Value->Array Value}{t':Nat}(I:Inv X ζ σ H s)(hH:H l=some (.lst xs))
  (e:s.heap.get? l=some {cls:=.type "list",data:=.seq its.toArray n}) (hf:f its.toArray=its'.toArray) (hv:aH ys its') (hz:ys.length<=sizeLine):
  Inv X ζ σ (upd H l (.lst ys)) {s with heap:=s.heap.update l (Obj.mapSeq f),toks:=t'}:=by
 have q:=PySem.IsL.update e f;rw[hf]at q;refine I.write (x:=l) (e:=l) (by rw[hH];exact trivial) (.inl rfl) (λb' u hb hu=>(Heap.get?_update_other s.heap (Obj.mapSeq f) (Ne.symm hb)).trans hu) ⟨_,q⟩ ?_;exact⟨hz,its',_,hv,q⟩
def Inv.Qc{t':Nat}(I:Inv X ζ σ H s)(hv:aH ys its)(hz:ys.length<=sizeLine):
  Inv X ζ σ (upd H s.heap.objs.size (.lst ys)) {s with heap:=s.heap.push {cls:=.type "list",data:=.seq its.toArray},toks:=t'}:=
 I.laid (λ_ _ q=>aal _ q) (aaj _) ⟨hz,its,0,hv,aaS _ rfl⟩
def Inv.fresh(I:Inv X ζ σ H s):H s.heap.objs.size=none:=I.bc.fresh (aaj _)
def Inv.Mg(I:Inv X ζ σ H s)(hH:H l=some (.lst xs)):xs.length<=sizeLine/\∃(its:List Value) (n:Nat),aH xs its/\xs.length=its.length/\s.heap.get? l=some {cls:=.type "list",data:=.seq its.toArray n}:=by have⟨z,its,n,r,e⟩:=I.bc l _ hH;exact⟨z,its,n,r,r.length,e⟩
def Ks(h:n<=sizeLine):Builtin.List.listTooLong n=false:=by unfold Builtin.List.listTooLong;exact aaG ()
end
section
def Ea:V->List V->Hp->VK->Prop:=λx vs H Q=>∃l xs y,x= .ref l/\vs=[y]/\H l=some (.lst xs)/\xs.length < sizeLine/\Q .bU (upd H l (.lst (xs++[y])))
def vE:MtM X "list.append" Ea:=by intro ζ s σ H x vs v us Q I rx rv h;have⟨l,xs,y,rfl,rfl,hH,hz,q⟩:=h;cases rx;have⟨u,rfl,ru⟩:=rv.one;have⟨z,its,n,r,hl,e⟩:=I.Mg hH;refine call_meets F.slot_list_append ⟨_,e,rfl⟩ F.entry_list_append (F.args_list_append_2 _ _) (PySem.list_append l its.toArray n u (by rw[abn];omega)) ⟨e,?_⟩;refine⟨.bU,_,I.Zo (its':=its++[u]) hH e (by simp) (r.append (.cons ru .nil)) ?_,rfl,q⟩;rw[aah,List.length_singleton];omega
def QI:R2:=λx y H Q=>∃l b xs zs,x= .ref l/\y= .ref b/\H l=some (.lst xs)/\H b=some (.lst zs)/\xs.length+zs.length<=sizeLine/\∀p,H p=none->Q (.ref p) (upd H p (.lst (xs++zs)))
def K2:ky X (binaryOp .Add) QI:=by
 intro ζ s σ H x y v u Q I rx ry h;have⟨l,b,xs,zs,rfl,rfl,hH,hB,hz,q⟩:=h;cases rx;cases ry;have⟨z,its,n,r,hl,e⟩:=I.Mg hH;have⟨z2,Ju,n2,r2,Hn,e2⟩:=I.Mg hB;refine PySem.P.add_list e e2 ?_ (by rw[abn,abn];omega);have ea:its.toArray++Ju.toArray=(its++Ju).toArray:=by simp
 rw[ea];exact⟨.ref _,_,I.Qc (t':=s.toks) (r.append r2) (by rw[aah];omega),rfl,q _ I.fresh⟩
def Pq:R2:=λx y H Q=>∃l k xs,x= .ref l/\y= .int k/\H l=some (.lst xs)/\ -(2 ^ 63)<=k/\k < 2 ^ 63/\xs.length * k.toNat<=sizeLine/\
 ∀p,H p=none->Q (.ref p) (upd H p (.lst (List.replicate k.toNat xs).flatten))
def Od{α:Type}(xs:List α)(k:Nat):(List.replicate k xs).flatten.length=k * xs.length:=by
 induction k with
 | zero=>simp
 | succ k ih=>rw[abt,abI,aah,ih,Nat.succ_mul,Nat.add_comm]
def Jb:ky X (binaryOp .Mult) Pq:=by
 intro ζ s σ H x y v u Q I rx ry h;have⟨l,k,xs,rfl,rfl,hH,h1,h2,hz,q⟩:=h;cases rx;have⟨t,rfl⟩:=ry;have⟨z,its,n,r,hl,e⟩:=I.Mg hH;have hlen:its.toArray.size * k.toNat<=sizeLine:=by rw[abn,<-hl];exact hz
 have XE:¬its.toArray.size * k.toNat > (2 ^ 63 - 1) / 8:=by
  have:(sizeLine:Nat)<=(2 ^ 63 - 1) / 8:=@_
  omega
 have NM:¬(!Builtin.List.listFitsIndex k)=true:=by rw[fitsIndex_both h1 h2];exact aaF
 have UX:¬Builtin.List.listTooLong (its.toArray.size * k.toNat)=true:=by rw[Ks hlen];exact aaF
 have Zn:List.foldl (λx1 x2=>x1++x2) #[] (List.replicate (if its.toArray.isEmpty=true then 0 else k.toNat) its.toArray)=(List.replicate k.toNat its).flatten.toArray:=by
  have f0:∀m:Nat,List.foldl (λx1 x2=>x1++x2) #[] (List.replicate m its.toArray)=(List.replicate m its).flatten.toArray:=λm=>by have:=wG its m [];rw[aaW]at this;exact this
  rw[f0];cases its with
  | nil=>simp
  | cons a r'=>rw[if_neg (by simp)]
 refine wpAny_binaryOp_repeat_ref (T:="list") (U:="int") @_ ⟨_,e,rfl⟩ (λs'=>typeIs_int s' k t) noFill_list_mul F.fills_int_mul F.slot_int_rmul repeat_list F.slot_int_index.lookup
  (call_meets F.slot_int_rmul (typeIs_int s k t) F.entry_int_rmul (F.args_int_rmul_2 _ _) (int___rmul___int_list k t l its.toArray n)
   ⟨e,rfl,⟨_,e,rfl⟩,call_meets F.slot_list_mul ⟨_,e,rfl⟩ F.entry_list_mul (F.args_list_mul_2 _ _) (AutoListH.list___mul___list_int_3 l its.toArray n k t NM XE UX) ⟨e,?_⟩⟩)
 rw[Zn];exact⟨.ref _,_,I.Qc (t':=s.toks) (r.rep k.toNat) (by rw[Od,Nat.mul_comm];exact hz),rfl,q _ I.fresh⟩
end
end L2
namespace Att
open PySem PySem.W PySem.Calls PyProof.Rows
def qD{P:Params}{h:Heap}:∀(ns:List Int) (vs:List Value),WellAll P h vs (ns.map WData.int)->IntsAre vs ns:=by
 intro ns
 induction ns with
 | nil=>
  intro vs w;rw[List.map_nil]at w;cases w;exact .nil
 | cons n ns ih=>
  intro vs w;rw[aaQ]at w;cases w with
  | cons a b=>
   cases a;exact .cons _ _ (ih _ b)
def FJ{l:OpenLaw}{n:Nat}(hn:l.most=some n){P:Params}{h:Heap}{args:List WData}{vals:List Value}
  (Nd:l.row.toRowW.claim.pre args=true) (Zr:WellAll P h vals args):
  ∃a vs ns,vals=[Value.ref a]/\args=[WData.list (ns.map WData.int)]/\h.get? a=some {cls:=.type "list",data:=.seq vs.toArray}/\IntsAre vs ns/\ns.length<=n:=by
 have hsh:WShape.hasAll [] args [.list .int]=true:=(pre_splitW Nd).1;have hc:l.pre.holds [] {args:=args}=true:=(pre_splitW Nd).2;have⟨d,r,rfl,h1,h2⟩:=hasAllW_cons hsh;obtain rfl:=hasAllW_nil h2;have⟨xs,rfl,h3⟩:=hasW_list h1;have⟨ns,rfl⟩:=items_int h3;have hlen:ns.length<=n:=by
  unfold OpenLaw.pre at hc;have h4:(WTm.not (.lt (.lit (.int (n:Int))) (.len (.arg 0)))).holds [] {args:=[.list (ns.map .int)]}=true:=by have h4:=(holds_andW hc).1;rw[hn]at h4;exact h4
  have h5:=condW_of h4 (w_not (w_lt w_lit (w_len_list (w_arg rfl))));rw[aae]at h5;refine Nat.le_of_not_lt λq=>?_;have q':(n:Int) < ((ns.length:Nat):Int):=()
  first
   | (rw[aaI q']at h5;exact aaP h5 @_)
   | (simp at h5;omega)
 cases Zr with
 | cons w1 w2=>
  cases w2;cases w1 with
  | list ho PB=>exact⟨_,_,ns,rfl,rfl,ho,qD ns _ PB,hlen⟩
def Gj(l:OpenLaw)(args:List WData):l.row.toRowW.claim.post args (.bool true) args=true:=
 postW_of (r:=l.row.toRowW) (X:=(true==true))
  (show WShape.has [] (.bool true) .bool=true by first| rfl| decide| simp[WShape.has,WShape.arms,WShape.armsAll])
  (show(WTm.eq .res (.lit (.bool true))).value [] {args:=args,res:=some (.bool true),after:=args}=some (.bool (true==true)) from w_eq_bool (w_res rfl) w_lit) rfl
def AW{l:OpenLaw}{n:Nat}{q:Program}{loose:List Str}{XP:(Str->Option Value)->Heap->Prop}{YP:World->Heap->Prop}{d:DefRec}
  (hn:l.most=some n) (Tz:d.params.defaults=[])
  (call:∀(w:World) (s₀ s₁:Shared) (mg mb:Str->Option Value) (fa:Addr) (o:Obj) (pm cd doc:Value) (a:Addr) (vs:List Value) (ns:List Int),
   Ground q loose [] XP w s₀ mg mb s₁.heap->YP w s₁.heap->
   s₁.heap.get? fa=some o->o.data= .func (docDef d.name d.params d.body d.scope pm cd doc)->s₁.heap.CodeRec cd d.name->mg d.name=some (.ref fa)->
   s₁.heap.get? a=some {cls:=.type "list",data:=.seq vs.toArray}->IntsAre vs ns->ns.length<=n->s₁.gens= #[]->
   codeAny (model l.prog w) callerA (.call (.ref fa) ⟨[.ref a],[]⟩) (λr s'=>r= .ok (.ret (.bool true))/\OldK s₁.heap s'.heap/\s'.os=s₁.os/\AllBare s'.gens) s₁):
  WalkO q loose XP YP l.row.toRowW d [] (λf vs=>PySem.call f vs):=by
 intro w s₀ s₁ mg mb G Y fa o pm cd doc dV kV ho hd D1 hD MI hg args vals as Nd ad5 VN Zr hlo;obtain rfl:dV= .none:=Dflts.none hD Tz;obtain rfl:kV= .none:=Dflts.noKw hD;have⟨a,vs,ns,rfl,rfl,P6,hints,hlen⟩:=FJ hn Nd Zr;refine enter_call (codeAny_mono (call w s₀ s₁ mg mb fa o pm cd doc a vs ns G Y ho (fd_plain hd) D1 MI P6 hints hlen hg) λr s' hq=>?_);have⟨rfl,h2,h3,h4⟩:=hq;exact⟨.inl ⟨.bool true,.bool true,[],rfl,λ_=>rfl,.bool true,Gj l _,λ_=>⟨List.Pairwise.nil,λ_ hm=>(nomatch hm)⟩⟩,h2,h3,h4⟩
end Att
namespace L2
open PySem PySem.Spec PyProof.Rows
def v9:∀{vs:List Value} {ns:List Int},IntsAre vs ns->aH (ns.map V.int) vs
 | _,_,.nil=>.nil
 | _,_,.cons n t h=>.cons ⟨t,rfl⟩ (v9 h)
def PL(H:Hp):Prop:=∀b,H b=none\/∃o xs,H b=some (.EA o (.lst xs))
def Kj{P:Program}{w:World}{K:fI}{mg mb:Str->Option Value}{CX:Bt}{k:Nat}{fa a:Addr}{fd:FuncData}{x:Str}{sp:Sp}{s₁:Shared}{vs:List Value}{ns:List Int}
  (KX:K.In s₁.heap) (hns:s₁.heap.Ns mainGlobals mg) (hb:s₁.heap.Ns builtinsNs mb) (hbb:∀x:Str,x≠"__name__"->mb x=bootBuiltins x) (Zk:s₁.heap.NoLimit) (hg:s₁.gens= #[])
  (ha:s₁.heap.get? a=some {cls:=.type "list",data:=.seq vs.toArray}) (hi:IntsAre vs ns) (hl:ns.length<=sizeLine) (hr:cF k callerA)
  (F:∀base:Heap,K.In base->base.Ns mainGlobals mg->aw P w K mg base CX k fa fd [x] sp) (Sr:∀(s:Shared) (u:Value),BindsTo s fd ⟨[u],[]⟩ [(x,u)])
  (O4:∀H:Hp,PL H->iS K H a (ns.map V.int)->sp [.ref a] H (λv _=>v= .bl true) λ_ _ _=>False)
  (XG:∀H e s',CX [] H s₁ (λ_ _ _=>False) e s'->False):
  codeAny (model P w) callerA (.call (.ref fa) ⟨[.ref a],[]⟩) (λr s'=>r= .ok (.ret (.bool true))/\OldK s₁.heap s'.heap/\s'.os=s₁.os/\AllBare s'.gens) s₁:=by
 have rv:=v9 hi;have ZN:=hi.length
 have core:∀H:Hp,PL H->iS K H a (ns.map V.int)->me P w H s₁.heap->(∀b,H b≠none->b=a)->(H a≠none->K.lookup a=none)->
   codeAny (model P w) callerA (.call (.ref fa) ⟨[.ref a],[]⟩) (λr s'=>r= .ok (.ret (.bool true))/\OldK s₁.heap s'.heap/\s'.os=s₁.os/\AllBare s'.gens) s₁:=by
  intro H hO hS bc hA hK;have Fv:∀{b:Addr} {o:Obj},s₁.heap.get? b=some o->H b=none->(xx s₁.heap H).get? b=some o:=λe n=>Li e n;have Vj:∀{b:Addr} {o:Obj} {es:Array DictEntry} {ep:Nat},s₁.heap.get? b=some o->o.data= .dict es ep->H b=none:=λ{b o es ep} e d=>by
   cases q:H b with
   | none=>rfl
   | some u=>
    have e':b=a:=hA b (by rw[q];simp);subst e';rw[ha]at e;cases e;have d':Data.seq vs.toArray _=Data.dict es ep:=d;cases d'
  have VW:∀{b:Addr} {m:Str->Option Value},s₁.heap.Ns b m->(xx s₁.heap H).Ns b m:=λ{b m} ⟨o,es,ep,e,d,r⟩=>⟨o,es,ep,Fv e (Vj e d),d,r⟩
  have hKb:K.In (xx s₁.heap H):=λb o e=>Fv (KX b o e) (by
   cases q:H b with
   | none=>rfl
   | some u=>
    have e':b=a:=hA b (by rw[q];simp);subst e'
    rw[hK (by rw[q];simp)]at e;cases e)
  have hM:Mod K mg (xx s₁.heap H):=⟨hKb,VW hns,⟨mb,VW hb,hbb⟩,let ⟨mc,h1,h2⟩:=Zk;⟨mc,VW h1,h2⟩⟩;have e0:DM P w K mg (xx s₁.heap H) callerA [] s₁ H:=⟨rfl,hM,λb o e=>NX e,Nat.le_of_eq (FN _ _),trivial,λb hb=>absurd (show b∈([]:List Addr) from hb) (by simp),bc,.of_eq hg⟩;refine codeAny_mono ((F _ hKb (VW hns)).run callerA [] s₁ H ⟨[.ref a],[]⟩ [.ref a] [.ref a] _ _ hr e0 (Sr s₁ (.ref a)) (.cons rfl .nil) (O4 H hO hS)) λr s' h=>?_;cases r with
  | error e=>exact(XG H e s' h).elim
  | ok fl=>
   cases fl with
   | next=>exact False.elim h
   | brk=>exact False.elim h
   | cont=>exact False.elim h
   | ret u=>
    have⟨v,H',os,bare,un,Xn,r',q⟩:=h;have q':v= .bl true:=q;subst q';obtain rfl:u=Value.bool true:=r';refine⟨rfl,OldK.of_keep λb o e=>?_,os,bare⟩;cases q:H b with
    | none=>exact un.keep b o e q (by intro z;exact absurd (show b∈([]:List Addr) from z) (by simp)) (by simp)
    | some u=>
     rcases hO b with z| ⟨ob,xs,z⟩
     ·rw[q]at z;cases z
     ·have z2:=un.pe b ob _ z;have⟨e1,_⟩:=bc b _ z;have⟨e2,_⟩:=Xn b _ z2;rw[e]at e1;cases e1;exact e2
 cases hk:K.lookup a with
 | some o=>
  have e:=KX a o hk;rw[ha]at e;cases e;refine core (λ_=>none) (λ_=>.inl rfl) (.inr ⟨_,vs.toArray,_,hk,rfl,rfl,rfl,by rw[List.size_toArray,ZN];exact hl,by simpa using rv⟩) (λb u z=>by have z':(none:Option HO)=some u:=z;cases z') (λb z=>absurd rfl z) λz=>absurd rfl z
 | none=>
  refine core (λb=>if b=a then some (.EA {cls:=.type "list",data:=.seq vs.toArray} (.lst (ns.map V.int))) else none) (λb=>?_) (.inl (.inr ⟨{cls:=.type "list",data:=.seq vs.toArray},aaz rfl⟩)) (λb u z=>?_) (λb z=>?_) λ_=>hk
  ·by_cases hb:b=a
   ·exact .inr ⟨_,_,aaz hb⟩
   ·exact .inl (aaC hb)
  ·by_cases hb:b=a
   ·have z':=(aaz hb).symm.trans z;cases z';subst hb;exact⟨ha,by rw[aae];exact hl,vs,_,rv,ha⟩
   ·have z':=(aaC hb).symm.trans z;cases z'
  ·by_cases hb:b=a
   ·exact hb
   ·exact aaP (aaC hb) z
def yM{l:PySem.W.OpenLaw}{n k:Nat}{q:Program}{loose:List Str}{XP:(Str->Option Value)->Heap->Prop}{YP:World->Heap->Prop}{d:DefRec}{K:Params->fI}{CX:World->Bt}{sp:World->Sp}{x:Str}
  (hn:l.most=some n) (Ud:n<=sizeLine) (Tz:d.params.defaults=[]) (hr:cF k callerA)
  (hY:∀(w:World) (h:Heap),YP w h->(K w.params).In h)
  (F:∀(w:World) (mg:Str->Option Value) (fa:Addr) (h:Heap),(K w.params).In h->h.Ns mainGlobals mg->mg d.name=some (.ref fa)->
   ∃fd:FuncData,(∀(s:Shared) (u:Value),BindsTo s fd ⟨[u],[]⟩ [(x,u)])/\
    ∀base:Heap,(K w.params).In base->base.Ns mainGlobals mg->aw l.prog w (K w.params) mg base (CX w) k fa fd [x] (sp w))
  (O4:∀(w:World) (H:Hp) (a:Addr) (ns:List Int),ns.length<=n->PL H->iS (K w.params) H a (ns.map V.int)->sp w [.ref a] H (λv _=>v= .bl true) λ_ _ _=>False)
  (XG:∀(w:World) (H:Hp) (s:Shared) (e:Value) (s':Shared),CX w [] H s (λ_ _ _=>False) e s'->False):
  PySem.W.WalkO q loose XP YP l.row.toRowW d [] (λf vs=>PySem.call f vs):=by
 refine Att.AW hn Tz λw s₀ s₁ mg mb fa o pm cd doc a vs ns G Y ho hd D1 MI P6 hints hlen hg=>?_;have KX:=hY w _ Y;have⟨fd,hb,hF⟩:=F w mg fa _ KX G.T.g MI;exact Kj KX G.T.g G.T.b G.T.builtins G.T.nolimit hg P6 hints (aax hlen Ud) hr hF hb (λH hO hS=>O4 w H a ns hlen hO hS) λH e s'=>XG w H s₁ e s'
end L2
/- THE YF NP (shape;LID,My.* are S2):
  My.Adr:a structure of NQ addresses Zv Xi Vv names (classes,Gq);My.Txt K t:a structure (Prop) of NQ equations qR K;
  My.BO:{K} {implicit addresses ..} (e1:nsIn K mainGlobals "law"=some (some (.ref f))) (e2:K.lookup f=some ⟨oc,od,.func (fnOf "law" "law" params body scope dV kV doc pm an aW ct),sl⟩) (e3:codeIn K aW "law"=true) .. :∃t,My.Txt K t
set_option maxRecDepth 100000 in
set_option maxHeartbeats 0 in
def PySem.Challenge.cw_LID_holds : PySem.Challenge.rw_LID.Holds := by
 w_on;o_law;k_head;(case hw=>w_witness2)
 k_fill
 refine L2.yM (l:=PySem.Challenge.rw_LID) (n:=63) (k:=40) (x:="script") (CX:=fun w=>..) (sp:=fun _=>My.RA) rfl @_ rfl ⟨rfl,@_,@_⟩ (fun w h Y=>PySem.W.kIn_of Y) ?F ?S ?C
 case F=>
  intro w mg fa h KX G MI;have T:∃t,My.Txt (L2.ZX KX) t:=by
   dsimp only[L2.ZX]
   refine' My.BO ?e1 ?e2 ?e3 ..
   (case e1=>PySem.W.k_is)
   (case e2=>PySem.W.k_is)
   ..
  have⟨t,T⟩:=T;have e0:=MI.symm.trans (PySem.W.mg_of KX G T.law);cases e0;exact⟨_,λs u=>.of_eq rfl,λbase kb nb=>My.CW T kb nb⟩
 case S=>exactλw H a ns hl hO hS=>..
 case C=>exact ..
(NQ tactic k_is has no namespace:write k_is) -/
namespace L2
open PySem PySem.Spec PyProof.Rows
variable{P:Program}{w:World}{mg:Str->Option Value}{base:Heap}{qual:Str}{st:Stmt}{f x:Addr}{fd:FuncData}{ps N xs ys:List Str}{A:Around}{s:Shared}{env:Env}{outer:List Env}{X:Cx}{ζ:List (Addr×Obj)}{scope:Scope}{af:List Nat}
def gH(s:Stmt):Arguments:=match s with
 | .FunctionDef _ a _ _ _ _ _ _ _ _=>a
 | _=>{posonlyargs:=[],args:=[],vararg:=none,kwonlyargs:=[],kw_defaults:=[],kwarg:=none,defaults:=[]}
def eD(s:Stmt):List Stmt:=match s with
 | .FunctionDef _ _ b _ _ _ _ _ _ _=>b
 | _=>[]
def χ(s:Stmt):Scope:=match s with
 | .FunctionDef _ _ _ _ _ _ sc _ _ _=>sc
 | _=>{kind:=.function,names:=[],isGenerator:=false,isCoroutine:=false}
abbrev VJ:Bt:=λ_ _ _ _ _ _=>False
abbrev E0:XK:=λ_ _ _=>False
structure dh(K:fI)(x qual:Str)(st:Stmt)(f:Addr)(fd:FuncData):Prop where
 ex:∃(oc:Value) (od:Option Addr) (kV doc pm:Value) (an:Option Addr) (aW ct:Value) (Bu:Array (Option Value)),
  fd=PySem.W.fnOf x qual (gH st) (eD st) (χ st) .none kV doc pm an aW ct/\K.lookup f=some ⟨oc,od,.func fd,Bu⟩/\PySem.W.codeIn K aW qual=true
 kp:PySem.W.keepIn K (.ref f)=true
section
variable{K:fI}
def dh.binds{x:Str}(F:dh K x qual st f fd)
  (h:∀(kV doc pm:Value) (an:Option Addr) (aW ct:Value) (us:List Value),us.length=ps.length->bindArgs (PySem.W.fnOf x qual (gH st) (eD st) (χ st) .none kV doc pm an aW ct) ⟨us,[]⟩=pure (ps.zip us)):iE K fd ps []:=by
 have⟨oc,od,kV,doc,pm,an,aW,ct,Bu,rfl,lk,D1⟩:=F.ex;exact .all (h kV doc pm an aW ct)
def Kq{x:Str}{oc:Value}{od an:Option Addr}{Bu:Array (Option Value)}{kV doc pm aW ct:Value}(l:K.lookup f=some ⟨oc,od,.func (PySem.W.fnOf x qual (gH st) (eD st) (χ st) .none kV doc pm an aW ct),Bu⟩)
  (c:PySem.W.codeIn K aW qual=true) (k:PySem.W.keepIn K (.ref f)=true):dh K x qual st f (PySem.W.fnOf x qual (gH st) (eD st) (χ st) .none kV doc pm an aW ct):=⟨⟨oc,od,kV,doc,pm,an,aW,ct,Bu,rfl,l,c⟩,k⟩
end
def EX{k:Nat}(hr:cF k A):A.units+1 < cLine:=aa3 (Nat.add_le_add_left (by decide:1<=64) _) hr.units
def Ci{A B:Prop}(h:B):if false=true then A else B:=by rw[aaC aaF];exact h
def DR{A B:Prop}(h:A):if true=true then A else B:=by rw[aaz rfl];exact h
def eJ(H H':Hp):Prop:=∀b o,H b=some o->H' b=some o
def eJ.refl(H:Hp):eJ H H:=λ_ _ h=>h
def eJ.trans{H H1 H2:Hp}(a:eJ H H1)(b:eJ H1 H2):eJ H H2:=λc o h=>b c o (a c o h)
def eJ.free{H H':Hp}(e:eJ H H'){l:Addr}(h:H' l=Option.none):H l=Option.none:=by
 cases q:H l with
 | none=>rfl
 | some o=>
  rw[e l o q]at h;cases h
def eJ.seq{K:fI}{H H':Hp}{a:Addr}{xs:List V}(e:eJ H H')(h:iS K H a xs):iS K H' a xs:=by
 rcases h with (h| ⟨o,h⟩)| h
 ·exact .inl (.inl (e _ _ h))
 ·exact .inl (.inr ⟨o,e _ _ h⟩)
 ·exact .inr h
section
def MA(B:Heap)(l:List Env)(x:Addr)(o:Obj)(fl:Value)(h:Heap):Prop:=
 B.StaysIn h/\B.get? x=none/\h.FunFrames B l/\∃(vs:Array Value) (T:Addr) (oT:Obj) (ts:Array Value),h.get? x=some {o with data:=.fields vs}/\vs[2]? =some .none/\vs[1]? =some (.ref T)/\
  B.get? T=none/\T≠x/\h.get? T=some oT/\oT.data= .fields ts/\ts[3]? =some fl
section
variable{M:Model}{E:Value->Shared->Prop}{B:Heap}{l:List Env}{L:Addr}{o:Obj}{vs:Array Value}{Q:Unit->Shared->Prop}
def ui{h h':Heap}{T:Addr}{oT:Obj}{ts:Array Value}(hT:h.get? T=some oT)(hd:oT.data= .fields ts)(k:∀b,b≠T->h'.get? b=h.get? b):h.UpToSlots h':=λb ob e hn=>
 ⟨ob.slots,(k b λz=>by rw[z,hT]at e;cases e;exact hn _ hd).trans e⟩
def vM{h h':Heap}(hl:h.FunFrames B l)(u:h.UpToSlots h'):h'.FunFrames B l:=hl.of_keeps λb ob e hn=>by have⟨sl,q⟩:=u b ob e hn;exact⟨_,q,rfl⟩
def IX{head:Value}{V':Bool}(X7:A.frames=some (env::outer))(hf:env.frame=some L)(hB:B.StaysIn s.heap)(hn:B.get? x=none)(hl:s.heap.FunFrames B (env::outer))(hx:s.heap.get? x=some {o with data:=.fields vs})(h1:1 < vs.size)(h2:vs[2]? =some .none)
  (h:∀h',MA B (env::outer) x o (rawInt L) h'->s.heap.UpToSlots h'->Q Unit.unit {s with heap:=h'}):
  wpAny M A (do let a<-frameOf env;let pl<-entryPlaceOf L V';let n<-EntryCells.newEntry head a .none (rawInt L) .none pl;setField (.ref x) 1 n) Q E s:=by
 refine aaM (wpAny_frameOf_fun X7 hl hf λg1 S1=>aaM (wpAny_entryPlaceOf λpl hU=>?_));have nx:x∉(env::outer).filterMap (·.frame):=λz=>by have⟨_,ob,e,d⟩:=hl.mem z;rw[hx]at e;cases e;exact d _ rfl
 have hx1:g1.get? x=some {o with data:=.fields vs}:=(S1.2.1 x nx).trans hx;unfold EntryCells.newEntry newFields;refine aaM (wpAny_newObj_type ?_ (hU.sizeOk5 _ _ _ _ _));have hx2:=aal (h:=g1) {cls:=.type "traceback",dict:=none,data:=.fields ([head,.ref L,.none,rawInt L,.none]++(if pl.isEmpty then List.replicate 6 Value.none else pl)).toArray} hx1;refine wpAny_setField hx2 rfl h1 (h _ ?_ ?_)
 ·have up1:∀b ob,b≠x->g1.get? b=some ob->((g1.push {cls:=.type "traceback",dict:=none,data:=.fields ([head,.ref L,.none,rawInt L,.none]++(if pl.isEmpty then List.replicate 6 Value.none else pl)).toArray}).update x (Obj.mapFields (·.setIfInBounds 1 (Value.ref g1.objs.size)))).get? b=some ob:=λb ob nb e=>
   (Heap.get?_update_other _ _ (Ne.symm nb)).trans (aal _ e)
  have neT:g1.objs.size≠x:=acI (aaw hx1)
  refine⟨λb ob e=>up1 b ob (λz=>by rw[z,hn]at e;cases e) ((S1.2.1 b λz=>by rw[(hl.mem z).1]at e;cases e).trans (hB b ob e)),hn,hl.of_keeps λb ob e d=>?_,vs.setIfInBounds 1 (.ref g1.objs.size),g1.objs.size,_,_,Heap.get?_update_self _ hx2 rfl,by rw[Array.getElem?_setIfInBounds_ne @_];exact h2,by simp[h1],?_,neT,
   (Heap.get?_update_other _ _ (Ne.symm neT)).trans (aaS g1 rfl),rfl,?_⟩
  ·have⟨sl,q⟩:=S1.2.2 b ob e;exact⟨_,up1 b _ (λz=>by rw[z,hx]at e;cases e;exact d _ rfl) q,rfl⟩
  ·cases q:B.get? g1.objs.size with
   | none=>rfl
   | some ob=>
    have:=aaw (hB _ _ q);rw[<-S1.1]at this;exact aaP this (abJ _)
  ·first
    | (simp;done)
    | (rcases hU with rfl| ⟨_,_,_,_,_,_,_,rfl⟩ <;> simp)
 ·intro b ob e d;have⟨sl,q⟩:=S1.2.2 b ob e;refine⟨sl,?_⟩;rw[Heap.get?_update_other _ _ (λz:x=b=>by rw[<-z,hx]at e;cases e;exact d _ rfl)];exact aal _ q
def UU(X7:A.frames=some (env::outer))(hf:env.frame=some L)(R:MA B (env::outer) x o .none s.heap)
  (h:∀h',MA B (env::outer) x o (rawInt L) h'->s.heap.UpToSlots h'->Q Unit.unit {s with heap:=h'}):wpAny M A (noteFrame (.ref x) env) Q E s:=by
 have⟨hB,hn,hl,vs,T,oT,ts,hx,h2,h1,nT,V4,hT,dT,h3⟩:=R;unfold noteFrame;simp only[hf];refine aaM (wpAny_field hx rfl h1 ?_);rw[if_pos (show(Value.ref T != Value.none)=true by simp)];refine aaM (wpAny_field hT dT h3 ?_);rw[if_neg (show¬((Value.none==rawInt L)=true) by simp[rawInt])];refine aaM (wpAny_setField hT dT (acm.mp h3).1 ?_);have Fi:∀b,b≠T->(s.heap.update T (Obj.mapFields (·.setIfInBounds 3 Value.none))).get? b=s.heap.get? b:=λb nb=>Heap.get?_update_other _ _ (Ne.symm nb);have u:=ui hT dT Fi;exact IX X7 hf (λb ob e=>(Fi b λz=>by rw[z,nT]at e;cases e).trans (hB b ob e)) hn (vM hl u) ((Fi x (Ne.symm V4)).trans hx) (acm.mp h1).1 h2 λh' F' u'=>h h' F' (u.trans u')
def Ng{fl:Value}(R:MA B l x o fl s.heap)(h:∀h',MA B l x o .none h'->s.heap.UpToSlots h'->Q Unit.unit {s with heap:=h'}):wpAny M A (setFlight (.ref x) none) Q E s:=by have⟨hB,hn,hl,vs,T,oT,ts,hx,h2,h1,nT,V4,hT,dT,h3⟩:=R;unfold setFlight;refine aaM (wpAny_field hx rfl h1 ?_);rw[if_pos (show(Value.ref T != Value.none)=true by simp)];have z3:=(acm.mp h3).1;have Fi:∀b,b≠T->(s.heap.update T (Obj.mapFields (·.setIfInBounds 3 ((none:Option Addr).elim Value.none λf=>rawInt f)))).get? b=s.heap.get? b:=λb nb=>Heap.get?_update_other _ _ (Ne.symm nb);have u:=ui hT dT Fi;refine wpAny_setField hT dT z3 (h _ ⟨λb ob e=>(Fi b λz=>by rw[z,nT]at e;cases e).trans (hB b ob e),hn,vM hl u,vs,T,_,_,(Fi x (Ne.symm V4)).trans hx,h2,h1,nT,V4,Heap.get?_update_self _ hT (Obj.isFreed_of_fields (Obj.data_mapFields dT _)),Obj.data_mapFields dT _,by simp[z3]⟩ u)
def Pn{fl:Value}{h:Heap}(R:MA B (env::outer) x o fl h):MA B outer x o fl h:=by have⟨hB,hn,⟨_,_,hl⟩,r⟩:=R;exact⟨hB,hn,hl,r⟩
end
structure V0(P:Program)(w:World)(l:List Env)(H H':Hp)(h h' B:Heap)(x:Addr)(o:Obj):Prop where
 un:Un (qJ l) [] H H' h h'
 ok:me P w H' B
 Uy:MA B l x o .none h'
 Br:∀b u,h.get? b=some u->H b=none->b∉qJ l->B.get? b=some u
 Te:∀b u,h.get? b=some u->b∉qJ l->∃u',B.get? b=some u'
variable{l:List Env}{H H':Hp}{h h' Wd B:Heap}{o:Obj}
end
def cw(P:Program)(w:World):Bt:=λouter H s E e s'=>
 ∃x o H' B,e= .ref x/\s'.os=s.os/\AllBare s'.gens/\V0 P w outer H H' s.heap s'.heap B x o/\E o.cls o.dict H'
section
variable{σ:St}{H H':Hp}{Wd B:Heap}{ox:Obj}
def V0.leave(I:Inv X ζ σ H s)(hex:X.ex=[])(Ht:∀b∈qJ X.outer,b∈qJ X.stack)(ok:me X.prog X.w H' B)(f:MA B X.outer x ox .none Wd)(nx0:X.s₀.heap.get? x=none)
  (Br:∀b o,b≠x->s.heap.get? b=some o->H b=none->b∉qJ X.stack->B.get? b=some o)
  (Te:∀b o,b≠x->s.heap.get? b=some o->b∉qJ X.stack->∃o',B.get? b=some o')
  (sl:∀b o,s.heap.get? b=some o->b∈qJ X.stack->∃sl,Wd.get? b=some {o with slots:=sl})
  (free:∀b o,s.heap.get? b=some o->H b=none->H' b=none)
  (qN:∀b xs,H b=some (.tup xs)->H' b=some (.tup xs)) (pe:∀b o u,H b=some (.EA o u)->H' b=some (.EA o u))
  (qP:∀b ps,H b=some (.Mw ps)->∃more,H' b=some (.Mw (ps++more))):V0 X.prog X.w X.outer X.H₀ H' X.s₀.heap Wd B x ox:=by
 have nX:∀b o,X.s₀.heap.get? b=some o->b≠x:=λb o e z=>by rw[z,nx0]at e;cases e
 have l_:∀b:Addr,b∉X.ex:=λb z=>by rw[hex]at z;cases z
 have nS:∀b o,X.s₀.heap.get? b=some o->b∉qJ X.outer->b∉qJ X.stack:=λb o e hb z=>
  (aaL.mp (I.yV b z)).elim (λq=>aaU (aat (aaw e) I.ok.above) q) hb
 refine⟨⟨λb o e n hb _=>?_,λb o e n hb _=>?_,λb o e n _=>?_,λb o e _=>?_,λb xs e=>qN b xs (I.base.qN b xs e),λb o u e=>pe b o u (I.base.pe b o u e),λb ps e=>?_⟩,ok,f,λb o e n hb=>?_,λb o e hb=>?_⟩
 ·exact f.1 b o (Br b o (nX b o e) (I.base.keep b o e n hb (l_ b)) (I.base.free b o e n (l_ b)) (nS b o e hb))
 ·have⟨s1,e1⟩:=I.base.slot b o e n hb (l_ b);have⟨s2,e2⟩:=sl b _ e1 (Ht b hb);exact⟨s2,e2⟩
 ·have⟨o',e1⟩:=I.base.there b o e (l_ b);exact free b o' e1 (I.base.free b o e n (l_ b))
 ·have⟨o',e1⟩:=I.base.there b o e (l_ b);by_cases hb:b∈qJ X.stack
  ·have⟨s2,e2⟩:=sl b _ e1 hb;exact⟨_,e2⟩
  ·have⟨o2,q⟩:=Te b o' (nX b o e) e1 hb;exact⟨o2,f.1 _ _ q⟩
 ·have⟨m1,e1⟩:=I.base.qP b ps e;have⟨m2,e2⟩:=qP b _ e1;exact⟨m1++m2,by rw[e2,Array.append_assoc]⟩
 ·exact Br b o (nX b o e) (I.base.keep b o e n hb (l_ b)) (I.base.free b o e n (l_ b)) (nS b o e hb)
 ·have⟨o',e1⟩:=I.base.there b o e (l_ b);exact Te b o' (nX b o e) e1 (nS b o e hb)
end
def dM(CX:Bt)(X:Cx)(R:St->XK):Prop:=∀(ζ:List (Addr×Obj)) (σ:St) (H:Hp) (s:Shared) (e:Value) (s':Shared),Inv X ζ σ H s->CX X.stack H s (R σ) e s'->X.xe e s'
section
variable{K:fI}{cd:Value}{s₀:Shared}{H₀:Hp}{E:XK}
def LZ:∀b∈qJ outer,b∈qJ (env::outer):=λb hb=>by have⟨en,he,hf⟩:=acC.mp hb;exact acC.mpr ⟨en,aac _ he,hf⟩
def ν:dM (cw P w) (uQ (cw P w) P w K mg base N qual scope f cd A outer s₀ H₀ E) (λ_=>E):=by
 intro ζ σ H s e s' I hx;have⟨x,o,H',B,rfl,os,bare,F,hE⟩:=hx;show wpAny _ _ (do noteFrame (.ref x) _;setFlight (.ref x) none) _ _ s';refine aaM (UU (B:=B) I.ok.frames rfl F.Uy λh4 f4 u4=>Ng f4 λh5 f5 u5=>?_);refine⟨x,o,H',B,rfl,os.trans I.os,bare,V0.leave I rfl LZ F.ok (Pn f5) ?_ (λb o _=>F.Br b o) (λb o _=>F.Te b o) (λb o q hb=>?_) (λb o q n=>F.un.free b o q n (by simp)) F.un.qN F.un.pe F.un.qP,hE⟩
 ·show s₀.heap.get? x=none;cases q:s₀.heap.get? x with
  | none=>rfl
  | some u=>
   have⟨u',e1⟩:=I.base.there x u q nofun;by_cases hb:x∈qJ (uQ (cw P w) P w K mg base N qual scope f cd A outer s₀ H₀ E).stack
   ·have⟨vs,_,_,_,hxx,_⟩:=F.Uy.2.2.2;have⟨_,o',Hg,hd⟩:=F.Uy.2.2.1.mem hb;rw[hxx]at Hg;cases Hg;exact aaP rfl (hd _)
   ·have⟨u2,e2⟩:=F.Te x u' e1 hb;rw[F.Uy.2.1]at e2;cases e2
 ·have⟨sl,e1⟩:=F.un.slot b o q (I.yJ b hb) hb (by simp);have⟨_,o',Hg,hd⟩:=F.Uy.2.2.1.mem hb;rw[e1]at Hg;cases Hg;have⟨We,e2⟩:=(u4.trans u5) b _ e1 hd;exact⟨We,e2⟩
end
def RK(sp:Sp)(oP:List V)(R:St->XK)(t:TA):TE:=λσ H Q=>t σ H λvs H1=>sp (vs++oP) H1 Q (R σ)
section
variable{CX:Bt}{k:Nat}{sp:Sp}{oP:List V}{ds:List Value}{R:St->XK}{x:Str}{p pos:Pos}{e:Expr}{es:List Expr}{t:TA}
def xT{σ:St}{H:Hp}{Q:VK}{us:List Value}{vs:List V}(F:aw X.prog X.w X.K X.mg X.base CX k f fd ps sp)(hr:cF k X.A)(hb:iE X.K fd ps ds)(hd:aH oP ds)(hx:dM CX X R)
  (I:Inv X ζ σ H s) (r:aH vs us) (h:sp (vs++oP) H Q (R σ)):wpAny (model X.prog X.w) X.A (call (.ref f) us) (EP X ζ σ Q) X.xe s:=by
 have r2:aH (vs++oP) (us++ds):=r.append hd;have hl:(us++ds).length=ps.length:=by rw[<-r2.length];exact F.len _ _ _ _ h
 refine wpAny_call (codeAny_mono (F.run X.A X.stack s H ⟨us,[]⟩ (us++ds) (vs++oP) Q (R σ) hr I.SE (hb s us I.C6 hl) r2 h) λr s' hq=>?_);cases r with
 | error e=>exact hx ζ σ H s e s' I hq
 | ok fl=>
  cases fl with
  | ret u=>exact I.after hq
  | next=>exact False.elim hq
  | brk=>exact False.elim hq
  | cont=>exact False.elim hq
def AH(F:aw X.prog X.w X.K X.mg X.base CX k f fd ps sp)(hr:cF k X.A)(hg:Gl X x)(hm:X.mg x=some (.ref f))(hk:PySem.W.keepIn X.K (.ref f)=true)(hb:iE X.K fd ps ds)(hd:aH oP ds)(hx:dM CX X R)
  (ha:PA X (e::es) t) (u9:(x==("__debug__":Str))=false:=by decide) (he:starEach (e::es) X.env=(false,eval e X.env)::starEach es X.env:=by rfl) (hU:(backTo pos (starEach es X.env)).any (·.1)=false:=by rfl):
  PE X (.Call (.Name x p) (e::es) [] pos) (RK sp oP R t):=by
 intro ζ s σ H Q I h;refine wpAny_Call_Name_kw (rz I hg hm ?_ u9);refine PySem.W.callWith_K (h₀:=X.base) I.ok.mod.Tr hk (bW (ha pos ζ s σ H _ I h) fun us s1 ⟨vs,H1,I1,r,q⟩=>⟨I1.C6,?_⟩) he hU;exact xT F hr hb hd hx I1 r q
end
def mB(env:Env):List (Str×NameKind)->List (Str×Addr)->List (Str×Addr)
 | [],Θ=>Θ
 | p::r,Θ=>mB env r (if p.2== .free then (p.1,(env.cells.lookup p.1).getD 0)::Θ else Θ)
def sM(h:∀p∈scope.names,p.2= .free->(env.cells.lookup p.1).isSome=true):closureFor scope env=pure (mB env scope.names []):=by
 have key:∀(l:List (Str×NameKind)) (Θ:List (Str×Addr)),(∀p∈l,p.2= .free->(env.cells.lookup p.1).isSome=true)->
   (forIn l Θ (λ(p:Str×NameKind) (r:List (Str×Addr))=>(if p.2== .free then (do let c<-cellOf env p.1;pure (ForInStep.yield ((p.1,c)::r))) else pure (ForInStep.yield r):Sem (ForInStep (List (Str×Addr))))))=(pure (mB env l Θ):Sem (List (Str×Addr))):=by
  intro l
  induction l with
  | nil=>intro Θ _;rfl
  | cons p r ih=>
   intro Θ hp;rw[List.forIn_cons];have ih':=λa=>ih a λq hq=>hp q (aac _ hq);have⟨n,k⟩:=p;by_cases hk:k= .free
   ·subst hk;have hs:=hp (n,.free) aad rfl;cases hl:env.cells.lookup n with
    | none=>rw[show env.cells.lookup (n,NameKind.free).1=none from hl]at hs;cases hs
    | some c=>
     have e1:mB env ((n,.free)::r) Θ=mB env r ((n,c)::Θ):=by show mB env r (if (NameKind.free==NameKind.free)=true then (n,(env.cells.lookup n).getD 0)::Θ else Θ)=_;rw[aaz @_,hl];rfl
     have e2:cellOf env n=pure c:=by unfold cellOf;rw[hl]
     rw[e1];have e3:(NameKind.free==NameKind.free)=true:=@_
     simp only[e3,if_true,e2,pure_bind];exact ih' _
   ·have hb:(k==NameKind.free)=false:=by simpa using hk
    have e1:mB env ((n,k)::r) Θ=mB env r Θ:=by show mB env r (if (k==NameKind.free)=true then (n,(env.cells.lookup n).getD 0)::Θ else Θ)=_;rw[hb,aaC @_]
    rw[e1];simp only[hb,Bool.false_eq_true,if_false,pure_bind];exact ih' _
 have:=key scope.names [] h;unfold closureFor
 first
  | exact this
  | (simp only[bind_pure];exact this)
  | (rw[bind_pure];exact this)
def vv{env:Env}{y:Str}{c:Addr}:∀(l:List (Str×NameKind)) (Θ:List (Str×Addr)),(∀p∈l,p.2= .free->(env.cells.lookup p.1).isSome=true)->
  (Θ.lookup y=some c->env.cells.lookup y=some c)->(mB env l Θ).lookup y=some c->env.cells.lookup y=some c
 | [],Θ,_,ha,h=>ha h
 | (n,k)::r,Θ,hp,ha,h=>by
  refine vv r _ (λq hq=>hp q (aac _ hq)) (λe=>?_) h;split at e
  ·rename_i hk;rw[abB]at e;cases q:(y==n) with
   | true=>
    rw[q]at e;have e':(env.cells.lookup n).getD 0=c:=aaJ e;have hn:y=n:=by simpa using q
    subst hn;have hs:=hp (y,k) List.mem_cons_self (by simpa using hk);cases z:env.cells.lookup y with
    | none=>rw[show env.cells.lookup (y,k).1=none from z]at hs;cases hs
    | some d=>rw[z]at e';rw[<-e'];rfl
   | false=>rw[q]at e;exact ha e
  ·exact ha e
def sR{env:Env}{y:Str}:∀(l:List (Str×NameKind)) (Θ:List (Str×Addr)),((y,NameKind.free)∈l\/(Θ.lookup y).isSome=true)->((mB env l Θ).lookup y).isSome=true
 | [],Θ,h=>by
  rcases h with h| h
  ·cases h
  ·exact h
 | (n,k)::r,Θ,h=>by
  refine sR r _ ?_;by_cases hy:y=n
  ·subst hy;by_cases hk:k= .free
   ·subst hk;right;show(List.lookup y (if (NameKind.free==NameKind.free)=true then (y,(env.cells.lookup y).getD 0)::Θ else Θ)).isSome=true;rw[aaz @_,abB,beq_self_eq_true];rfl
   ·rcases h with h| h
    ·rcases aaL.mp h with z| z
     ·exact aaP (Prod.mk.inj z).2.symm hk
     ·exact .inl z
    ·right;rw[if_neg (by simpa using hk)];exact h
  ·rcases h with h| h
   ·rcases aaL.mp h with z| z
    ·exact aaP (Prod.mk.inj z).1 hy
    ·exact .inl z
   ·right;split
    ·rw[List.lookup_cons,show(y==n)=false by simpa using hy];exact h
    ·exact h
def Cx.comp(X:Cx)(Nc:List Str)(scope:Scope)(C:Addr)(s:Shared)(H:Hp)(fp:List Addr):Cx:={X with
 N:=Nc
 s₀:=s
 H₀:=H
 env:=compEnvC scope (mB X.env scope.names []) C X.env
 outer:=X.stack
 ex:=fp
 fn:=λ_=>false
 pn:=[]
 xe:=λ_ _=>False}
def Ε.of{P:List Str}{sc:Scope}(h:(sc.kind,sc.isCoroutine,sc.isGenerator)=(.function,false,false))(h2:N.Nodup/\N.take P.length=P/\(∀x∈P,sc.names.lookup x=some .local\/sc.names.lookup x=some .cell)/\(∀y∈sc.names,y.2≠ .free):=by decide+kernel):Ε N P sc:=by have⟨a,b,c,d⟩:=h2;exact⟨aa2 (·.1) h,aa2 (·.2.1) h,aa2 (·.2.2) h,a,b,c,d⟩
structure aG(X:Cx)(scope:Scope)(xs ys:List Str)(af:List Nat):Prop where
 kind:scope.kind= .function
 IQ:∀p∈scope.names,p.2≠ .cell
 names:∀p∈scope.names,p.2= .local->scope.names.lookup p.1=some .local
 own:∀x∈xs,scope.names.lookup x=some .local
 free:∀p∈scope.names,p.2= .free->X.env.scope.names.lookup p.1=some .cell
 nd:(xs++ys).Nodup
 cap:∀q∈ys.zip af,X.N[q.2]? =some q.1/\X.env.scope.names.lookup q.1=some .cell/\scope.names.lookup q.1=some .free
 len:ys.length=af.length
def aG.of{sc:Scope}(_:Ε N ps sc)(hN:X.N=N)(hs:X.env.scope=sc)(k:scope.kind= .function)(h:(∀p∈scope.names,p.2≠ .cell)/\(∀p∈scope.names,p.2= .local->scope.names.lookup p.1=some .local)/\(∀x∈xs,scope.names.lookup x=some .local)/\(∀p∈scope.names,p.2= .free->sc.names.lookup p.1=some .cell)/\(xs++ys).Nodup/\(∀q∈ys.zip af,N[q.2]? =some q.1/\sc.names.lookup q.1=some .cell/\scope.names.lookup q.1=some .free)/\ys.length=af.length:=by decide+kernel):aG X scope xs ys af:=by subst hN hs;have⟨a,b,c,d,e,f,g⟩:=h;exact⟨k,a,b,c,d,e,f,g⟩
def JD{env:Env}{y:Str}:∀{l:List (Str×NameKind)},(∀p∈l,p.2≠ .cell)->
  ((l.map λ(n,k)=>if (k==NameKind.free&&env.scope.kind== .function&&env.kindOf n==some .cell) then (n,NameKind.cell) else (n,k)).lookup y=some .cell\/
   (l.map λ(n,k)=>if (k==NameKind.free&&env.scope.kind== .function&&env.kindOf n==some .cell) then (n,NameKind.cell) else (n,k)).lookup y=some .free)->(y,NameKind.free)∈l
 | [],_,h=>by rcases h with h| h <;> cases h
 | (n,k)::r,hc,h=>by
  have ih:=@JD env y r (λp hp=>hc p (aac _ hp));rw[aaQ]at h;by_cases q:(k==NameKind.free&&env.scope.kind== .function&&env.kindOf n==some .cell)=true
  ·have hk:k= .free:=by rw[aav,aav]at q;simpa using q.1.1
   subst hk;by_cases hy:y=n
   ·subst hy;exact aad
   ·refine aac _ (ih ?_);have hb:(y==n)=false:=by simpa using hy
    simp only[q,if_true,List.lookup_cons,hb]at h;exact h
  ·by_cases hy:y=n
   ·subst hy;have hb:(y==y)=true:=by simp
    simp only[q,Bool.false_eq_true,if_false,List.lookup_cons,hb]at h;rcases h with h| h
    ·exact aaP (aaJ h) (hc (y,k) aad)
    ·rw[<-aaJ h];exact aad
   ·refine aac _ (ih ?_);have hb:(y==n)=false:=by simpa using hy
    simp only[q,Bool.false_eq_true,if_false,List.lookup_cons,hb]at h;exact h
def A4{env:Env}{y:Str}(hk:env.scope.kind= .function)(hy:env.kindOf y=some .cell):∀{l:List (Str×NameKind)},l.lookup y=some .free->
  (l.map λ(n,k)=>if (k==NameKind.free&&env.scope.kind== .function&&env.kindOf n==some .cell) then (n,NameKind.cell) else (n,k)).lookup y=some .cell
 | [],h=>by cases h
 | (n,k)::r,h=>by
  have ih:=@A4 env y hk hy r;rw[aaQ];rw[abB]at h;by_cases e:y=n
  ·subst e;have hb:(y==y)=true:=by simp
   rw[hb]at h;have:k= .free:=aaJ h;subst this;have q:(NameKind.free==NameKind.free&&env.scope.kind== .function&&env.kindOf y==some .cell)=true:=by rw[hk,hy];rfl
   simp only[q,if_true,List.lookup_cons,hb]
  ·have hb:(y==n)=false:=by simpa using e
   rw[hb]at h;by_cases q:(k==NameKind.free&&env.scope.kind== .function&&env.kindOf n==some .cell)=true
   ·simp only[q,if_true,List.lookup_cons,hb];exact ih h
   ·simp only[q,Bool.false_eq_true,if_false,List.lookup_cons,hb];exact ih h
def aG.has(S:aG X scope xs ys af)(ok:X.Ok):∀p∈scope.names,p.2= .free->(X.env.cells.lookup p.1).isSome=true:=λp hp hf=>by have⟨c,e⟩:=ok.has p.1 (.inl (S.free p hp hf));rw[e];rfl
def J0{α β:Type}:∀{xs:List α} {ys:List β} {j:Nat} {x:α} {y:β},xs[j]? =some x->ys[j]? =some y->(x,y)∈xs.zip ys
 | x::xs,y::ys,0,_,_,h1,h2=>by cases h1;cases h2;exact aad
 | x::xs,y::ys,j+1,_,_,h1,h2=>aac _ (J0 (xs:=xs) (ys:=ys) (j:=j) h1 h2)
 | [],_,_,_,_,h1,_=>by simp at h1
 | _::_,[],_,_,_,_,h2=>by simp at h2
def qf(af:List Nat)(σ:St):St:=af.map λi=>(σ[i]?).join
def wH(n:Nat)(gg:TG):Prop:=∀v (os cs:St) H (Q:St->Hp->Prop),os.length=n->gg v (os++cs) H Q->gg v (os++cs) H λσ' H'=>(∃VO:St,VO.length=n/\σ'=VO++cs)/\Q σ' H'
def CJ(J:It)(n:Nat)(gg:TG)(tc:TT)(te:TE)(cs:St)(Q:VK)(H1:Hp)(D:Addr):Prop:=
 ∃W:Nat->Nat->List V->Hp->Prop,(∃m,W 0 m [] (upd H1 D (.lst [])))/\∀i m ys H2,W i m ys H2->H2 D=some (.lst ys)/\
  ((J.stop i H2/\Q (.ref D) H2)\/(J.go i H2/\∀x H3,J.T5 i H2 x H3->∀os:St,os.length=n->gg x (os++cs) H3 λσ' H3'=>tc σ' H3' λb H4=>match b with
   | true=>te σ' H4 λy H5=>H5 D=some (.lst ys)/\ys.length < sizeLine/\∃m',m' < m/\W (i+1) m' (ys++[y]) (upd H5 D (.lst (ys++[y])))
   | false=>∃m',m' < m/\W (i+1) m' ys H4))
def Ip(wi:TI)(n:Nat)(gg:TG)(tc:TT)(te:TE)(af:List Nat):TE:=λσ H Q=>wi σ H λJ H1=>∀D,H1 D=none->CJ J n gg tc te (qf af σ) Q H1 D
def YC(cs:List Expr)(env:Env):Sem Bool:=match cs with
 | []=>pure true
 | c::_=>isTrue c env (eval c env)
def VS(X:Cx)(cs:List Expr)(t:TT):Prop:=
 (cs=[]\/∃c,cs=[c])/\∀(ζ:List (Addr×Obj)) (s:Shared) (σ:St) (H:Hp) (Q:Bool->Hp->Prop),Inv X ζ σ H s->t σ H Q->wpAny (model X.prog X.w) X.A (YC cs X.env) (TP X ζ σ Q) X.xe s
def vf{elt target iter:Expr}{cs:List Expr}{scope:Scope}{pos:Pos}{it Θ:Value}{env:Env}(h:cs=[]\/∃c,cs=[c]):
  compTurn (.ListComp elt [⟨target,iter,cs,0⟩] scope pos) 0 it Θ env=(standAt iter.pos >>= λ_=>pyNext it >>= λr=>match r with
   | none=>pure (.done .next)
   | some v=>letOwnedTupleGo target it v >>= λ_=>assign target env v >>= λ_=>YC cs env >>= λok=>
    (if ok=true then (eval elt env >>= λx=>call (.builtin "list.append") [Θ,x] >>= λ_=>pure Unit.unit) >>= λ_=>again (.compLoop (.ListComp elt [⟨target,iter,cs,0⟩] scope pos) 0 it Θ env)
     else again (.compLoop (.ListComp elt [⟨target,iter,cs,0⟩] scope pos) 0 it Θ env))):=by
 rcases h with rfl| ⟨c,rfl⟩ <;> (unfold compTurn YC;dsimp only[List.getElem?_cons_zero,List.getElem?_cons_succ,List.getElem?_nil];simp only[List.forIn_cons,List.forIn_nil,bind_assoc,pure_bind,if_true];rfl)
section
variable{elt iter tg:Expr}{cs:List Expr}{pos:Pos}{wi:TI}{gg:TG}{tc:TT}{te:TE}
def vh(S:aG X scope xs ys af)(hc:X.calm=true)(hg:∀C s H fp,PG (Cx.comp X (xs++ys) scope C s H fp) tg gg)(hk:wH xs.length gg)(ht:∀C s H fp,VS (Cx.comp X (xs++ys) scope C s H fp) cs tc)(he:∀C s H fp,PE (Cx.comp X (xs++ys) scope C s H fp) elt te)
   {σ:St} {H2:Hp} {s2:Shared} {it:Addr} {fp:List Addr} {tn:Nat->Heap->Prop} {J:It} {Q:V->Hp->Prop} {PQ:Value->Addr->Result->Shared->Prop} (I:Inv X ζ σ H2 s2) (T:Turn X.prog X.w X.K tg J fp it tn) (t0:tn 0 s2.heap) (f2:∀b∈fp,sQ X ζ H2 b)
  (h:∀D,H2 D=none->CJ J xs.length gg tc te (qf af σ) Q H2 D)
  (hPQ:∀D C s' H',Inv X ζ σ H' s'->Q (.ref D) H'->(∃m,s'.heap.Ns C m)->H' C=none->X.s₀.heap.objs.size<=C->C≠X.env.locals->(∀z c,X.env.cells.lookup z=some c->c≠C)->(∀p∈X.pn++ζ,p.1≠C)->PQ (.ref D) C (.ok .next) s'):
  wpAny (model X.prog X.w) X.A (newList []) (λΘ s3=>wpAny (model X.prog X.w) X.A (newFunctionEnv scope X.env.globals (mB X.env scope.names []) [] X.env.qual none .none (some X.env)) (λVi s4=>
   codeAny (model X.prog X.w) X.A (.compStart (.ListComp elt [⟨tg,iter,cs,0⟩] scope pos) 0 (.ref it) Θ {Vi with scope:=relabel scope X.env}) (PQ Θ Vi.locals) s4) X.xe s3) X.xe s2:=by
 have hD:H2 s2.heap.objs.size=none:=I.fresh;have⟨W,⟨m0,w0⟩,step⟩:=h _ hD;refine wpAny_newObj_type ?_;have I3:Inv X ζ σ (upd H2 s2.heap.objs.size (.lst [])) {s2 with heap:=s2.heap.push {cls:=.type "list",data:=.seq ([]:List Value).toArray}}:=Inv.Qc (t':=s2.toks) I (ys:=[]) (its:=[]) .nil (ab4 _);generalize hH3:upd H2 s2.heap.objs.size (.lst [])=H3 at I3 w0;generalize hs3:({s2 with heap:=s2.heap.push {cls:=.type "list",data:=.seq ([]:List Value).toArray}}:Shared)=s3 at I3;have ZS:∀b∈fp,H3 b=none:=λb hb=>by have⟨o,e,_⟩:=T.obj _ _ t0 b hb;rw[<-hH3,Μ (aaU (aaw e))];exact(f2 b hb).1
 have t3:tn 0 s3.heap:=T.keep _ _ _ t0 λb hb o e=>by rw[<-hs3];exact aal _ e
 refine wpAny_newFunctionEnv S.IQ (λy hy=>nomatch hy) (λh4 ns4 sb4=>?_) S.kind;have hC:H3 s3.heap.objs.size=none:=I3.fresh
 have kp:∀b o,s3.heap.get? b=some o->h4.get? b=some o:=λb o e=>
  (sb4.2 b (aaU (aaw e))).trans (aal _ e)
 generalize Yu:({s3 with heap:=h4,toks:=s3.toks+([]:List (Str×Value)).length}:Shared)=s4;have e4:s4.heap=h4:=by rw[<-Yu]
 have Nw:∀z c,X.env.cells.lookup z=some c->c≠s3.heap.objs.size:=λz c e q=>by have⟨v,w⟩:=I3.cell z c e;exact abJ _ (q▸w.lt)
 have vi:∀z c,(mB X.env scope.names []).lookup z=some c->X.env.cells.lookup z=some c:=λz c e=>vv scope.names [] (S.has I.ok) nofun e;have Lne:s3.heap.objs.size≠X.env.locals:=acI I3.lt;have ok:(Cx.comp X (xs++ys) scope s3.heap.objs.size s3 H3 fp).Ok:=by
  refine⟨I3.ok.mod,S.kind,I3.ok.glob,I3.ok.blt,aaj _,λz z' c e1 e2=>I3.ok.inj z z' c (vi z c e1) (vi z' c e2),λz hz=>?_,λz c hz=>(by cases hz),I3.ok.hd,I3.ok.frames,.inl rfl,λb hb=>⟨?_,λz c e=>?_⟩,I3.bs,?_,λb o e hb=>?_,λb hb hf=>?_,I3.stack,I3.yJ⟩
  ·have:=sR (env:=X.env) scope.names [] (.inl (JD S.IQ hz));exact abM.mp this
  ·have⟨o,e,_⟩:=T.obj _ _ t3 b hb;exact aaU (aaw e)
  ·exact(f2 b hb).2.2.2.2.1 z c (vi z c e)
  ·exact aax I3.ok.xw I3.sz
  ·have⟨_,_,_,hy,_⟩:=f2 b hb;have e0:=(I3.ok.bs b o e).1;rcases hy with hy| hy
   ·exact I3.ok.RE b o e hy
   ·exact aaP (aat (aaw e0) hy) (abJ _)
  ·have⟨_,hl,hfs,_⟩:=f2 b hb;exact(aaL.mp (I3.yV b hf)).elim hl hfs
 have hlen:((List.replicate xs.length (none:Option V))++qf af σ).length=(xs++ys).length:=by rw[aah,aah,aa5,S.len];unfold qf;rw[aae]
 have I4:Inv X ζ σ H3 s4:=by rw[<-Yu];exact I3.kept kp
 have Ic:Inv (Cx.comp X (xs++ys) scope s3.heap.objs.size s3 H3 fp) [] ((List.replicate xs.length (none:Option V))++qf af σ) H3 s4:=by
  refine⟨ok,by rw[<-Yu];rfl,I4.bare,Un.kept (by rw[e4];exact kp),⟨_,by rw[e4];exact ns4,λi z v e1 e2 e3=>?_⟩,λz c e=>I4.cell z c (vi z c e),hC,λz c e=>I4.qC z c (vi z c e),(λp hp=>nomatch hp),I4.bc,hlen⟩;have e1:(xs++ys)[i]? =some z:=e1;by_cases hi:i < xs.length
  ·rw[aas (by rw[aa5];exact hi),ab5,aaz hi]at e2;cases e2
  ·obtain⟨j,rfl⟩:∃j,i=xs.length+j:=⟨i - xs.length,()⟩;have e1:ys[j]? =some z:=by rw[aan (),abP]at e1;exact e1
   have e2:(qf af σ)[j]? =some (some v):=by rw[aan (by rw[aa5];omega),aa5,abP]at e2;exact e2
   unfold qf at e2;rw[aar]at e2;cases hi:af[j]? with
   | none=>rw[hi]at e2;cases e2
   | some i=>
    rw[hi]at e2;have e2:(σ[i]?).join=some v:=aaJ e2;have e2:σ[i]? =some (some v):=by
     cases q:σ[i]? with
     | none=>rw[q]at e2;cases e2
     | some o=>rw[q]at e2;exact aa2 some e2
    have⟨c1,c2,c3⟩:=S.cap (z,i) (J0 e1 hi);have c4:=A4 (env:=X.env) I.ok.kind c2 c3;have c3:(z,NameKind.free)∈scope.names:=PySem.mem_of_lookup c3;have⟨m,hn,hl⟩:=I4.loc;have⟨u,r,lk⟩:=hl i z v c1 e2 (.inr (.inl c2));refine⟨u,r,.inr ⟨.inl c4,?_⟩⟩;rcases lk with ⟨k,_⟩| ⟨_,c,Bv,z'⟩
    ·exact aaP ((show X.env.scope.names.lookup z=some .local from k).symm.trans c2) @_
    ·have⟨d,hd⟩:=abM.mp (sR (env:=X.env) scope.names [] (.inl c3));have:=vi z d hd;rw[Bv]at this;cases this;exact⟨c,hd,z'⟩
 have loop:codeAny (model X.prog X.w) X.A (.compLoop (.ListComp elt [⟨tg,iter,cs,0⟩] scope pos) 0 (.ref it) (.ref s2.heap.objs.size) (compEnvC scope (mB X.env scope.names []) s3.heap.objs.size X.env)) (PQ (.ref s2.heap.objs.size) s3.heap.objs.size) s4:=by
  have W5:∀{H':Hp},(∀b∈fp,H' b=none)->∀b∈fp,sQ (Cx.comp X (xs++ys) scope s3.heap.objs.size s3 H3 fp) [] H' b:=λhn b hb=>
   ⟨hn b hb,(ok.exf b hb).1,ok.QE b hb,.inl hb,(ok.exf b hb).2,(λp hp=>nomatch hp)⟩
  refine codeAny_loop rfl (λn s'=>∃(i:Nat) (zs:List V) (os:St) (H':Hp),os.length=xs.length/\Inv (Cx.comp X (xs++ys) scope s3.heap.objs.size s3 H3 fp) [] (os++qf af σ) H' s'/\tn i s'.heap/\(∀b∈fp,H' b=none)/\W i n zs H') (λn s5 z=>?_) m0 ⟨0,[],List.replicate xs.length none,H3,by rw[aa5],Ic,T.keep _ _ _ t3 (λb hb o e=>by rw[e4];exact kp b o e),ZS,w0⟩;have⟨i,zs,os,H5,l5,I5,t5,Wo,w5⟩:=z;show wpAny _ _ ((compTurn _ 0 (.ref it) _ _).onRaise _) _ _ s5;refine wpAny_noted ?_;rw[vf (ht s3.heap.objs.size s3 H3 fp).1];refine aaM (wpAny_standAt (aaM ?_));obtain⟨JV,stop| go⟩:=step i n zs H5 w5
  ·have⟨stop,q⟩:=stop;refine bW (T.done (Cx.comp X (xs++ys) scope s3.heap.objs.size s3 H3 fp) rfl rfl rfl hc i [] s5 _ H5 _ I5 (W5 Wo) t5 stop) λr s6 xz=>?_;have⟨hr,I6⟩:=xz;subst hr;refine abf (hPQ _ _ s6 H5 ?_ q ?_ I6.free ?_ Lne Nw λp hp z=>?_)
   ·refine I3.TH I6.os I6.base I6.bc I6.bare λb hb=>?_;have⟨_,g1,_,g3,g4,g5⟩:=f2 b hb;exact⟨g3,g1,g4,g5⟩
   ·have⟨m,hn,_⟩:=I6.loc;exact⟨m,hn⟩
   ·exact I3.sz
   ·exact aaU (aaw (I3.pin p hp).1) z
  ·have⟨go,turn⟩:=go;refine bW (T.item (Cx.comp X (xs++ys) scope s3.heap.objs.size s3 H3 fp) rfl rfl rfl hc i [] s5 _ H5 _ I5 (W5 Wo) t5 go) λr s6 xz=>?_;have⟨u,hr,h6⟩:=xz;subst hr;refine aaM (bW h6 λ_ s7 xz=>?_);have⟨y,H7,I7,r7,y7,t7,fr7⟩:=xz;have I7':=I7.pinned (W5 fr7) (T.obj _ _ t7);refine aaM (acj (hg _ _ _ _ _ s7 _ H7 y u _ I7' r7 (hk y os _ H7 _ l5 (turn y _ y7 os l5))) (λ_ s8 z8=>?_) λ_ _ f=>f.elim);have⟨σ8,H8,I8,⟨os8,l8,e8⟩,q8⟩:=z8;subst e8;refine aaM (acj ((ht _ _ _ _).2 _ s8 _ _ _ I8 q8) (λb s9 z9=>?_) λ_ _ f=>f.elim);have⟨H9,I9,q9⟩:=z9;cases b with
   | false=>
    have⟨m9,hm9,w9⟩:=q9;refine abf ⟨rfl,m9,hm9,i+1,zs,os8,_,l8,I9.kR,T.keep _ _ _ t7 λb hb o e=>(I9.pin (b,o) (aaH _ (aaH _ (fB hb e)))).1,λb hb=>?_,w9⟩;have⟨o,e,_⟩:=T.obj _ _ t7 b hb;exact(I9.pin (b,o) (aaH _ (aaH _ (fB hb e)))).2.1
   | true=>
    refine aaM (aaM (acj (he _ _ _ _ _ s9 _ _ _ I9 q9) (λu10 s10 z10=>?_) λ_ _ f=>f.elim));have⟨v10,H10,I10,r10,Yz,l10,m10,Zh,w10⟩:=z10;refine aaM (acj (vE (X:=Cx.comp X (xs++ys) scope s3.heap.objs.size s3 H3 fp) _ s10 _ H10 (.ref s2.heap.objs.size) [v10] _ [u10] (λ_ H'=>H'=upd H10 s2.heap.objs.size (.lst (zs++[v10]))) I10 rfl (.cons r10 .nil) ⟨_,zs,v10,rfl,rfl,Yz,l10,rfl⟩) (λ_ s11 z11=>?_) λ_ _ f=>f.elim);have⟨_,H11,WZ,_,e11⟩:=z11;subst e11;refine abf (abf ⟨rfl,m10,Zh,i+1,zs++[v10],os8,_,l8,WZ.kR,T.keep _ _ _ t7 λb hb o e=>(WZ.pin (b,o) (aaH _ (aaH _ (fB hb e)))).1,λb hb=>?_,w10⟩);have⟨o,e,_⟩:=T.obj _ _ t7 b hb;exact(WZ.pin (b,o) (aaH _ (aaH _ (fB hb e)))).2.1
 exact codeAny_compStart_list loop (T.self X.A 0 _ _ _ (T.keep _ _ _ t3 (λb hb o e=>by rw[e4];exact kp b o e)) loop)
def Jg(S:aG X scope xs ys af)(hc:X.calm=true)(hi:PI X tg iter wi)(hg:∀C s H fp,PG (Cx.comp X (xs++ys) scope C s H fp) tg gg)(hk:wH xs.length gg)(ht:∀C s H fp,VS (Cx.comp X (xs++ys) scope C s H fp) cs tc)(he:∀C s H fp,PE (Cx.comp X (xs++ys) scope C s H fp) elt te)(hs:∀x,foldedSetIterable iter X.env x=pure x:=by intro _;rfl):
  PE X (.ListComp elt [⟨tg,iter,cs,0⟩] scope pos) (Ip wi xs.length gg tc te af):=by
 intro ζ s σ H Q I h;rw[eval_ListComp];refine wpAny_comprehension_free (use:=none) rfl hs (sM (S.has I.ok)) S.kind S.names (bW (hi ζ s σ H _ I h) λv s1 h1=>bW h1 λV_ s2 h2=>?_);have⟨it,fp,tn,J,H2,rfl,I2,T,t0,f2,q⟩:=h2;refine vh S hc hg hk ht he (Q:=Q) I2 T t0 f2 q λD C s' H' I' q' n' hC hz hL PY hp=>?_;have⟨m,n'⟩:=n';exact⟨m,n',λh' sb=>⟨.ref D,H',I'.turned (it:=C) (t':=s'.toks) (λb o hb e=>(sb.2 b hb).trans e) hC hL (.inr hz) PY hp,rfl,q'⟩⟩
def zz{i:Nat}{y:Str}{py oN:Pos}(hN:X.N.Nodup)(NZ:X.N[i]? =some y)(hy:Loc X.env.scope y)(S:aG X scope xs ys af)(hc:X.calm=true)(hi:PI X tg iter wi)(hg:∀C s H fp,PG (Cx.comp X (xs++ys) scope C s H fp) tg gg)(hk:wH xs.length gg)(ht:∀C s H fp,VS (Cx.comp X (xs++ys) scope C s H fp) cs tc)(he:∀C s H fp,PE (Cx.comp X (xs++ys) scope C s H fp) elt te)
  (Mr:swapsWith (.ListComp elt [⟨tg,iter,cs,0⟩] scope pos) (some (.Name y py)) oN.line X.env=pure true) (hs:∀x,foldedSetIterable iter X.env x=pure x)
  (hf:X.fn y=true\/X.env.scope.names.lookup y=some .local):
  PS X (.Assign [.Name y py] (.ListComp elt [⟨tg,iter,cs,0⟩] scope pos) oN) (λD σ H=>Ip wi xs.length gg tc te af σ H λv H1=>D.nx (σ.set i (some v)) H1):=by
 intro ζ s σ H D I h;rw[exec_Assign_Name_used _ _ _ _ Mr];refine aaM (wpAny_standAt (aaM ?_));show wpAny _ _ (do let _<-comprehension (.ListComp elt [⟨tg,iter,cs,0⟩] scope pos) scope X.env _ (newList []) false (eval iter X.env) (some (assign (.Name y py) X.env))) _ _ s;refine aaM (acj (wpAny_comprehension_free (use:=some (assign (.Name y py) X.env)) (Q:=λ_ s'=>SP X ζ D .next s') rfl hs (sM (S.has I.ok)) S.kind S.names (bW (hi ζ s σ H _ I h) λv s1 h1=>bW h1 λV_ s2 h2=>?_)) (λ_ s' hq=>abf (abf hq)) λ_ _ e=>e);have⟨it,fp,tn,J,H2,rfl,I2,T,t0,f2,q⟩:=h2;refine vh S hc hg hk ht he (Q:=λv H1=>D.nx (σ.set i (some v)) H1) I2 T t0 f2 q λDl C s' H' I' q' n' hC hz hL PY hp=>?_;have⟨m,n'⟩:=n';show wpAny _ _ (assign (.Name y py) X.env (.ref Dl)) _ _ s';refine wpAny_assign_Name (vw I' hN NZ hy (v:=.ref Dl) rfl (λs3 I3 Y'=>?_) hf);have⟨a,Y',ha⟩:=Y';have hCa:C≠a:=by
  rcases ha with rfl| ha
  ·exact hL
  ·exact(PY _ _ ha).symm
 exact⟨m,n'.sameBut Y' hCa,λh' sb=>⟨_,H',I3.turned (it:=C) (t':=s3.toks) (λb o hb e=>(sb.2 b hb).trans e) hC hL (.inr hz) PY hp,q'⟩⟩
end
section
variable{K:fI}
def dh.okX{x:Str}{k:Nat}{sp:Sp}(F:dh K x qual st f fd)(S:Ε N ps (χ st))(len:∀vs H Q E,sp vs H Q E->vs.length=ps.length)
  (tJ:∀(aW:Value) (A:Around) (outer:List Env) (s:Shared) (H:Hp) (vs:List V) (Q:VK) (E:XK),cF k (A.deeper (envOfC qual (χ st) s.heap.objs.size f aW))->sp vs H Q E->
   ∃t,Ik (uQ (cw P w) P w K mg base N qual (χ st) f aW A outer s H E) (eD st) t/\t {nx:=λ_ H'=>Q .bU H',rt:=Q} (start N vs) H):aw P w K mg base (cw P w) (k+1) f fd ps sp:=by
 have⟨oc,od,kV,doc,pm,an,aW,ct,Bu,rfl,lk,D1⟩:=F.ex;exact OC lk D1 S len λA outer s H vs Q E hr O4=>tJ aW A outer s H vs Q E hr O4
end
def fW:dM (cw P w) X (λ_=>E0):=by intro ζ σ H s e s' _ hx;have⟨_,_,_,_,_,_,_,_,hE⟩:=hx;exact hE.elim
def log2_lt{n:Nat}{k:Nat}(h:n < 2 ^ k)(hk:0 < k):n.log2 < k:=by
 by_cases h0:n=0
 ·rw[h0,show Nat.log2 0=0 from rfl];exact hk
 ·exact(Nat.log2_lt h0).mpr h
def g7(i:Int):Prop:=i.natAbs < 2 ^ 8000
def Gv{i j:Int}(hi:g7 i)(hj:g7 j):IntMulOk i j:=by
 have b:∀{i:Int},g7 i->Builtin.Int.intBits i<=8000:=λ{i} h=>by
  unfold Builtin.Int.intBits;split
  ·exact ab4 _
  ·have:=log2_lt (k:=8000) h @_;omega
 have b1:=b hi;have b2:=b hj;have h3:Builtin.Int.intTooBig (Builtin.Int.intBits i+Builtin.Int.intBits j)=false:=by
  unfold Builtin.Int.intTooBig;refine aaG ?_;have:(bitsLine:Int)=134217728:=@_
  omega
 unfold IntMulOk;rw[h3,Bool.and_false];exact aaF
section
def MQ:ky X (binaryOp .Mult) (rI (λi j=>g7 i/\g7 j) λi j=>.int (i * j)):=V7 λ_ _ _ _ _ _ _ hc q=>mul_int q (Gv hc.1 hc.2)
def zy:ky X (binaryOp .FloorDiv) (rI (λ_ j=>j≠0/\g7 j) λi j=>.int (i.fdiv j)):=V7 λ_ _ _ _ _ _ _ hc q=>
 floordiv_int hc.1 q (.inl (PyProof.noPylong_of_log2 (aat (log2_lt (k:=8000) hc.2 @_) @_)))
end
def pS:List V->List V->Bool
 | [],[]=>true
 | x::xs,y::ys=>Bq x y&&pS xs ys
 | _,_=>false
def mO:∀(xs ys:List V) (e:Nat->Bool),(∀j x y,xs[j]? =some x->ys[j]? =some y->e j=Bq x y)->((List.range (min xs.length ys.length)).all e&&xs.length==ys.length)=pS xs ys
 | [],[],e,_=>rfl
 | [],_::_,e,_=>by simp[pS]
 | _::_,[],e,_=>by simp[pS]
 | x::xs,y::ys,e,h=>by
  have ih:=mO xs ys (λj=>e (j+1)) λj x y h1 h2=>h (j+1) x y h1 h2;have h0:e 0=Bq x y:=h 0 x y rfl rfl;show _=(Bq x y&&pS xs ys);rw[<-ih,<-h0];have e1:min (x::xs).length (y::ys).length=min xs.length ys.length+1:=by simp only[List.length_cons];omega
  rw[e1,abU,ab6,List.all_map];have e2:((x::xs).length==(y::ys).length)=(xs.length==ys.length):=by simp only[List.length_cons];rw[Bool.eq_iff_iff];simp
  rw[e2,Bool.and_assoc];rfl
def SJ(K:fI):R2:=λx y H Q=>∃a b xs ys,x= .ref a/\y= .ref b/\oS K H a xs/\oS K H b ys/\xs.all gD=true/\ys.all gD=true/\Q (.bl (pS xs ys)) H
def UZ(K:fI):R2:=λx y H Q=>∃a b xs ys,x= .ref a/\y= .ref b/\oS K H a xs/\oS K H b ys/\xs.all gD=true/\ys.all gD=true/\Q (.bl (!pS xs ys)) H
def oq:∀{xs:List V} {j:Nat} {x:V},xs.all gD=true->xs[j]? =some x->gD x=true
 | _::_,0,_,h,e=>by rw[ab6,aav]at h;cases e;exact h.1
 | _::_,j+1,_,h,e=>by rw[ab6,aav]at h;exact oq h.2 e
section
def Ql(hu:X.A.units < cLine):ky X (compareOp .NotEq) (UZ X.K):=by
 intro ζ s σ H x y v u Q I rx ry h;have⟨a,b,xs,ys,rfl,rfl,h1,h2,f1,f2,q⟩:=h;cases rx;cases ry;have⟨i1,v1,t1,_⟩:=I.tuple h1;have⟨i2,v2,t2,_⟩:=I.tuple h2;have l1:=v1.length;have l2:=v2.length;refine SeqAt.RcNeAt.tuples (e:=λj=>match xs[j]?,ys[j]? with| some x,some y=>Bq x y| _,_=>true) (show s.heap.IsTuple a i1.toArray from t1) (show s.heap.IsTuple b i2.toArray from t2) hu (λj h1 h2=>?_) _ _ _ _ ?_
 ·have b1:j < i1.length:=by simpa using h1
  have b2:j < i2.length:=by simpa using h2
  have e1:xs[j]? =some (xs[j]'()):=aaa _;have e2:ys[j]? =some (ys[j]'()):=aaa _;have⟨u1,g1,r1⟩:=v1.get e1;have⟨u2,g2,r2⟩:=v2.get e2;rw[aaa b1]at g1;rw[aaa b2]at g2;have w1:i1.toArray[j]=u1:=by simpa using Option.some.inj g1
  have w2:i2.toArray[j]=u2:=by simpa using Option.some.inj g2
  rw[w1,w2];simp only[e1,e2];exact B' r1 r2 (oq f1 e1) (oq f2 e2)
 ·rw[List.size_toArray,List.size_toArray,<-l1,<-l2,mO xs ys _ (λj x y h1 h2=>by simp only[h1,h2])];exact⟨.bl (!pS xs ys),H,I,rfl,q⟩
def Ld(hu:X.A.units < cLine):ky X (compareOp .Eq) (SJ X.K):=by
 intro ζ s σ H x y v u Q I rx ry h;have⟨a,b,xs,ys,rfl,rfl,h1,h2,f1,f2,q⟩:=h;cases rx;cases ry;have⟨i1,v1,t1,_⟩:=I.tuple h1;have⟨i2,v2,t2,_⟩:=I.tuple h2;have l1:=v1.length;have l2:=v2.length;refine SeqAt.eq_tupleAt (e:=λj=>match xs[j]?,ys[j]? with| some x,some y=>Bq x y| _,_=>true) (show s.heap.IsTuple a i1.toArray from t1) (show s.heap.IsTuple b i2.toArray from t2) hu (λj h1 h2=>?_) ?_
 ·have b1:j < i1.length:=by simpa using h1
  have b2:j < i2.length:=by simpa using h2
  have e1:xs[j]? =some (xs[j]'()):=aaa _;have e2:ys[j]? =some (ys[j]'()):=aaa _;have⟨u1,g1,r1⟩:=v1.get e1;have⟨u2,g2,r2⟩:=v2.get e2;rw[aaa b1]at g1;rw[aaa b2]at g2;have w1:i1.toArray[j]=u1:=by simpa using Option.some.inj g1
  have w2:i2.toArray[j]=u2:=by simpa using Option.some.inj g2
  rw[w1,w2];simp only[e1,e2];exact B' r1 r2 (oq f1 e1) (oq f2 e2)
 ·rw[List.size_toArray,List.size_toArray,<-l1,<-l2,mO xs ys _ (λj x y h1 h2=>by simp only[h1,h2])];exact⟨.bl (pS xs ys),H,I,rfl,q⟩
end
def Ia(bs:List Bool):(List.range bs.length).any (λi=>bs.getD i false)=bs.any id:=by
 induction bs with
 | nil=>rfl
 | cons b bs ih=>
  rw[aau,abU,ab7,List.any_map,ab7,<-ih];rfl
def xX:∀{bs:List Bool} {us:List Value},aH (bs.map V.bl) us->us=bs.map Value.bool
 | [],_,r=>by cases r;rfl
 | b::bs,_,r=>by
  cases r with
  | cons h t=>
   cases h;rw[xX t];rfl
def Az{prog:Program}{bs:List Bool}:TruthOf prog w A (λi v=>(bs.map Value.bool).toArray[i]? =some v) (λi=>bs.getD i false):=by
 intro i v s Q E h q;have h':(bs.map Value.bool)[i]? =some v:=by simpa using h
 rw[aar]at h';cases e:bs[i]? with
 | none=>rw[e]at h';cases h'
 | some b=>
  rw[e]at h';cases h';have q':Q b s:=by
   have eb:bs.getD i false=b:=by rw[aab,e];rfl
   exact eb▸q
  exact wpAny_truthy_bool q'
def U4(K:fI):List V->Hp->VK->Prop:=λxs H Q=>∃(p:Addr) (bs:List Bool),xs=[.ref p]/\iS K H p (bs.map V.bl)/\Q (.bl (bs.any id)) H
section
def IC (hc : X.calm = true) : eY X (.builtin "any") (U4 X.K) :=by
  intro ζ s σ H xs us Q I r h;obtain⟨p,bs,rfl,hq,q⟩ :=h;obtain⟨u,rfl,r1⟩ :=lN r;cases r1;obtain⟨its,rv,pl,hz⟩ :=I.list hq;have Rc :=xX rv;subst Rc;refine call_any_walk (wpAny_pyIter_list pl.isList ?_);have lp : p < s.heap.objs.size :=by obtain⟨o,e,_⟩ :=pl.isList;exact aaw e
  refine⟨s.heap.objs.size,_,_,_,_,_,λi =>bs.getD i false,rfl,Walks.list (show X.A.in1.handled = none from I.ok.hd hc) s.heap.objs.size p (aaU lp) (bs.map Value.bool).toArray,⟨⟨_,aaS _ rfl,rfl,rfl⟩,pl.isList.at λo e =>aal _ e⟩,Az,λh' tk hk =>?_⟩;refine⟨.bl (bs.any id),H,I.kept λb o e =>hk b o (λz =>by have : b = s.heap.objs.size :=(by simpa using z);exact Nat.lt_irrefl _ (this ▸ Heap.lt_size e)) (Heap.get?_push_of_some _ e),?_,q⟩;rw[abn,aae,Ia];rfl
end
end L2
namespace PySem
open Sem (wp)
end PySem
namespace PySem.W
open PySem PySem.Builtin PySem.Builtin.ObjectAttr
end PySem.W
namespace PySem
open Sem (wp)
end PySem
namespace L2
open PySem PySem.Spec PyProof.Rows
def xO(a C:Addr)(od:Option Addr):HO:=.ext λh=>∃ob vs,h.get? a=some ob/\ob.cls= .ref C/\ob.dict=od/\ob.data= .fields vs
inductive Dt where
 | bU
 | bl (b:Bool)
 | int (i:Int)
 | str (x:Str)
 | tup (xs:List Dt)
 | lst (xs:List Dt)
 | obj (C:Addr) (ns:List Str) (xs:List Dt)
 | loc (k:Nat)
 | ref (a:Addr)
 | ty (n:String)
 | ir (ns:List Int)
 | kt (xs:List Dt)
 | exc (C:Addr) (ns:List Str) (xs:List Dt)
 | Vs (x C:Addr) (od:Option Addr) (ns:List Str) (xs:List Dt)
inductive MO where
 | lst (xs:List Dt)
 | ins (C:Addr) (ns:List Str) (xs:List Dt)
 | fU (ks:List Key) (xs:List Dt)
 | raw (u:Addr->HO)
abbrev Ms:=List MO
abbrev En:=List (Option Dt)
mutual
def Den(K:fI)(G:Hp)(L:List Addr):Dt->V->Prop
 | .bU,v=>v= .bU
 | .bl b,v=>v= .bl b
 | .int i,v=>v= .int i
 | .str x,v=>v= .str x
 | .tup ds,v=>∃a vs,v= .ref a/\G a=some (.tup vs)/\Ω K G L ds vs
 | .lst ds,v=>∃a vs,v= .ref a/\G a=some (.lst vs)/\Ω K G L ds vs
 | .obj C ns ds,v=>∃a dx vs,v= .ref a/\G a=some (.ins C dx (ns.zip vs))/\ns.length=ds.length/\Ω K G L ds vs
 | .loc k,v=>∃a,v= .ref a/\L[k]? =some a
 | .ref a,v=>v= .ref a
 | .ty n,v=>v= .ty n
 | .ir ns,v=>∃a,v= .ref a/\iS K G a (ns.map V.int)
 | .kt ds,v=>∃a vs,v= .ref a/\oS K G a vs/\Ω K G L ds vs
 | .exc C ns ds,v=>∃a od vs,v= .ref a/\G a=some (xO a C od)/\((ns=[]/\od=none)\/∃dx,od=some dx/\G dx=some (.xd (ns.zip vs)))/\ns.length=ds.length/\Ω K G L ds vs
 | .Vs x _ od ns ds,v=>∃vs,v= .ref x/\((ns=[]/\od=none)\/∃dx,od=some dx/\G dx=some (.xd (ns.zip vs)))/\ns.length=ds.length/\Ω K G L ds vs
def Ω(K:fI)(G:Hp)(L:List Addr):List Dt->List V->Prop
 | [],vs=>vs=[]
 | d::ds,vs=>∃v r,vs=v::r/\Den K G L d v/\Ω K G L ds r
end
def Pre(L L':List Addr):Prop:=∃t,L'=L++t
def Pre.refl(L:List Addr):Pre L L:=⟨[],by simp⟩
def Pre.trans{a b c:List Addr}(h:Pre a b)(h':Pre b c):Pre a c:=by have⟨t,rfl⟩:=h;have⟨u,rfl⟩:=h';exact⟨t++u,by simp⟩
def Pre.get{a b:List Addr}(h:Pre a b){k:Nat}{x:Addr}(e:a[k]? =some x):b[k]? =some x:=by have⟨t,rfl⟩:=h;have hk:k < a.length:=(aaf.mp e).1;rw[aas hk];exact e
def eJ.rd{H H':Hp}{a:Addr}{u:HO}(e:eJ H H')(h:Rd H a u):Rd H' a u:=by
 rcases h with h| ⟨o,h⟩
 ·exact .inl (e _ _ h)
 ·exact .inr ⟨o,e _ _ h⟩
def eJ.TL{K:fI}{H H':Hp}{a:Addr}{xs:List V}(e:eJ H H')(h:oS K H a xs):oS K H' a xs:=by
 rcases h with h| h
 ·exact .inl (e.rd h)
 ·exact .inr h
section
variable{K:fI}{G G':Hp}{L L':List Addr}
mutual
def Den.mono(g:eJ G G')(l:Pre L L'):∀(d:Dt) (v:V),Den K G L d v->Den K G' L' d v
 | .bU,_,h=>h
 | .bl _,_,h=>h
 | .int _,_,h=>h
 | .str _,_,h=>h
 | .tup ds,_,⟨a,vs,e,h1,h2⟩=>⟨a,vs,e,g _ _ h1,Ω.mono g l ds vs h2⟩
 | .lst ds,_,⟨a,vs,e,h1,h2⟩=>⟨a,vs,e,g _ _ h1,Ω.mono g l ds vs h2⟩
 | .obj C ns ds,_,⟨a,dx,vs,e,h1,hn,h2⟩=>⟨a,dx,vs,e,g _ _ h1,hn,Ω.mono g l ds vs h2⟩
 | .loc k,_,⟨a,e,h1⟩=>⟨a,e,l.get h1⟩
 | .ref _,_,h=>h
 | .ty _,_,h=>h
 | .ir _,_,⟨a,e,h1⟩=>⟨a,e,g.seq h1⟩
 | .kt ds,_,⟨a,vs,e,h1,h2⟩=>⟨a,vs,e,g.TL h1,Ω.mono g l ds vs h2⟩
 | .exc _ _ ds,_,⟨a,od,vs,e,h1,h2,h3,h4⟩=>⟨a,od,vs,e,g _ _ h1,h2.imp (λz=>z) (λ⟨dx,z1,z2⟩=>⟨dx,z1,g _ _ z2⟩),h3,Ω.mono g l ds vs h4⟩
 | .Vs _ _ _ _ ds,_,⟨vs,e,h2,h3,h4⟩=>⟨vs,e,h2.imp (λz=>z) (λ⟨dx,z1,z2⟩=>⟨dx,z1,g _ _ z2⟩),h3,Ω.mono g l ds vs h4⟩
def Ω.mono(g:eJ G G')(l:Pre L L'):∀(ds:List Dt) (vs:List V),Ω K G L ds vs->Ω K G' L' ds vs
 | [],_,h=>h
 | d::ds,_,⟨v,r,e,h1,h2⟩=>⟨v,r,e,Den.mono g l d v h1,Ω.mono g l ds r h2⟩
end
def Ω.pair:∀{ds:List Dt} {vs:List V},Ω K G L ds vs->Paired (Den K G L) ds vs
 | [],_,h=>by have h:_=_:=h;subst h;exact .nil
 | d::ds,_,⟨v,r,e,h1,h2⟩=>by subst e;exact .cons h1 (Ω.pair h2)
def Ω.of:∀{ds:List Dt} {vs:List V},Paired (Den K G L) ds vs->Ω K G L ds vs
 | _,_,.nil=>rfl
 | _,_,.cons h t=>⟨_,_,rfl,h,Ω.of t⟩
end
section
variable{α β:Type}{F:α->β->Prop}
def EH:∀{xs:List α} {us:List β} {i:Nat} {x:α},Paired F xs us->xs[i]? =some x->∃u,us[i]? =some u/\F x u
 | _,_,_,_,.nil,e=>by simp at e
 | _,_,0,_,.cons r _,e=>by simp at e;subst e;exact⟨_,rfl,r⟩
 | _,_,i+1,x,.cons _ t,e=>by have⟨u,h1,h2⟩:=EH (i:=i) (x:=x) t (by simpa using e);exact⟨u,by simpa using h1,h2⟩
def Fw{x:α}{u:β}(r:F x u):∀{xs:List α} {us:List β} (i:Nat),Paired F xs us->Paired F (xs.set i x) (us.set i u)
 | _,_,_,.nil=>.nil
 | _,_,0,.cons _ t=>.cons r t
 | _,_,i+1,.cons q t=>.cons q (Fw r i t)
def rh:∀{xs ys:List α} {us ws:List β},Paired F xs us->Paired F ys ws->Paired F (xs++ys) (us++ws)
 | _,_,_,_,.nil,s=>s
 | _,_,_,_,.cons r t,s=>.cons r (rh t s)
def sj:∀{xs:List α} {us:List β} (n:Nat),Paired F xs us->Paired F (xs.take n) (us.take n)
 | _,_,0,_=>.nil
 | _,_,_+1,.nil=>.nil
 | _,_,n+1,.cons r t=>.cons r (sj n t)
def uA:∀{xs:List α} {us:List β} (n:Nat),Paired F xs us->Paired F (xs.drop n) (us.drop n)
 | _,_,0,r=>r
 | _,_,_+1,.nil=>.nil
 | _,_,n+1,.cons _ t=>uA n t
def xJ{xs:List α}{us:List β}(h:Paired F xs us):∀k:Nat,Paired F (List.replicate k xs).flatten (List.replicate k us).flatten
 | 0=>.nil
 | k+1=>by rw[abt,abt,abI,abI];exact rh h (xJ h k)
end
section
variable{K:fI}{G:Hp}{L:List Addr}
def Ω.length{ds:List Dt}{vs:List V}(h:Ω K G L ds vs):ds.length=vs.length:=Paired.length h.pair
def Ω.get{ds:List Dt}{vs:List V}{i:Nat}{d:Dt}(h:Ω K G L ds vs)(e:ds[i]? =some d):∃v,vs[i]? =some v/\Den K G L d v:=EH h.pair e
def Ω.app{ds es:List Dt}{vs us:List V}(h:Ω K G L ds vs)(h':Ω K G L es us):Ω K G L (ds++es) (vs++us):=.of (rh h.pair h'.pair)
def iW:∀{ns:List Int},Ω K G L (ns.map Dt.int) (ns.map V.int)
 | []=>rfl
 | n::ns=>⟨_,_,rfl,rfl,iW⟩
def bH{d:Dt}{vs:List V}(h:Ω K G L [d] vs):∃v,vs=[v]/\Den K G L d v:=by have⟨v,r,rfl,h1,h2⟩:=h;have h2:r=[]:=h2;subst h2;exact⟨v,rfl,h1⟩
def gY{d e:Dt}{vs:List V}(h:Ω K G L [d,e] vs):∃v u,vs=[v,u]/\Den K G L d v/\Den K G L e u:=by have⟨v,r,rfl,h1,h2⟩:=h;have⟨u,rfl,h3⟩:=bH h2;exact⟨v,u,rfl,h1,h3⟩
end
def Im(K:fI)(G:Hp)(L:List Addr)(H:Hp)(a:Addr):MO->Prop
 | .lst ds=>∃vs,H a=some (.lst vs)/\Ω K G L ds vs
 | .ins C ns ds=>∃dx vs,H a=some (.ins C dx (ns.zip vs))/\ns.length=ds.length/\Ω K G L ds vs
 | .fU ks ds=>∃vs,H a=some (.dK (ks.zip vs))/\ks.length=ds.length/\Ω K G L ds vs
 | .raw u=>H a=some (u a)
structure Rl(K:fI)(G:Hp)(L:List Addr)(M:Ms)(H:Hp):Prop where
 sub:eJ G H
 len:L.length=M.length
 nd:L.Nodup
 hI:∀(k:Nat) (a:Addr) (m:MO),L[k]? =some a->M[k]? =some m->G a=none/\Im K G L H a m
structure Ex(G:Hp)(L:List Addr)(H:Hp)(G':Hp)(L':List Addr)(H':Hp):Prop where
 g:eJ G G'
 l:Pre L L'
 fr:∀b,G b=none->H b≠none->G' b=none
 out:∀b o,H b=some o->b∉L->H' b=some o
 new:∀b∈L',b∈L\/H b=none
 ED:∀b,H b≠none->H' b≠none
def Ex.refl(G:Hp)(L:List Addr)(H:Hp):Ex G L H G L H:=⟨.refl _,.refl _,λ_ h _=>h,λ_ _ h _=>h,λ_ h=>.inl h,λ_ h=>h⟩
def Ex.trans{G:Hp}{L:List Addr}{H G1:Hp}{L1:List Addr}{H1 G2:Hp}{L2:List Addr}{H2:Hp}(a:Ex G L H G1 L1 H1)(b:Ex G1 L1 H1 G2 L2 H2):Ex G L H G2 L2 H2 where
 g:=a.g.trans b.g
 l:=a.l.trans b.l
 fr:=λx h1 h2=>b.fr x (a.fr x h1 h2) (a.ED x h2)
 out:=λx o h1 h2=>b.out x o (a.out x o h1 h2) λz=>(a.new x z).elim h2 λq=>by rw[h1]at q;cases q
 new:=λx h=>by
  rcases b.new x h with z| z
  ·exact a.new x z
  ·right;cases q:H x with
   | none=>rfl
   | some o=>exact absurd z (a.ED x (by rw[q];simp))
 ED:=λx h=>b.ED x (a.ED x h)
def Im.there{K:fI}{G:Hp}{L:List Addr}{H:Hp}{a:Addr}{m:MO}(h:Im K G L H a m):H a≠none:=by
 cases m with
 | lst ds=>have⟨vs,e,_⟩:=h;rw[e];simp
 | ins C ns ds=>have⟨dx,vs,e,_⟩:=h;rw[e];simp
 | fU ks ds=>have⟨vs,e,_⟩:=h;rw[e];simp
 | raw u=>have h:H a=some (u a):=h;rw[h];simp
def Im.mono{K:fI}{G G':Hp}{L L':List Addr}{H H':Hp}{a:Addr}{m:MO}(g:eJ G G')(l:Pre L L')(e:H' a=H a)(h:Im K G L H a m):Im K G' L' H' a m:=by
 cases m with
 | lst ds=>have⟨vs,e1,h⟩:=h;exact⟨vs,e.trans e1,Ω.mono g l _ _ h⟩
 | ins C ns ds=>have⟨dx,vs,e1,h0,h⟩:=h;exact⟨dx,vs,e.trans e1,h0,Ω.mono g l _ _ h⟩
 | fU ks ds=>have⟨vs,e1,h0,h⟩:=h;exact⟨vs,e.trans e1,h0,Ω.mono g l _ _ h⟩
 | raw u=>exact e.trans h
section
variable{K:fI}{G:Hp}{L:List Addr}{M:Ms}{H:Hp}{p:Addr}{o:HO}
def Rl.wM(r:Rl K G L M H){a:Addr}(h:a∈L):∃(k:Nat) (m:MO),L[k]? =some a/\M[k]? =some m/\G a=none/\Im K G L H a m:=by
 have⟨k,hk,e⟩:=abl h;have e1:L[k]? =some a:=by rw[aaa hk,e]
 have e2:M[k]? =some (M[k]'(by rw[<-r.len];exact hk)):=aaa _;exact⟨k,_,e1,e2,r.hI k a _ e1 e2⟩
def Rl.PV(r:Rl K G L M H)(hp:H p=none):p∉L:=λz=>by have⟨k,m,_,_,_,h⟩:=r.wM z;exact h.there hp
def Rl.NR(r:Rl K G L M H)(hp:H p=none):Rl K (upd G p o) L M (upd H p o) where
 sub:=λb u e=>by
  by_cases hb:b=p
  ·subst hb;rw[az]at e⊢;exact e
  ·rw[Μ hb]at e⊢;exact r.sub b u e
 len:=r.len
 nd:=r.nd
 hI:=λk a m h1 h2=>by have⟨q1,q2⟩:=r.hI k a m h1 h2;have hb:a≠p:=λz=>q2.there (by rw[z];exact hp);exact⟨by rw[Μ hb];exact q1,q2.mono (λb u e=>by rw[Μ (λz=>by rw[z,r.sub.free hp]at e;cases e)];exact e) (.refl _) (Μ hb)⟩
def Rl.Sa(r:Rl K G L M H)(hp:H p=none):Ex G L H (upd G p o) L (upd H p o) where
 g:=λb u e=>by rw[Μ (λz=>by rw[z,r.sub.free hp]at e;cases e)];exact e
 l:=.refl _
 fr:=λb h1 h2=>by rw[Μ (λz=>h2 (by rw[z];exact hp))];exact h1
 out:=λb u h1 _=>by rw[Μ (λz=>by rw[z,hp]at h1;cases h1)];exact h1
 new:=λb h=>.inl h
 ED:=λb h=>by rw[Μ (λz=>h (by rw[z];exact hp))];exact h
def Rl.NF{m:MO}(r:Rl K G L M H)(hp:H p=none)(hm:Im K G (L++[p]) (upd H p o) p m):Rl K G (L++[p]) (M++[m]) (upd H p o) where
 sub:=λb u e=>by rw[Μ (λz=>by rw[z,r.sub.free hp]at e;cases e)];exact r.sub b u e
 len:=by rw[aah,aah,r.len];rfl
 nd:=List.nodup_append.mpr ⟨r.nd,by simp,λa ha b hb=>by
  have e:b=p:=by simpa using hb
  rw[e];exactλz=>r.PV hp (z▸ha)⟩
 hI:=λk a m' h1 h2=>by
  by_cases hk:k < L.length
  ·rw[aas hk]at h1;rw[aas (by rw[<-r.len];exact hk)]at h2;have⟨q1,q2⟩:=r.hI k a m' h1 h2;exact⟨q1,q2.mono (.refl _) ⟨[p],rfl⟩ (Μ λz=>q2.there (by rw[z];exact hp))⟩
  ·have e:k=L.length:=by have:=(aaf.mp h1).1;rw[aah]at this;simp at this;omega
   rw[e,aan (aaj _)]at h1;rw[e,r.len,aan (aaj _)]at h2;simp at h1 h2;subst h1 h2;exact⟨r.sub.free hp,hm⟩
def Rl.Wz(r:Rl K G L M H)(hp:H p=none):Ex G L H G (L++[p]) (upd H p o) where
 g:=.refl _
 l:=⟨[p],rfl⟩
 fr:=λb h1 _=>h1
 out:=λb u h1 _=>by rw[Μ (λz=>by rw[z,hp]at h1;cases h1)];exact h1
 new:=λb h=>by
  rcases aaV.mp h with z| z
  ·exact .inl z
  ·have e:b=p:=by simpa using z
   right;rw[e];exact hp
 ED:=λb h=>by rw[Μ (λz=>h (by rw[z];exact hp))];exact h
def Rl.setM{k:Nat}{a:Addr}{m:MO}(r:Rl K G L M H)(hk:L[k]? =some a)(hm:Im K G L (upd H a o) a m):Rl K G L (M.set k m) (upd H a o) where
 sub:=λb u e=>by have⟨k',m',e1,e2,q1,_⟩:=r.wM (aak hk);rw[Μ (λz=>by rw[z,q1]at e;cases e)];exact r.sub b u e
 len:=by rw[abr];exact r.len
 nd:=r.nd
 hI:=λk' a' m' h1 h2=>by
  by_cases e:k'=k
  ·subst e;rw[hk]at h1;cases h1;have hl:k' < M.length:=by rw[<-r.len];exact(aaf.mp hk).1
   rw[abo hl]at h2;cases h2;have⟨_,_,_,_,q1,_⟩:=r.wM (aak hk);exact⟨q1,hm⟩
  ·rw[abO (λz=>e z.symm)]at h2;have⟨q1,q2⟩:=r.hI k' a' m' h1 h2;have ne:a'≠a:=λz=>by subst z;exact e ((List.getElem?_inj (aaf.mp h1).1 r.nd).mp (h1.trans hk.symm))
   exact⟨q1,q2.mono (.refl _) (.refl _) (Μ ne)⟩
def Rl.Iv{k:Nat}{a:Addr}(r:Rl K G L M H)(hk:L[k]? =some a):Ex G L H G L (upd H a o) where
 g:=.refl _
 l:=.refl _
 fr:=λb h1 _=>h1
 out:=λb u h1 h2=>by rw[Μ (λz=>h2 (by rw[z];exact aak hk))];exact h1
 new:=λb h=>.inl h
 ED:=λb h=>by
  by_cases e:b=a
  ·rw[e,az];simp
  ·rw[Μ e];exact h
end
structure mv(K:fI)(G:Hp)(L:List Addr)(ρ:En)(σ:St):Prop where
 len:ρ.length=σ.length
 hI:∀(i:Nat) (d:Dt),ρ[i]? =some (some d)->∃v,σ[i]? =some (some v)/\Den K G L d v
section
variable{K:fI}{G G':Hp}{L L':List Addr}{H H':Hp}{ρ:En}{σ:St}
def mv.mono(h:mv K G L ρ σ)(e:Ex G L H G' L' H'):mv K G' L' ρ σ:=⟨h.len,λi d q=>let ⟨v,a,b⟩:=h.hI i d q;⟨v,a,Den.mono e.g e.l d v b⟩⟩
def mv.set(h:mv K G L ρ σ)(i:Nat){d:Dt}{v:V}(q:Den K G L d v):mv K G L (ρ.set i (some d)) (σ.set i (some v)):=by
 refine⟨by rw[abr,abr];exact h.len,λj d' e=>?_⟩;by_cases hj:i=j
 ·subst hj;have hl:i < ρ.length:=by have:=(aaf.mp e).1;rwa[abr]at this
  rw[abo hl]at e;cases e;exact⟨v,abo (by rw[<-h.len];exact hl),q⟩
 ·rw[abO hj]at e;have⟨u,a,b⟩:=h.hI j d' e;exact⟨u,by rw[abO hj];exact a,b⟩
end
abbrev DQ:=Dt->Ms->Prop
abbrev DX:=En->Addr->List (Str×Dt)->Ms->Prop
def Vn(K:fI)(G:Hp)(L:List Addr)(H:Hp)(fs:List (Str×Dt))(od:Option Addr):Prop:=
 (fs=[]/\od=none)\/fs≠[]/\∃dx vs,od=some dx/\G dx=some (.xd ((fs.map (·.1)).zip vs))/\Ω K G L (fs.map (·.2)) vs
def uL(K:fI)(G:Hp)(L:List Addr)(H:Hp)(R:St->XK)(x:DX):Prop:=
 ∀σ ρ C fs M' G' L' H' od,x ρ C fs M'->Ex G L H G' L' H'->Rl K G' L' M' H'->mv K G' L' ρ σ->Vn K G' L' H' fs od->R σ (.ref C) od H'
def uL.on{K:fI}{G:Hp}{L:List Addr}{H G1:Hp}{L1:List Addr}{H1:Hp}{R:St->XK}{x:DX}(h:uL K G L H R x)(e:Ex G L H G1 L1 H1):uL K G1 L1 H1 R x:=
 λσ ρ C fs M' G' L' H' od q e' r n y=>h σ ρ C fs M' G' L' H' od q (e.trans e') r n y
def l_:DX:=λ_ _ _ _=>False
def JR{K:fI}{G:Hp}{L:List Addr}{H:Hp}{R:St->XK}:uL K G L H R l_:=λ_ _ _ _ _ _ _ _ _ q=>q.elim
abbrev DE:=En->Ms->DQ->DX->Prop
abbrev DT:=En->Ms->(Bool->Ms->Prop)->DX->Prop
abbrev DA:=En->Ms->(List Dt->Ms->Prop)->DX->Prop
structure k_ where
 nx:En->Ms->Prop
 rt:DQ
 bk:En->Ms->Prop:=λ_ _=>False
 ct:En->Ms->Prop:=λ_ _=>False
 x:DX:=l_
abbrev DS:=k_->En->Ms->Prop
inductive Fin(K:fI)(G0:Hp)(L0:List Addr)(H0:Hp)(q:DQ)(v:V)(H:Hp):Prop
 | mk (d:Dt) (G:Hp) (L:List Addr) (M:Ms) (e:Ex G0 L0 H0 G L H) (r:Rl K G L M H) (n:Den K G L d v) (h:q d M)
inductive vc(K:fI)(G0:Hp)(L0:List Addr)(H0:Hp)(q:Bool->Ms->Prop)(b:Bool)(H:Hp):Prop
 | mk (G:Hp) (L:List Addr) (M:Ms) (e:Ex G0 L0 H0 G L H) (r:Rl K G L M H) (h:q b M)
inductive Oe(K:fI)(G0:Hp)(L0:List Addr)(H0:Hp)(q:List Dt->Ms->Prop)(vs:List V)(H:Hp):Prop
 | mk (ds:List Dt) (G:Hp) (L:List Addr) (M:Ms) (e:Ex G0 L0 H0 G L H) (r:Rl K G L M H) (n:Ω K G L ds vs) (h:q ds M)
inductive fk(K:fI)(G0:Hp)(L0:List Addr)(H0:Hp)(q:En->Ms->Prop)(σ:St)(H:Hp):Prop
 | mk (ρ:En) (G:Hp) (L:List Addr) (M:Ms) (e:Ex G0 L0 H0 G L H) (r:Rl K G L M H) (n:mv K G L ρ σ) (h:q ρ M)
def uJ(K:fI)(G0:Hp)(L0:List Addr)(H0:Hp)(Dn:k_):y6:=⟨fk K G0 L0 H0 Dn.nx,Fin K G0 L0 H0 Dn.rt,fk K G0 L0 H0 Dn.bk,fk K G0 L0 H0 Dn.ct⟩
inductive zk(K:fI)(R:St->XK)(t:DE)(σ:St)(H:Hp)(Q:VK):Prop
 | mk (G:Hp) (L:List Addr) (ρ:En) (M:Ms) (q:DQ) (x:DX) (r:Rl K G L M H) (n:mv K G L ρ σ) (h:t ρ M q x) (hx:uL K G L H R x) (hQ:∀v H1,Fin K G L H q v H1->Q v H1)
inductive Gd(K:fI)(R:St->XK)(t:DT)(σ:St)(H:Hp)(Q:Bool->Hp->Prop):Prop
 | mk (G:Hp) (L:List Addr) (ρ:En) (M:Ms) (q:Bool->Ms->Prop) (x:DX) (r:Rl K G L M H) (n:mv K G L ρ σ) (h:t ρ M q x) (hx:uL K G L H R x) (hQ:∀b H1,vc K G L H q b H1->Q b H1)
inductive Vc(K:fI)(R:St->XK)(t:DA)(σ:St)(H:Hp)(Q:List V->Hp->Prop):Prop
 | mk (G:Hp) (L:List Addr) (ρ:En) (M:Ms) (q:List Dt->Ms->Prop) (x:DX) (r:Rl K G L M H) (n:mv K G L ρ σ) (h:t ρ M q x) (hx:uL K G L H R x) (hQ:∀vs H1,Oe K G L H q vs H1->Q vs H1)
structure PF(A B:y6):Prop where
 nx:∀σ H,A.nx σ H->B.nx σ H
 rt:∀v H,A.rt v H->B.rt v H
 bk:∀σ H,A.bk σ H->B.bk σ H
 ct:∀σ H,A.ct σ H->B.ct σ H
inductive UA(K:fI)(R:St->XK)(t:DS)(De:y6)(σ:St)(H:Hp):Prop
 | mk (G:Hp) (L:List Addr) (ρ:En) (M:Ms) (Dn:k_) (r:Rl K G L M H) (n:mv K G L ρ σ) (h:t Dn ρ M) (hx:uL K G L H R Dn.x) (hQ:PF (uJ K G L H Dn) De)
def JE(X:Cx)(R:St->XK)(e:Expr)(t:DE):Prop:=PE X e (zk X.K R t)
def JT(X:Cx)(R:St->XK)(e:Expr)(t:DT):Prop:=PT X e (Gd X.K R t)
def JW(X:Cx)(R:St->XK)(e:Expr)(t:DT):Prop:=PW X e (Gd X.K R t)
def JA(X:Cx)(R:St->XK)(es:List Expr)(t:DA):Prop:=PA X es (Vc X.K R t)
def JS(X:Cx)(R:St->XK)(st:Stmt)(t:DS):Prop:=PS X st (UA X.K R t)
def CC(X:Cx)(R:St->XK)(st:List Stmt)(t:DS):Prop:=Ik X st (UA X.K R t)
section
variable{K:fI}{G0:Hp}{L0:List Addr}{H0 G1:Hp}{L1:List Addr}{H1:Hp}
def Fin.back{q:DQ}(e:Ex G0 L0 H0 G1 L1 H1){v:V}{H:Hp}(h:Fin K G1 L1 H1 q v H):Fin K G0 L0 H0 q v H:=let ⟨d,G,L,M,a,b,c,f⟩:=h;⟨d,G,L,M,e.trans a,b,c,f⟩
def fk.back{q:En->Ms->Prop}(e:Ex G0 L0 H0 G1 L1 H1){v:St}{H:Hp}(h:fk K G1 L1 H1 q v H):fk K G0 L0 H0 q v H:=let ⟨d,G,L,M,a,b,c,f⟩:=h;⟨d,G,L,M,e.trans a,b,c,f⟩
def vc.back{q:Bool->Ms->Prop}(e:Ex G0 L0 H0 G1 L1 H1){v:Bool}{H:Hp}(h:vc K G1 L1 H1 q v H):vc K G0 L0 H0 q v H:=let ⟨G,L,M,a,b,f⟩:=h;⟨G,L,M,e.trans a,b,f⟩
def uJ.back{Dn:k_}(e:Ex G0 L0 H0 G1 L1 H1):PF (uJ K G1 L1 H1 Dn) (uJ K G0 L0 H0 Dn):=⟨λ_ _ h=>fk.back e h,λ_ _ h=>Fin.back e h,λ_ _ h=>fk.back e h,λ_ _ h=>fk.back e h⟩
def SP.imp{X:Cx}{ζ:List (Addr×Obj)}{A B:y6}(e:PF A B){f:Flow}{s:Shared}(h:SP X ζ A f s):SP X ζ B f s:=by
 cases f with
 | next=>have⟨a,b,I,q⟩:=h;exact⟨a,b,I,e.nx _ _ q⟩
 | brk=>have⟨a,b,I,q⟩:=h;exact⟨a,b,I,e.bk _ _ q⟩
 | cont=>have⟨a,b,I,q⟩:=h;exact⟨a,b,I,e.ct _ _ q⟩
 | ret u=>have⟨v,a,b,I,r,q⟩:=h;exact⟨v,a,b,I,r,e.rt _ _ q⟩
end
section
variable{X:Cx}{R:St->XK}{e:Expr}
def JE.of{te:TE}{t:DE}(h:PE X e te)(hw:∀σ H G L ρ M q x,Rl X.K G L M H->mv X.K G L ρ σ->t ρ M q x->uL X.K G L H R x->te σ H (Fin X.K G L H q)):JE X R e t:=by intro ζ s σ H Q I ⟨G,L,ρ,M,q,x,r,n,ht,hx,hQ⟩;refine bW (h ζ s σ H _ I (hw σ H G L ρ M q x r n ht hx)) λu s1 ⟨v,H1,I1,rv,f⟩=>⟨v,H1,I1,rv,hQ v H1 f⟩
def JT.of{te:TT}{t:DT}(h:PT X e te)(hw:∀σ H G L ρ M q x,Rl X.K G L M H->mv X.K G L ρ σ->t ρ M q x->uL X.K G L H R x->te σ H (vc X.K G L H q)):JT X R e t:=by intro ζ s σ H Q I ⟨G,L,ρ,M,q,x,r,n,ht,hx,hQ⟩;refine bW (h ζ s σ H _ I (hw σ H G L ρ M q x r n ht hx)) λu s1 ⟨H1,I1,f⟩=>⟨H1,I1,hQ u H1 f⟩
def JW.of{te:TT}{t:DT}(h:PW X e te)(hw:∀σ H G L ρ M q x,Rl X.K G L M H->mv X.K G L ρ σ->t ρ M q x->uL X.K G L H R x->te σ H (vc X.K G L H q)):JW X R e t:=by intro wh ζ s σ H Q I ⟨G,L,ρ,M,q,x,r,n,ht,hx,hQ⟩;refine bW (h wh ζ s σ H _ I (hw σ H G L ρ M q x r n ht hx)) λu s1 ⟨H1,I1,f⟩=>⟨H1,I1,hQ u H1 f⟩
def JA.of{es:List Expr}{te:TA}{t:DA}(h:PA X es te)(hw:∀σ H G L ρ M q x,Rl X.K G L M H->mv X.K G L ρ σ->t ρ M q x->uL X.K G L H R x->te σ H (Oe X.K G L H q)):JA X R es t:=by intro pos ζ s σ H Q I ⟨G,L,ρ,M,q,x,r,n,ht,hx,hQ⟩;refine bW (h pos ζ s σ H _ I (hw σ H G L ρ M q x r n ht hx)) λu s1 ⟨v,H1,I1,rv,f⟩=>⟨v,H1,I1,rv,hQ v H1 f⟩
def JS.of{st:Stmt}{te:TS}{t:DS}(h:PS X st te)(hw:∀σ H G L ρ M Dn,Rl X.K G L M H->mv X.K G L ρ σ->t Dn ρ M->uL X.K G L H R Dn.x->te (uJ X.K G L H Dn) σ H):JS X R st t:=by intro ζ s σ H De I ⟨G,L,ρ,M,Dn,r,n,ht,hx,hQ⟩;exact bW (h ζ s σ H _ I (hw σ H G L ρ M Dn r n ht hx)) λu s1 f=>SP.imp hQ f
def CC.of{st:List Stmt}{te:TS}{t:DS}(h:Ik X st te)(hw:∀σ H G L ρ M Dn,Rl X.K G L M H->mv X.K G L ρ σ->t Dn ρ M->uL X.K G L H R Dn.x->te (uJ X.K G L H Dn) σ H):CC X R st t:=by intro ζ s σ H De I ⟨G,L,ρ,M,Dn,r,n,ht,hx,hQ⟩;exact bW (h ζ s σ H _ I (hw σ H G L ρ M Dn r n ht hx)) λu s1 f=>SP.imp hQ f
end
def CU(i:Nat):DE:=λρ M q _=>match ρ[i]? with
 | some (some d)=>q d M
 | _=>False
def dC(d:Dt):DE:=λ_ M q _=>q d M
def lT(f:Dt->Dt->Ms->DQ->Prop)(a b:DE):DE:=λρ M q x=>a ρ M (λd1 M1=>b ρ M1 (λd2 M2=>f d1 d2 M2 q) x) x
def Wq(f:Dt->Ms->DQ->Prop)(a:DE):DE:=λρ M q x=>a ρ M (λd1 M1=>f d1 M1 q) x
def Rr:DA:=λ_ M q _=>q [] M
def Lc(a:DE)(r:DA):DA:=λρ M q x=>a ρ M (λd M1=>r ρ M1 (λds M2=>q (d::ds) M2) x) x
def D3(f:List Dt->Ms->DQ->Prop)(a:DA):DE:=λρ M q x=>a ρ M (λds M1=>f ds M1 q) x
def qy(K:fI)(r:R2)(f:Dt->Dt->Ms->DQ->Prop):Prop:=
 ∀G0 L0 H0 G L M H v1 v2 d1 d2 q,Ex G0 L0 H0 G L H->Rl K G L M H->Den K G L d1 v1->Den K G L d2 v2->f d1 d2 M q->r v1 v2 H (Fin K G0 L0 H0 q)
def XR(K:fI)(r:V->Hp->VK->Prop)(f:Dt->Ms->DQ->Prop):Prop:=
 ∀G0 L0 H0 G L M H v1 d1 q,Ex G0 L0 H0 G L H->Rl K G L M H->Den K G L d1 v1->f d1 M q->r v1 H (Fin K G0 L0 H0 q)
def GQ(K:fI)(r:List V->Hp->VK->Prop)(f:List Dt->Ms->DQ->Prop):Prop:=
 ∀G0 L0 H0 G L M H vs ds q,Ex G0 L0 H0 G L H->Rl K G L M H->Ω K G L ds vs->f ds M q->r vs H (Fin K G0 L0 H0 q)
section
variable{K:fI}{R:St->XK}{ta tb:DE}{tc:DA}{σ:St}{H G:Hp}{L:List Addr}{ρ:En}{M:Ms}{q:DQ}{x:DX}
def CO{r:R2}{f:Dt->Dt->Ms->DQ->Prop}(od:qy K r f)(rl:Rl K G L M H)(n:mv K G L ρ σ)(h:lT f ta tb ρ M q x)(hx:uL K G L H R x):UC r (zk K R ta) (zk K R tb) σ H (Fin K G L H q):=by refine⟨G,L,ρ,M,_,x,rl,n,h,hx,λv H1 xz=>?_⟩;have⟨d1,G1,L1,M1,e1,r1,n1,h1⟩:=xz;refine⟨G1,L1,ρ,M1,_,x,r1,n.mono e1,h1,hx.on e1,λv2 H2 xz=>?_⟩;have⟨d2,G2,L2,M2,e2,r2,n2,h2⟩:=xz;exact od G L H G2 L2 M2 H2 v v2 d1 d2 q (e1.trans e2) r2 (Den.mono e2.g e2.l _ _ n1) n2 h2
def TU{r:V->Hp->VK->Prop}{f:Dt->Ms->DQ->Prop}(od:XR K r f)(rl:Rl K G L M H)(n:mv K G L ρ σ)(h:Wq f ta ρ M q x)(hx:uL K G L H R x):tUn r (zk K R ta) σ H (Fin K G L H q):=by refine⟨G,L,ρ,M,_,x,rl,n,h,hx,λv H1 xz=>?_⟩;have⟨d1,G1,L1,M1,e1,r1,n1,h1⟩:=xz;exact od G L H G1 L1 M1 H1 v d1 q e1 r1 n1 h1
def Pa{r:List V->Hp->VK->Prop}{f:List Dt->Ms->DQ->Prop}(od:GQ K r f)(rl:Rl K G L M H)(n:mv K G L ρ σ)(h:D3 f tc ρ M q x)(hx:uL K G L H R x):Z1 r (Vc K R tc) σ H (Fin K G L H q):=by refine⟨G,L,ρ,M,_,x,rl,n,h,hx,λv H1 xz=>?_⟩;have⟨d1,G1,L1,M1,e1,r1,n1,h1⟩:=xz;exact od G L H G1 L1 M1 H1 v d1 q e1 r1 n1 h1
end
section
variable{X:Cx}{R:St->XK}{a b c:Expr}{ta tb:DE}{pos:Pos}
def jv(i:Nat){x:Str}{pos:Pos}(hN:X.N[i]? =some x:=by rfl)(hv:YJ X.env.scope x:=by first| exact Or.inl rfl| exact Or.inr (Or.inl rfl)| exact Or.inr (Or.inr rfl))(hd:(x==("__debug__":Str))=false:=by decide)
  (D1:(x==("__classdict__":Str))=false:=by decide):JE X R (.Name x pos) (CU i):=.of (Qz hN hv hd D1) λσ H G L ρ M q x r n h hx=>by
 unfold CU at h;split at h
 ·rename_i d e;have⟨v,e1,h1⟩:=n.hI i d e;exact⟨v,e1,d,G,L,M,.refl _ _ _,r,h1,h⟩
 ·exact h.elim
def Sl{d:Dt}{v:V}{e:Expr}(h:PE X e (tC v))(hd:∀G L,Den X.K G L d v):JE X R e (dC d):=.of h λσ H G L ρ M q x r n h hx=>⟨d,G,L,M,.refl _ _ _,r,hd G L,h⟩
def υ{i j pos}:JE X R (.Constant (.int i) j pos) (dC (.int i)):=Sl PM λ_ _=>rfl
def O7{b j pos}:JE X R (.Constant (.bool b) j pos) (dC (.bl b)):=Sl US λ_ _=>rfl
def MN{j pos}:JE X R (.Constant .none j pos) (dC .bU):=Sl Ph λ_ _=>rfl
def gP{x j pos}:JE X R (.Constant (.str x) j pos) (dC (.str x)):=Sl Qv λ_ _=>rfl
def yW{op:Operator}{r:R2}{f:Dt->Dt->Ms->DQ->Prop}(ho:ky X (binaryOp op) r)(od:qy X.K r f)(ja:JE X R a ta)(jb:JE X R b tb):JE X R (.BinOp a op b pos) (lT f ta tb):=
 .of (Uz ho ja jb) λσ H G L ρ M q x r n h hx=>CO od r n h hx
def Z2{op:UnaryOp}{r:V->Hp->VK->Prop}{f:Dt->Ms->DQ->Prop}(ho:VM X (unaryOp op) r)(od:XR X.K r f)(ja:JE X R a ta):JE X R (.UnaryOp op a pos) (Wq f ta):=
 .of (To ho ja) λσ H G L ρ M q x r n h hx=>TU od r n h hx
def A8{op:CmpOp}{r:R2}{f:Dt->Dt->Ms->DQ->Prop}(ho:ky X (compareOp op) r)(od:qy X.K r f)(ja:JE X R a ta)(jb:JE X R b tb)(hm:behindInMarks op b=false):JE X R (.Compare a [op] [b] pos) (lT f ta tb):=
 .of (Ml ho ja jb hm) λσ H G L ρ M q x r n h hx=>CO od r n h hx
def U6{r:R2}{f:Dt->Dt->Ms->DQ->Prop}(hr:LV X r)(od:qy X.K r f)(ja:JE X R a ta)(jb:JE X R b tb)(hs:xc b):JE X R (.Subscript a b pos) (lT f ta tb):=
 .of (Tn hr ja jb hs) λσ H G L ρ M q x r n h hx=>CO od r n h hx
def b_{env:Env}{es:List Expr}{c j p}:starEach (.Constant c j p::es) env=(false,eval (.Constant c j p) env)::starEach es env:=rfl
def OL{env:Env}{es:List Expr}{c p}:starEach (.Name c p::es) env=(false,eval (.Name c p) env)::starEach es env:=rfl
def bb{env:Env}{es:List Expr}{a o b p}:starEach (.BinOp a o b p::es) env=(false,eval (.BinOp a o b p) env)::starEach es env:=rfl
def aY{env:Env}{es:List Expr}{a b c p}:starEach (.Call a b c p::es) env=(false,eval (.Call a b c p) env)::starEach es env:=rfl
def bQ{env:Env}{es:List Expr}{a b p}:starEach (.Subscript a b p::es) env=(false,eval (.Subscript a b p) env)::starEach es env:=rfl
def wc{env:Env}{es:List Expr}{a b p}:starEach (.Tuple a b p::es) env=(false,eval (.Tuple a b p) env)::starEach es env:=rfl
def O0{env:Env}{es:List Expr}{a o b p}:starEach (.Compare a o b p::es) env=(false,eval (.Compare a o b p) env)::starEach es env:=rfl
def θ:JA X R [] Rr:=.of QQ λσ H G L ρ M q x r n h hx=>⟨[],G,L,M,.refl _ _ _,r,rfl,h⟩
def ι{e:Expr}{es:List Expr}{te:DE}{t:DA}(ha:JE X R e te)(hr:JA X R es t)(hs:starEach (e::es) X.env=(false,eval e X.env)::starEach es X.env:=by first| exact b_| exact OL| exact bb| exact aY| exact bQ| exact wc| exact O0| exact aaB| rfl):JA X R (e::es) (Lc te t):=
 .of (M8 ha hr hs) λσ H G L ρ M q x rl n h hx=>by refine⟨G,L,ρ,M,_,x,rl,n,h,hx,λv H1 xz=>?_⟩;have⟨d1,G1,L1,M1,e1,r1,n1,h1⟩:=xz;refine⟨G1,L1,ρ,M1,_,x,r1,n.mono e1,h1,hx.on e1,λv2 H2 xz=>?_⟩;have⟨d2,G2,L2,M2,e2,r2,n2,h2⟩:=xz;exact⟨d1::d2,G2,L2,M2,e1.trans e2,r2,⟨_,_,rfl,Den.mono e2.g e2.l _ _ n1,n2⟩,h2⟩
def Ο{c:Str}{p:Pos}{es:List Expr}{te:DE}{t:DA}(ha:JE X R (.Name c p) te)(hr:JA X R es t):JA X R (.Name c p::es) (Lc te t):=ι ha hr OL
def Sy(t:DA):DE:=λρ M q x=>t ρ M (λds M1=>ds.length<=sizeLine/\q (.tup ds) M1) x
def T1(t:DA):DE:=λρ M q x=>t ρ M (λds M1=>ds.length<=sizeLine/\q (.lst ds) M1) x
def OF(t:DA):DE:=λρ M q x=>t ρ M (λds M1=>ds.length<=sizeLine/\q (.loc M1.length) (M1++[.lst ds])) x
def lZ{K:fI}{G0:Hp}{L0:List Addr}{H0 G:Hp}{L:List Addr}{M:Ms}{H:Hp}{p:Addr}{o:HO}{d:Dt}{q:DQ}(e:Ex G0 L0 H0 G L H)(r:Rl K G L M H)(hp:H p=none)(hd:Den K (upd G p o) L d (.ref p))(h:q d M):Fin K G0 L0 H0 q (.ref p) (upd H p o):=
 ⟨d,upd G p o,L,M,e.trans (r.Sa hp),r.NR hp,hd,h⟩
def rj{K:fI}{G:Hp}{L:List Addr}{M:Ms}{H:Hp}{p:Addr}{ds:List Dt}{vs:List V}(r:Rl K G L M H)(hp:H p=none)(h:Ω K G L ds vs):Den K (upd G p (.tup vs)) L (.tup ds) (.ref p):=
 ⟨p,vs,rfl,az,Ω.mono (r.Sa hp).g (.refl _) _ _ h⟩
def q_{K:fI}{G:Hp}{L:List Addr}{M:Ms}{H:Hp}{p:Addr}{ds:List Dt}{vs:List V}(r:Rl K G L M H)(hp:H p=none)(h:Ω K G L ds vs):Den K (upd G p (.lst vs)) L (.lst ds) (.ref p):=
 ⟨p,vs,rfl,az,Ω.mono (r.Sa hp).g (.refl _) _ _ h⟩
def jG{K:fI}{G0:Hp}{L0:List Addr}{H0 G:Hp}{L:List Addr}{M:Ms}{H:Hp}{p:Addr}{q:DQ}{ds:List Dt}{vs:List V}(e:Ex G0 L0 H0 G L H)(r:Rl K G L M H)(hp:H p=none)(hd:Ω K G L ds vs)(h:q (.loc M.length) (M++[.lst ds])):Fin K G0 L0 H0 q (.ref p) (upd H p (.lst vs)):=
 ⟨.loc M.length,G,L++[p],M++[.lst ds],e.trans (r.Wz hp),r.NF (m:=.lst ds) hp ⟨vs,az,Ω.mono (.refl _) ⟨[p],rfl⟩ _ _ hd⟩,⟨p,rfl,by rw[<-r.len,List.getElem?_append_right (Nat.le_refl _)];simp⟩,h⟩
variable{es:List Expr}{t:DA}
def c_{x1}(h:JA X R es t):JE X R (.Tuple es x1 pos) (Sy t):=.of (RC h) λσ H G L ρ M q x rl n h hx=>by refine⟨G,L,ρ,M,_,x,rl,n,h,hx,fun v H1 ⟨d1,G1,L1,M1,e1,r1,n1,h1⟩=>⟨by rw[<-n1.length];exact h1.1,λp hp=>?_⟩⟩;exact lZ e1 r1 hp (rj r1 hp n1) h1.2
def oz(h:JA X R es t):JE X R (.List es pos) (T1 t):=.of (LG h) λσ H G L ρ M q x rl n h hx=>by refine⟨G,L,ρ,M,_,x,rl,n,h,hx,fun v H1 ⟨d1,G1,L1,M1,e1,r1,n1,h1⟩=>⟨by rw[<-n1.length];exact h1.1,λp hp=>?_⟩⟩;exact lZ e1 r1 hp (q_ r1 hp n1) h1.2
def kG(h:JA X R es t):JE X R (.List es pos) (OF t):=.of (LG h) λσ H G L ρ M q x rl n h hx=>by refine⟨G,L,ρ,M,_,x,rl,n,h,hx,fun v H1 ⟨d1,G1,L1,M1,e1,r1,n1,h1⟩=>⟨by rw[<-n1.length];exact h1.1,λp hp=>?_⟩⟩;exact jG e1 r1 hp n1 h1.2
def nO(t:DE):DT:=λρ M q x=>t ρ M (λd M1=>match d with
 | .bl b=>q b M1
 | _=>False) x
def Uj(t u:DT):DT:=λρ M q x=>t ρ M (λc M1=>(c=true->u ρ M1 q x)/\(c=false->q false M1)) x
def orT(t u:DT):DT:=λρ M q x=>t ρ M (λc M1=>(c=true->q true M1)/\(c=false->u ρ M1 q x)) x
def Uk(t:DT):DT:=λρ M q x=>t ρ M (λc M1=>q (!c) M1) x
def Q5{K:fI}{t:DE}{σ:St}{H G:Hp}{L:List Addr}{ρ:En}{M:Ms}{q:Bool->Ms->Prop}{x:DX}(rl:Rl K G L M H)(n:mv K G L ρ σ)(h:nO t ρ M q x)(hx:uL K G L H R x):tB (zk K R t) σ H (vc K G L H q):=by
 refine⟨G,L,ρ,M,_,x,rl,n,h,hx,λv H1 xz=>?_⟩;have⟨d1,G1,L1,M1,e1,r1,n1,h1⟩:=xz
 (try dsimp only at h1)
 split at h1
 ·rename_i b;exact⟨b,n1,G1,L1,M1,e1,r1,h1⟩
 ·exact h1.elim
def jE{e:Expr}{t:DE}(h:JE X R e t)(he:∀whole,isTrue e X.env whole=(do let v<-whole;standAt e.pos;holding [v] (truthy v)):=by intro _;rfl):JT X R e (nO t):=
 .of (Pt h he) λσ H G L ρ M q x rl n h hx=>Q5 rl n h hx
def iK{op:CmpOp}{r:R2}{f:Dt->Dt->Ms->DQ->Prop}(ho:ky X (compareOp op) r)(od:qy X.K r f)(ja:JE X R a ta)(jb:JE X R b tb)(hm:behindInMarks op b=false):JT X R (.Compare a [op] [b] pos) (nO (lT f ta tb)):=
 .of (Nj ho ja jb hm) λσ H G L ρ M q x rl n h hx=>by
  have h:lT f ta tb ρ M (λd M1=>match d with| .bl b=>q b M1| _=>False) x:=h;refine⟨G,L,ρ,M,_,x,rl,n,h,hx,λv H1 xz=>?_⟩;have⟨d1,G1,L1,M1,e1,r1,n1,h1⟩:=xz;refine⟨G1,L1,ρ,M1,_,x,r1,n.mono e1,h1,hx.on e1,λv2 H2 xz=>?_⟩;have⟨d2,G2,L2,M2,e2,r2,n2,h2⟩:=xz;have:=od G L H G2 L2 M2 H2 v v2 d1 d2 _ (e1.trans e2) r2 (Den.mono e2.g e2.l _ _ n1) n2 h2;have e:(λx H'=>∃k,x=V.bl k/\vc X.K G L H q k H')=Fin X.K G L H (λd M1=>match d with| .bl b=>q b M1| _=>False):=by
   funext y H'
   apply propext;constructor
   ·rintro⟨k,rfl,G3,L3,M3,e3,r3,h3⟩;exact⟨.bl k,G3,L3,M3,e3,r3,rfl,h3⟩
   ·rintro⟨d,G3,L3,M3,e3,r3,n3,h3⟩;split at h3
    ·rename_i k;exact⟨k,n3,G3,L3,M3,e3,r3,h3⟩
    ·exact h3.elim
  rw[e];exact this
def JW.jt{e:Expr}{t:DT}(h:JW X R e t):JT X R e t:=h _
variable{t1 t2:DT}{rest:List Expr}
def xt(ha:JT X R a t1):JW X R (.BoolOp .And [a] pos) t1:=pw_and1 ha
def xB(ha:JT X R a t1):JW X R (.BoolOp .Or [a] pos) t1:=pw_or1 ha
def C1(ha:JT X R a t1)(hb:JW X R (.BoolOp .And (b::rest) pos) t2):JW X R (.BoolOp .And (a::b::rest) pos) (Uj t1 t2):=.of (pw_and ha hb) λσ H G L ρ M q x rl n h hx=>by
 refine⟨G,L,ρ,M,_,x,rl,n,h,hx,λc H1 xz=>?_⟩;have⟨G1,L1,M1,e1,r1,h1⟩:=xz;cases c with
 | true=>exact DR ⟨G1,L1,ρ,M1,_,x,r1,n.mono e1,h1.1 rfl,hx.on e1,λb H2 f=>vc.back e1 f⟩
 | false=>exact Ci ⟨G1,L1,M1,e1,r1,h1.2 rfl⟩
def El(ha:JT X R a t1)(hb:JW X R (.BoolOp .Or (b::rest) pos) t2):JW X R (.BoolOp .Or (a::b::rest) pos) (orT t1 t2):=.of (pw_or ha hb) λσ H G L ρ M q x rl n h hx=>by
 refine⟨G,L,ρ,M,_,x,rl,n,h,hx,λc H1 xz=>?_⟩;have⟨G1,L1,M1,e1,r1,h1⟩:=xz;cases c with
 | true=>exact DR ⟨G1,L1,M1,e1,r1,h1.1 rfl⟩
 | false=>exact Ci ⟨G1,L1,ρ,M1,_,x,r1,n.mono e1,h1.2 rfl,hx.on e1,λb H2 f=>vc.back e1 f⟩
def BA(ha:JT X R a t1):JT X R (.UnaryOp .Not a pos) (Uk t1):=.of (P4 ha) λσ H G L ρ M q x rl n h hx=>
 ⟨G,L,ρ,M,_,x,rl,n,h,hx,λ_ _ ⟨G,L,M,e,r,h⟩=>⟨G,L,M,e,r,h⟩⟩
def TK(t u:DE):DE:=λρ M q x=>t ρ M (λd M1=>match d with
 | .bl c=>(c=true->u ρ M1 q x)/\(c=false->q (.bl false) M1)
 | _=>False) x
def dOr(t u:DE):DE:=λρ M q x=>t ρ M (λd M1=>match d with
 | .bl c=>(c=true->q (.bl true) M1)/\(c=false->u ρ M1 q x)
 | _=>False) x
def dIf(t:DT)(u v:DE):DE:=λρ M q x=>t ρ M (λc M1=>(c=true->u ρ M1 q x)/\(c=false->v ρ M1 q x)) x
def jV{op}{t:DE}(h:JE X R a t):JE X R (.BoolOp op [a] pos) t:=Qm h
def iR(ha:JE X R a ta)(hb:JE X R (.BoolOp .And (b::rest) pos) tb):JE X R (.BoolOp .And (a::b::rest) pos) (TK ta tb):=.of (Qu ha hb) λσ H G L ρ M q x rl n h hx=>by
 refine⟨G,L,ρ,M,_,x,rl,n,h,hx,λv H1 xz=>?_⟩;have⟨d1,G1,L1,M1,e1,r1,n1,h1⟩:=xz
 (try dsimp only at h1)
 split at h1
 ·rename_i c;refine⟨c,n1,?_⟩;cases c with
  | true=>exact DR ⟨G1,L1,ρ,M1,_,x,r1,n.mono e1,h1.1 rfl,hx.on e1,λb H2 f=>Fin.back e1 f⟩
  | false=>exact Ci ⟨.bl false,G1,L1,M1,e1,r1,rfl,h1.2 rfl⟩
 ·exact h1.elim
def OM(ha:JE X R a ta)(hb:JE X R (.BoolOp .Or (b::rest) pos) tb):JE X R (.BoolOp .Or (a::b::rest) pos) (dOr ta tb):=.of (Ug ha hb) λσ H G L ρ M q x rl n h hx=>by
 refine⟨G,L,ρ,M,_,x,rl,n,h,hx,λv H1 xz=>?_⟩;have⟨d1,G1,L1,M1,e1,r1,n1,h1⟩:=xz
 (try dsimp only at h1)
 split at h1
 ·rename_i c;refine⟨c,n1,?_⟩;cases c with
  | true=>exact DR ⟨.bl true,G1,L1,M1,e1,r1,rfl,h1.1 rfl⟩
  | false=>exact Ci ⟨G1,L1,ρ,M1,_,x,r1,n.mono e1,h1.2 rfl,hx.on e1,λb H2 f=>Fin.back e1 f⟩
 ·exact h1.elim
def OI{c:Expr}(hc:JT X R c t1)(ha:JE X R a ta)(hb:JE X R b tb):JE X R (.IfExp c a b pos) (dIf t1 ta tb):=.of (Jy hc ha hb) λσ H G L ρ M q x rl n h hx=>by
 refine⟨G,L,ρ,M,_,x,rl,n,h,hx,λc H1 xz=>?_⟩;have⟨G1,L1,M1,e1,r1,h1⟩:=xz;cases c with
 | true=>exact DR ⟨G1,L1,ρ,M1,_,x,r1,n.mono e1,h1.1 rfl,hx.on e1,λb H2 f=>Fin.back e1 f⟩
 | false=>exact Ci ⟨G1,L1,ρ,M1,_,x,r1,n.mono e1,h1.2 rfl,hx.on e1,λb H2 f=>Fin.back e1 f⟩
end
def O3:DS:=λDn ρ M=>Dn.nx ρ M
def Lg(t u:DS):DS:=λDn ρ M=>t {Dn with nx:=u Dn} ρ M
def sIf(c:DT)(t u:DS):DS:=λDn ρ M=>c ρ M (λb M1=>(b=true->t Dn ρ M1)/\(b=false->u Dn ρ M1)) Dn.x
def Ts(t:DE):DS:=λDn ρ M=>t ρ M Dn.rt Dn.x
def Hq(i:Nat)(t:DE):DS:=λDn ρ M=>t ρ M (λd M1=>Dn.nx (ρ.set i (some d)) M1) Dn.x
def KY(t:DE):DS:=λDn ρ M=>t ρ M (λ_ M1=>Dn.nx ρ M1) Dn.x
def WL(t:DS):DS:=λDn ρ M=>∃J:En->Ms->Prop,t {Dn with nx:=J} ρ M/\∀ρ' M',J ρ' M'->Dn.nx ρ' M'
section
variable{X:Cx}{R:St->XK}{st:Stmt}{rest:List Stmt}{t u:DS}{e:Expr}{te:DE}{pos:Pos}
def Τ:CC X R [] O3:=.of Nq λσ H G L ρ M Dn rl n h hx=>⟨ρ,G,L,M,.refl _ _ _,rl,n,h⟩
def μ(h1:JS X R st t):CC X R [st] t:=Mh h1
def η(h1:JS X R st t)(h2:CC X R rest u):CC X R (st::rest) (Lg t u):=.of (Iy h1 h2) λσ H G L ρ M Dn rl n h hx=>by refine⟨G,L,ρ,M,_,rl,n,h,hx,⟨λσ1 H1 xz=>?_,λ_ _ f=>f,λ_ _ f=>f,λ_ _ f=>f⟩⟩;have⟨ρ1,G1,L1,M1,e1,r1,n1,h1⟩:=xz;exact⟨G1,L1,ρ1,M1,Dn,r1,n1,h1,hx.on e1,uJ.back e1⟩
def JQ:JS X R (.Break pos) (λDn ρ M=>Dn.bk ρ M):=.of JU λσ H G L ρ M Dn rl n h hx=>⟨ρ,G,L,M,.refl _ _ _,rl,n,h⟩
def qw:JS X R (.Continue pos) (λDn ρ M=>Dn.ct ρ M):=.of Bk λσ H G L ρ M Dn rl n h hx=>⟨ρ,G,L,M,.refl _ _ _,rl,n,h⟩
def Ζ(he:JE X R e te):JS X R (.Return (some e) pos) (Ts te):=.of (Pr he) λσ H G L ρ M Dn rl n h hx=>⟨G,L,ρ,M,_,_,rl,n,h,hx,λ_ _ f=>f⟩
def eB(he:JE X R e te)(hs:swapsWith e none pos.line X.env=pure false:=by rfl):JS X R (.Expr e pos) (KY te):=.of (M6 he hs) λσ H G L ρ M Dn rl n h hx=>by refine⟨G,L,ρ,M,_,_,rl,n,h,hx,λv H1 ⟨d1,G1,L1,M1,e1,r1,n1,h1⟩=>⟨ρ,G1,L1,M1,e1,r1,n.mono e1,h1⟩⟩
def aM{c:Expr}{a b:List Stmt}{tc:DT}(hc:JT X R c tc)(ha:CC X R a t)(hb:CC X R b u):JS X R (.If c a b pos) (sIf tc t u):=.of (Vl hc ha hb) λσ H G L ρ M Dn rl n h hx=>by
 refine⟨G,L,ρ,M,_,_,rl,n,h,hx,λc H1 xz=>?_⟩;have⟨G1,L1,M1,e1,r1,h1⟩:=xz;cases c with
 | true=>exact DR ⟨G1,L1,ρ,M1,Dn,r1,n.mono e1,h1.1 rfl,hx.on e1,uJ.back e1⟩
 | false=>exact Ci ⟨G1,L1,ρ,M1,Dn,r1,n.mono e1,h1.2 rfl,hx.on e1,uJ.back e1⟩
def ω(i:Nat){x:Str}{pos':Pos}(hN:X.N.Nodup)(he:JE X R e te)(hi:X.N[i]? =some x:=by rfl)(hx:Loc X.env.scope x:=by first| exact .inl rfl| exact .inr rfl)(hs:swapsWith e (some (.Name x pos')) pos.line X.env=pure false:=by rfl)(hf:X.fn x=true\/X.env.scope.names.lookup x=some .local:=by first| exact .inl rfl| exact .inr rfl| assumption):
  JS X R (.Assign [.Name x pos'] e pos) (Hq i te):=.of (Qr hN hi hx he hs hf) λσ H G L ρ M Dn rl n h hx=>by
 refine⟨G,L,ρ,M,_,_,rl,n,h,hx,λv H1 ⟨d1,G1,L1,M1,e1,r1,n1,h1⟩=>⟨_,G1,L1,M1,e1,r1,(n.mono e1).set i n1,h1⟩⟩
def kM(h:JS X R st t):JS X R st (WL t):=.of h λσ H G L ρ M Dn rl n h hx=>by have⟨J,h1,h2⟩:=h;refine⟨G,L,ρ,M,_,rl,n,h1,hx,⟨λσ1 H1 ⟨ρ1,G1,L1,M1,e1,r1,n1,h1⟩=>⟨ρ1,G1,L1,M1,e1,r1,n1,h2 _ _ h1⟩,λ_ _ f=>f,λ_ _ f=>f,λ_ _ f=>f⟩⟩
end
abbrev Z':=Addr->List (Str×Dt)->Ms->Prop
abbrev DF:=List Dt->Ms->DQ->Z'->Prop
inductive c7(K:fI)(T:DF)(vs:List V)(H:Hp)(Q:VK)(E:XK):Prop
 | mk (G:Hp) (L:List Addr) (ds:List Dt) (M:Ms) (q:DQ) (x:Z') (r:Rl K G L M H) (n:Ω K G L ds vs) (h:T ds M q x) (hQ:∀v H1,Fin K G L H q v H1->Q v H1) (hE:∀C fs M1 G1 L1 H1 od,x C fs M1->Ex G L H G1 L1 H1->Rl K G1 L1 M1 H1->Vn K G1 L1 H1 fs od->E (.ref C) od H1)
def k9(N:List Str)(ds:List Dt):En:=ds.map some++List.replicate (N.length - ds.length) none
def AE{K:fI}{G:Hp}{L:List Addr}{N:List Str}{ds:List Dt}{vs:List V}(h:Ω K G L ds vs):mv K G L (k9 N ds) (start N vs):=by
 have hl:=h.length;refine⟨by unfold k9 start;simp[hl],λi d e=>?_⟩;unfold k9 at e;unfold start;by_cases hi:i < ds.length
 ·rw[List.getElem?_append_left (by simpa using hi),List.getElem?_map]at e;rw[List.getElem?_append_left (by simpa [<-hl] using hi),List.getElem?_map];cases q:ds[i]? with
  | none=>rw[q]at e;cases e
  | some d'=>
   rw[q]at e;cases e;have⟨v,e1,h1⟩:=h.get q;exact⟨v,by rw[e1];rfl,h1⟩
 ·rw[List.getElem?_append_right (by simpa using Nat.le_of_not_lt hi),List.getElem?_replicate]at e;split at e <;> cases e
section
variable{P:Program}{w:World}{K:fI}{mg:Str->Option Value}{base:Heap}
def dh.dW{x qual:Str}{st:Stmt}{f:Addr}{fd:FuncData}{N ps:List Str}{k:Nat}{T:DF}(F:dh K x qual st f fd)(S:Ε N ps (χ st))(len:∀ds M q x,T ds M q x->ds.length=ps.length)
  (tJ:∀(aW:Value) (A:Around) (outer:List Env) (s:Shared) (H:Hp) (E:XK),cF k (A.deeper (envOfC qual (χ st) s.heap.objs.size f aW))->
   ∃t,CC (uQ (cw P w) P w K mg base N qual (χ st) f aW A outer s H E) (λ_=>E) (eD st) t/\∀ds M q x,T ds M q x->t {nx:=λ_ M'=>q .bU M',rt:=q,x:=λ_=>x} (k9 N ds) M):
  aw P w K mg base (cw P w) (k+1) f fd ps (c7 K T):=by
 refine F.okX S (λvs H Q E h=>?_) (λaW A outer s H vs Q E hr h=>?_)
 ·have⟨G,L,ds,M,q,x,rl,n,hT,_⟩:=h;rw[<-n.length];exact len _ _ _ _ hT
 ·have⟨t,j,ht⟩:=tJ aW A outer s H E hr;have⟨G,L,ds,M,q,x,rl,n,hT,hQ,hE⟩:=h;refine⟨_,j,G,L,k9 N ds,M,_,rl,AE n,ht ds M q x hT,λσ ρ C fs M' G' L' H' od hx e r _ y=>hE C fs M' G' L' H' od hx e r y,⟨λσ' H' ⟨ρ',G',L',M',e,r,_,h⟩=>hQ _ _ ⟨.bU,G',L',M',e,r,rfl,h⟩,λv H' f=>hQ v H' f,λ_ _ ⟨_,_,_,_,_,_,_,h⟩=>h.elim,λ_ _ ⟨_,_,_,_,_,_,_,h⟩=>h.elim⟩⟩
structure ax(P:Program)(w:World)(K:fI)(mg:Str->Option Value)(base:Heap)(k:Nat)(x:Str)(ps:List Str)(T:DF)(f:Addr)(fd:FuncData):Prop where
 ok:aw P w K mg base (cw P w) k f fd ps (c7 K T)
 b:iE K fd ps []
 m:mg x=some (.ref f)
 kp:PySem.W.keepIn K (.ref f)=true
end
def O1(T:DF)(t:DA):DE:=λρ M q x=>t ρ M (λds M1=>T ds M1 q (λC fs M'=>x ρ C fs M')) x
section
variable{X:Cx}{R:St->XK}{T:DF}{k k':Nat}{f:Addr}{fd:FuncData}{ps:List Str}{x:Str}{p pos:Pos}{e:Expr}{es:List Expr}{t:DA}
def ae(C:ax X.prog X.w X.K X.mg X.base k x ps T f fd)(hr:cF k' X.A)(hx:dM (cw X.prog X.w) X R)(ha:JA X R (e::es) t)(hk:k<=k':=by decide)(hg:Gl X x:=by rfl)(u9:(x==("__debug__":Str))=false:=by decide)
  (he:starEach (e::es) X.env=(false,eval e X.env)::starEach es X.env:=by rfl) (hU:(backTo pos (starEach es X.env)).any (·.1)=false:=by rfl):JE X R (.Call (.Name x p) (e::es) [] pos) (O1 T t):=
 .of (AH C.ok (hr.mono hk) hg C.m C.kp C.b .nil hx ha u9 he hU) λσ H G L ρ M q x rl n h hx=>by refine⟨G,L,ρ,M,_,x,rl,n,h,hx,λvs H1 xz=>?_⟩;have⟨ds,G1,L1,M1,e1,r1,n1,h1⟩:=xz;show c7 X.K T (vs++[]) H1 _ _;rw[aa6];exact⟨G1,L1,ds,M1,q,_,r1,n1,h1,λv H' f=>Fin.back e1 f,λC fs M' G' L' H' od hq e' r' y=>hx σ ρ C fs M' G' L' H' od hq (e1.trans e') r' (n.mono (e1.trans e')) y⟩
end
structure Yl(K:fI)(J:It)(xs:List Dt)(G0:Hp)(L0:List Addr):Prop where
 go:∀(i:Nat) G L M H (d:Dt),eJ G0 G->Pre L0 L->Rl K G L M H->xs[i]? =some d->J.go i H/\∀v H',J.T5 i H v H'->∃G',Ex G L H G' L H'/\Rl K G' L M H'/\Den K G' L d v
 stop:∀(i:Nat) G L M H,eJ G0 G->Pre L0 L->Rl K G L M H->xs.length<=i->J.stop i H
inductive UD(K:fI)(G0:Hp)(L0:List Addr)(H0:Hp)(q:List Dt->Ms->Prop)(J:It)(H:Hp):Prop
 | mk (xs:List Dt) (G:Hp) (L:List Addr) (M:Ms) (e:Ex G0 L0 H0 G L H) (r:Rl K G L M H) (y:Yl K J xs G L) (h:q xs M)
inductive ZQ(K:fI)(R:St->XK)(t:DA)(σ:St)(H:Hp)(Q:It->Hp->Prop):Prop
 | mk (G:Hp) (L:List Addr) (ρ:En) (M:Ms) (q:List Dt->Ms->Prop) (x:DX) (r:Rl K G L M H) (n:mv K G L ρ σ) (h:t ρ M q x) (hx:uL K G L H R x) (hQ:∀J H1,UD K G L H q J H1->Q J H1)
def JI(X:Cx)(R:St->XK)(tg iter:Expr)(t:DA):Prop:=PI X tg iter (ZQ X.K R t)
def LW.imp{X:Cx}{ζ:List (Addr×Obj)}{σ:St}{tg:Expr}{R R':It->Hp->Prop}(hR:∀J H,R J H->R' J H){v:Value}{s:Shared}(h:LW X ζ σ tg R v s):LW X ζ σ tg R' v s:=by have⟨it,fp,tn,J,H',a,b,c,d,e,f⟩:=h;exact⟨it,fp,tn,J,H',a,b,c,d,e,hR J H' f⟩
def DW{K:fI}{G:Hp}{L:List Addr}{a:Addr}{ds:List Dt}{vs:List V}(h:∀G':Hp,eJ G G'->iS K G' a vs)(n:Ω K G L ds vs):Yl K (V8 K a) ds G L where
 go:=λi G1 L1 M1 H1 d g l r e=>by
  have⟨v,e1,n1⟩:=n.get e;have hs:=h H1 (g.trans r.sub)
  exact⟨⟨vs,v,hs,e1⟩,fun v' H' ⟨eH,y⟩=>by
   subst eH;have e2:=y vs hs;rw[e1]at e2;cases e2
   exact⟨G1,.refl _ _ _,r,Den.mono g l _ _ n1⟩⟩
 stop:=λi G1 L1 M1 H1 g l r e=>⟨vs,h H1 (g.trans r.sub),by rw[<-n.length];exact e⟩
def Jr{K:fI}{G:Hp}{L:List Addr}{a:Addr}{ds:List Dt}{vs:List V}(h:∀G':Hp,eJ G G'->oS K G' a vs)(n:Ω K G L ds vs):Yl K (W9 K a) ds G L where
 go:=λi G1 L1 M1 H1 d g l r e=>by
  have⟨v,e1,n1⟩:=n.get e;have hs:=h H1 (g.trans r.sub)
  exact⟨⟨vs,v,hs,e1⟩,fun v' H' ⟨eH,y⟩=>by
   subst eH;have e2:=y vs hs;rw[e1]at e2;cases e2
   exact⟨G1,.refl _ _ _,r,Den.mono g l _ _ n1⟩⟩
 stop:=λi G1 L1 M1 H1 g l r e=>⟨vs,h H1 (g.trans r.sub),by rw[<-n.length];exact e⟩
def e6(lo:Int)(n:Nat):List Dt:=(List.range n).map λk:Nat=>Dt.int (lo+(k:Int))
def KU{K:fI}{G:Hp}{L:List Addr}{lo:Int}{n:Nat}:Yl K (Vu lo n) (e6 lo n) G L where
 go :=λi G1 L1 M1 H1 d g l r e=>by
  unfold e6 at e;rw[aar]at e;have hi:i < n:=by
   cases q:(List.range n)[i]? with
   | none=>rw[q]at e;cases e
   | some j=>
    have:=(aaf.mp q).1;rwa[aa9]at this
  rw[aaT hi]at e;cases e;exact⟨hi,λv' H' ⟨eH,y⟩=>by subst eH y;exact⟨G1,.refl _ _ _,r,rfl⟩⟩
 stop:=λi G1 L1 M1 H1 g l r e=>by show n<=i;unfold e6 at e;simpa using e
section
variable{X:Cx}{R:St->XK}{tg iter:Expr}
def JI.of{wi:TI}{t:DA}(h:PI X tg iter wi)(hw:∀σ H G L ρ M q x,Rl X.K G L M H->mv X.K G L ρ σ->t ρ M q x->uL X.K G L H R x->wi σ H (UD X.K G L H q)):JI X R tg iter t:=by intro ζ s σ H Q I ⟨G,L,ρ,M,q,x,r,n,ht,hx,hQ⟩;exact bW (h ζ s σ H _ I (hw σ H G L ρ M q x r n ht hx)) λu s1 f=>bW f λu2 s2 f2=>LW.imp hQ f2
def Vx(t:DA):DA:=λρ M q x=>t ρ M (λds M1=>match ds with
 | [.int j]=>(-(2 ^ 62)<=j/\j < 2 ^ 62)/\q (e6 0 j.toNat) M1
 | _=>False) x
def dF{a:Expr}{t:DA}{p pos:Pos}(hm:X.mg "range"=none)(ha:JA X R [a] t)(hg:Gl X "range":=by rfl)(hs:starEach [a] X.env=[(false,eval a X.env)]:=by rfl):JI X R tg (.Call (.Name "range" p) [a] [] pos) (Vx t):=
 .of (Gh hg hm ha hs) λσ H G L ρ M q x rl n h hx=>by
  refine⟨G,L,ρ,M,_,x,rl,n,h,hx,λvs H1 xz=>?_⟩;have⟨ds,G1,L1,M1,e1,r1,n1,h1⟩:=xz
  (try dsimp only at h1)
  split at h1
  ·rename_i j;have⟨v,rfl,n2⟩:=bH n1;have n2:v= .int j:=n2;subst n2;exact⟨j,rfl,h1.1.1,h1.1.2,_,G1,L1,M1,e1,r1,KU,h1.2⟩
  ·exact h1.elim
def IB(t:DA):DA:=λρ M q x=>t ρ M (λds M1=>match ds with
 | [.int i,.int j]=>(-(2 ^ 62)<=i/\i < 2 ^ 62/\ -(2 ^ 62)<=j/\j < 2 ^ 62)/\q (e6 i (j - i).toNat) M1
 | _=>False) x
def HW{a b:Expr}{t:DA}{p pos:Pos}(hm:X.mg "range"=none)(ha:JA X R [a,b] t)(hg:Gl X "range":=by rfl)(hs:starEach [a,b] X.env=[(false,eval a X.env),(false,eval b X.env)]:=by rfl)(PC:starEach [b] X.env=[(false,eval b X.env)]:=by rfl):
  JI X R tg (.Call (.Name "range" p) [a,b] [] pos) (IB t):=
 .of (HZ hg hm ha hs PC) λσ H G L ρ M q x rl n h hx=>by
  refine⟨G,L,ρ,M,_,x,rl,n,h,hx,λvs H1 xz=>?_⟩;have⟨ds,G1,L1,M1,e1,r1,n1,h1⟩:=xz
  (try dsimp only at h1)
  split at h1
  ·rename_i i j;have⟨v,u,rfl,n3,n2⟩:=gY n1;have n3:v= .int i:=n3;have n2:u= .int j:=n2;subst n3 n2;exact⟨i,j,rfl,h1.1,_,G1,L1,M1,e1,r1,KU,h1.2⟩
  ·exact h1.elim
end
def GD(K:fI)(gg:TG)(g:Dt->En->(En->Prop)->Prop):Prop:=
 ∀G L M H d v ρ σ (k:En->Prop) (Q:St->Hp->Prop),Rl K G L M H->Den K G L d v->mv K G L ρ σ->g d ρ k->(∀ρ' σ',mv K G L ρ' σ'->k ρ'->Q σ' H)->gg v σ H Q
def gN(i:Nat):Dt->En->(En->Prop)->Prop:=λd ρ k=>k (ρ.set i (some d))
def bq{K:fI}{i:Nat}:GD K (gA i) (gN i):=λG L M H d v ρ σ k Q rl n en h hQ=>hQ _ _ (en.set i n) h
def g2(i j:Nat):Dt->En->(En->Prop)->Prop:=λd ρ k=>match d with
 | .tup [a,b]=>k ((ρ.set i (some a)).set j (some b))
 | _=>False
def lG{K:fI}{i j:Nat}:GD K (GL K 2 (kg (gA i) (kg (gA j) Hc))) (g2 i j):=λG L M H d v ρ σ k Q rl n en h hQ=>by
 unfold g2 at h;split at h
 ·rename_i a b;have⟨p,vs,rfl,e,n⟩:=n;have⟨v1,v2,rfl,n1,n2⟩:=gY n;exact⟨p,_,rfl,.inl (.inl (rl.sub _ _ e)),rfl,v1,_,rfl,v2,_,rfl,rfl,hQ _ _ ((en.set i n1).set j n2) h⟩
 ·exact h.elim
def yA(g:Dt->En->(En->Prop)->Prop)(tb:DS)(Dn:k_):List Dt->En->Ms->Prop
 | [],ρ,M=>Dn.nx ρ M
 | x::xs,ρ,M=>g x ρ λρ'=>tb {Dn with nx:=yA g tb Dn xs,ct:=yA g tb Dn xs,bk:=Dn.nx} ρ' M
def SW(ti:DA)(g:Dt->En->(En->Prop)->Prop)(tb:DS):DS:=λDn ρ M=>ti ρ M (λxs M1=>yA g tb Dn xs ρ M1) Dn.x
section
variable{X:Cx}{R:St->XK}{tg iter:Expr}{body:List Stmt}{ti:DA}{gg:TG}{g:Dt->En->(En->Prop)->Prop}{tb:DS}{pos:Pos}
def ng(hi:JI X R tg iter ti)(hg:PG X tg gg)(gd:GD X.K gg g)(hb:CC X R body tb)(hp:PassesOwn (model X.prog X.w) X.A X.env X.xe:=by first| exact PassesOwn.never| exact PassesOwn.leaving)(hc:X.calm=true:=by rfl)(hs:∀x,foldedSetIterable iter X.env x=pure x:=by intro _;rfl):
  JS X R (.For tg iter body [] pos) (SW ti g tb):=.of (CS hp hc hi hg hb hs) λσ H G L ρ M Dn rl n h hx=>by
 refine⟨G,L,ρ,M,_,_,rl,n,h,hx,λJ H1 xz=>?_⟩;have⟨xs,G1,L1,M1,e1,r1,y,h1⟩:=xz;refine⟨λi m σ' H'=>m+i=xs.length/\fk X.K G1 L1 H1 (λρ' M'=>yA g tb Dn (xs.drop i) ρ' M') σ' H',⟨xs.length,rfl,ρ,G1,L1,M1,.refl _ _ _,r1,n.mono e1,by rw[acq];exact h1⟩,?_⟩;rintro i m σ' H' ⟨hm,ρ',G',L',M',e',r',n',h'⟩;by_cases hi:i < xs.length
 ·right;have hd:xs[i]? =some xs[i]:=aaa hi;have⟨go,yl⟩:=y.go i G' L' M' H' _ e'.g e'.l r' hd;rw[aby hi]at h';refine⟨go,fk X.K G1 L1 H1 (λρ' M'=>yA g tb Dn (xs.drop (i+1)) ρ' M'),λσ2 H2 f=>⟨m - 1,(),(),f⟩,λv H2 hy=>?_⟩;have⟨G2,e2,r2,n2⟩:=yl v H2 hy;refine gd G2 L' M' H2 _ v ρ' σ' _ _ r2 n2 (n'.mono e2) h' λρ3 σ3 n3 h3=>?_;refine⟨G2,L',ρ3,M',_,r2,n3,h3,hx.on (e1.trans (e'.trans e2)),⟨λ_ _ f=>fk.back (e'.trans e2) f,λ_ _ f=>Fin.back (e1.trans (e'.trans e2)) f,λ_ _ f=>fk.back (e1.trans (e'.trans e2)) f,λ_ _ f=>fk.back (e'.trans e2) f⟩⟩
 ·left;refine⟨y.stop i G' L' M' H' e'.g e'.l r' (),ρ',G',L',M',e1.trans e',r',n',?_⟩;rw[ace ()]at h';exact h'
end
abbrev DK:=En->Ms->(List Dt->(Ms->Prop)->Ms->Prop)->DX->Prop
structure Qy(K:fI)(J:It)(xs:List Dt)(ok:Ms->Prop)(G0:Hp)(L0:List Addr):Prop where
 go:∀(i:Nat) G L M H (d:Dt),eJ G0 G->Pre L0 L->Rl K G L M H->ok M->xs[i]? =some d->J.go i H/\∀v H',J.T5 i H v H'->∃G',Ex G L H G' L H'/\Rl K G' L M H'/\Den K G' L d v
 stop:∀(i:Nat) G L M H,eJ G0 G->Pre L0 L->Rl K G L M H->ok M->xs.length<=i->J.stop i H
inductive Yo(K:fI)(G0:Hp)(L0:List Addr)(H0:Hp)(q:List Dt->(Ms->Prop)->Ms->Prop)(J:It)(H:Hp):Prop
 | mk (xs:List Dt) (ok:Ms->Prop) (G:Hp) (L:List Addr) (M:Ms) (e:Ex G0 L0 H0 G L H) (r:Rl K G L M H) (y:Qy K J xs ok G L) (h:q xs ok M)
inductive Y6(K:fI)(R:St->XK)(t:DK)(σ:St)(H:Hp)(Q:It->Hp->Prop):Prop
 | mk (G:Hp) (L:List Addr) (ρ:En) (M:Ms) (q:List Dt->(Ms->Prop)->Ms->Prop) (x:DX) (r:Rl K G L M H) (n:mv K G L ρ σ) (h:t ρ M q x) (hx:uL K G L H R x) (hQ:∀J H1,Yo K G L H q J H1->Q J H1)
def JK(X:Cx)(R:St->XK)(tg iter:Expr)(t:DK):Prop:=PI X tg iter (Y6 X.K R t)
def kOf(t:DA):DK:=λρ M q x=>t ρ M (λxs M1=>q xs (λ_=>True) M1) x
def Lu{X:Cx}{R:St->XK}{tg iter:Expr}{t:DA}(h:JI X R tg iter t):JK X R tg iter (kOf t):=by intro ζ s σ H Q I ⟨G,L,ρ,M,q,x,r,n,ht,hx,hQ⟩;refine h ζ s σ H Q I ⟨G,L,ρ,M,_,x,r,n,ht,hx,λJ H1 ⟨xs,G1,L1,M1,e1,r1,y,hq⟩=>hQ J H1 ⟨xs,_,G1,L1,M1,e1,r1,⟨λi G L M H d g l r _ e=>y.go i G L M H d g l r e,λi G L M H g l r _ e=>y.stop i G L M H g l r e⟩,hq⟩⟩
def qE(af:List Nat)(ρ:En):En:=af.map λi=>(ρ[i]?).join
def i8(g:Dt->En->(En->Prop)->Prop)(tc:DT)(te:DE)(ρ0:En)(ok:Ms->Prop):List Dt->List Dt->Ms->(List Dt->Ms->Prop)->Prop
 | [],Θ,M,k=>ok M/\k Θ M
 | x::xs,Θ,M,k=>ok M/\g x ρ0 λρ'=>tc ρ' M (λb M1=>match b with
  | true=>te ρ' M1 (λd M2=>i8 g tc te ρ0 ok xs (Θ++[d]) M2 k) l_
  | false=>i8 g tc te ρ0 ok xs Θ M1 k) l_
def Du(n:Nat)(ti:DK)(g:Dt->En->(En->Prop)->Prop)(tc:DT)(te:DE)(af:List Nat):DE:=λρ M q x=>ti ρ M (λxs ok M1=>xs.length<=sizeLine/\i8 g tc te (List.replicate n none++qE af ρ) ok xs [] M1 (λys M2=>q (.lst ys) M2)) x
def N3{K:fI}{G:Hp}{L:List Addr}{ρ:En}{σ os:St}{n:Nat}(h:mv K G L ρ σ)(af:List Nat)(hl:os.length=n):mv K G L (List.replicate n none++qE af ρ) (os++qf af σ):=by
 have lc:(qE af ρ).length=(qf af σ).length:=by unfold qE qf;simp
 refine⟨by rw[aah,aah,aa5,hl,lc],λi d' e=>?_⟩;by_cases hi:i < n
 ·rw[aas (by rw[aa5];exact hi),ab5,aaz hi]at e;cases e
 ·rw[aan (by rw[aa5];omega),aa5]at e;rw[aan (),hl];unfold qE at e;unfold qf;rw[aar]at e⊢;cases q:af[i - n]? with
  | none=>rw[q]at e;cases e
  | some j=>
   rw[q]at e;have e:(ρ[j]?).join=some d':=aaJ e;have e:ρ[j]? =some (some d'):=by
    cases z:ρ[j]? with
    | none=>rw[z]at e;cases e
    | some o=>rw[z]at e;exact aa2 some e
   have⟨v,hv,dn⟩:=h.hI j d' e;exact⟨v,by show some ((σ[j]?).join)=_;rw[hv];rfl,dn⟩
def Au{K:fI}{J:It}{gg:TG}{g:Dt->En->(En->Prop)->Prop}{tc:DT}{te:DE}{af:List Nat}{nn:Nat}{ρ:En}{σ:St}{G1:Hp}{L1:List Addr}{M1:Ms}{H1:Hp}{xs:List Dt}{ok:Ms->Prop}{Dl:Addr}{Q:VK}{k:List Dt->Ms->Prop}(gd:GD K gg g)(r1:Rl K G1 L1 M1 H1)(n:mv K G1 L1 ρ σ)(y:Qy K J xs ok G1 L1)(hD:H1 Dl=none)(hz:xs.length<=sizeLine)
  (h:i8 g tc te (List.replicate nn none++qE af ρ) ok xs [] M1 k)
  (fin:∀G2 L2 M2 H2 ds vs,Ex G1 L1 H1 G2 L2 H2->Rl K G2 L2 M2 H2->G2 Dl=none->Dl∉L2->H2 Dl=some (.lst vs)->Ω K G2 L2 ds vs->k ds M2->Q (.ref Dl) H2):
  CJ J nn gg (Gd K (λ_=>E0) tc) (zk K (λ_=>E0) te) (qf af σ) Q H1 Dl:=by
 refine⟨λi m ys H2=>m+i=xs.length/\H2 Dl=some (.lst ys)/\∃Θ G2 L2 M2,Ex G1 L1 H1 G2 L2 H2/\Rl K G2 L2 M2 H2/\G2 Dl=none/\Dl∉L2/\Ω K G2 L2 Θ ys/\Θ.length<=i/\i8 g tc te (List.replicate nn none++qE af ρ) ok (xs.drop i) Θ M2 k,⟨xs.length,rfl,az,[],G1,L1,M1,?_⟩,?_⟩
 ·have gn:G1 Dl=none:=r1.sub.free hD;refine⟨⟨.refl _,.refl _,λ_ h _=>h,λb u h1 _=>by rw[Μ (λz=>by rw[z,hD]at h1;cases h1)];exact h1,λ_ h=>.inl h,λb h=>by rw[Μ (λz=>h (by rw[z];exact hD))];exact h⟩,⟨λb u e=>by rw[Μ (λz=>by rw[z,gn]at e;cases e)];exact r1.sub b u e,r1.len,r1.nd,λi a m h1 h2=>?_⟩,gn,r1.PV hD,rfl,aaj _,by rw[acq];exact h⟩;have⟨q1,q2⟩:=r1.hI i a m h1 h2;exact⟨q1,q2.mono (.refl _) (.refl _) (Μ λz=>q2.there (by rw[z];exact hD))⟩
 ·rintro i m ys H2 ⟨hm,JV,Θ,G2,L2,M2,e2,r2,g2,l2,n2,la,h2⟩;refine⟨JV,?_⟩;have ne1:∀{b:Addr} {u:HO},H1 b=some u->b≠Dl:=λe z=>by rw[z,hD]at e;cases e
  by_cases hi:i < xs.length
  ·right;have hd:xs[i]? =some xs[i]:=aaa hi;rw[aby hi]at h2;have⟨bc,h2⟩:=h2;have⟨go,yl⟩:=y.go i G2 L2 M2 H2 _ e2.g e2.l r2 bc hd;refine⟨go,λv H3 hy os hos=>?_⟩;have⟨G3,e3,r3,n3⟩:=yl v H3 hy;have h3:H3 Dl=some (.lst ys):=e3.out _ _ JV l2;have g3:G3 Dl=none:=e3.fr _ g2 (by rw[JV];simp);refine gd G3 L2 M2 H3 _ v _ _ _ _ r3 n3 (N3 ((n.mono e2).mono e3) af hos) h2 λρ' σ' n' h'=>?_;refine⟨G3,L2,ρ',M2,_,l_,r3,n',h',JR,λb H4 xz=>?_⟩;have⟨G4,L4,M4,e4,r4,h4⟩:=xz;have VT:H4 Dl=some (.lst ys):=e4.out _ _ h3 l2;have g4:G4 Dl=none:=e4.fr _ g3 (by rw[h3];simp);have l4:Dl∉L4:=λz=>(e4.new _ z).elim l2 λq=>by rw[h3]at q;cases q
   have Wy:=e3.trans e4;cases b with
   | false=>
    exact⟨m - 1,(),(),VT,Θ,G4,L4,M4,e2.trans Wy,r4,g4,l4,Ω.mono Wy.g Wy.l _ _ n2,(),h4⟩
   | true=>
    refine⟨G4,L4,ρ',M4,_,l_,r4,n'.mono e4,h4,JR,λv5 H5 xz=>?_⟩;have⟨d5,G5,L5,M5,e5,r5,n5,h5⟩:=xz;have h5':H5 Dl=some (.lst ys):=e5.out _ _ VT l4;have g5:G5 Dl=none:=e5.fr _ g4 (by rw[VT];simp);have l5:Dl∉L5:=λz=>(e5.new _ z).elim l4 λq=>by rw[VT]at q;cases q
    have Yq:=Wy.trans e5;have abh:ys.length=Θ.length:=by rw[<-n2.length]
    refine⟨h5',(),m - 1,(),(),az,Θ++[d5],G5,L5,M5,?_,?_,g5,l5,(Ω.mono Yq.g Yq.l _ _ n2).app ⟨_,_,rfl,n5,rfl⟩,by rw[aah];show Θ.length+1<=i+1;omega,h5⟩
    ·have R8:=e2.trans Yq
     exact⟨R8.g,R8.l,R8.fr,λb u h1 h2=>by rw[Μ (ne1 h1)];exact R8.out b u h1 h2,R8.new,λb h=>by
      by_cases hb:b=Dl
      ·rw[hb,az];simp
      ·rw[Μ hb];exact R8.ED b h⟩
    ·refine⟨λb u e=>by rw[Μ (λz=>by rw[z,g5]at e;cases e)];exact r5.sub b u e,r5.len,r5.nd,λi a m h1 h2=>?_⟩;have⟨q1,q2⟩:=r5.hI i a m h1 h2;exact⟨q1,q2.mono (.refl _) (.refl _) (Μ λz=>l5 (by rw[<-z];exact aak h1))⟩
  ·left;rw[ace ()]at h2;exact⟨y.stop i G2 L2 M2 H2 e2.g e2.l r2 h2.1 (),fin G2 L2 M2 H2 Θ ys e2 r2 g2 l2 JV n2 h2.2⟩
section
variable{K:fI}{G1:Hp}{L1:List Addr}{H1 G:Hp}{L:List Addr}{M:Ms}{H:Hp}{p:Addr}{ds:List Dt}{vs:List V}{q:DQ}
def N5(e:Ex G1 L1 H1 G L H)(r:Rl K G L M H)(Ov:H1 p=none)(hg:G p=none)(hl:p∉L)(h:H p=some (.lst vs))(n:Ω K G L ds vs)(k:q (.lst ds) M):Fin K G1 L1 H1 q (.ref p) H:=by
 have g1:eJ G (upd G p (.lst vs)):=λb u e=>by rw[Μ (λz=>by rw[z,hg]at e;cases e)];exact e
 refine⟨.lst ds,upd G p (.lst vs),L,M,⟨e.g.trans g1,e.l,λb h1 h2=>?_,e.out,e.new,e.ED⟩,⟨λb u e=>?_,r.len,r.nd,λk a m h1 h2=>?_⟩,⟨p,vs,rfl,az,Ω.mono g1 (.refl _) _ _ n⟩,k⟩
 ·rw[Μ (λz=>h2 (by rw[z];exact Ov))];exact e.fr b h1 h2
 ·by_cases hb:b=p
  ·rw[hb,az]at e;rw[hb];cases e;exact h
  ·rw[Μ hb]at e;exact r.sub b u e
 ·have⟨q1,q2⟩:=r.hI k a m h1 h2;have hb:a≠p:=λz=>hl (by rw[<-z];exact aak h1);exact⟨by rw[Μ hb];exact q1,q2.mono g1 (.refl _) rfl⟩
def Mt(e:Ex G1 L1 H1 G L H)(r:Rl K G L M H)(Ov:H1 p=none)(hg:G p=none)(hl:p∉L)(h:H p=some (.lst vs))(n:Ω K G L ds vs)(k:q (.loc M.length) (M++[.lst ds])):Fin K G1 L1 H1 q (.ref p) H:=by
 refine⟨.loc M.length,G,L++[p],M++[.lst ds],⟨e.g,e.l.trans ⟨[p],rfl⟩,e.fr,e.out,λb hb=>?_,e.ED⟩,⟨r.sub,by rw[List.length_append,List.length_append,r.len];rfl,List.nodup_append.mpr ⟨r.nd,by simp,λa ha b hb=>?_⟩,λk a m h1 h2=>?_⟩,⟨p,rfl,by rw[<-r.len,List.getElem?_append_right (Nat.le_refl _)];simp⟩,k⟩
 ·rcases aaV.mp hb with z| z
  ·exact e.new b z
  ·have e:b=p:=by simpa using z
   right;rw[e];exact Ov
 ·have e:b=p:=by simpa using hb
  rw[e];exactλz=>hl (z▸ha)
 ·by_cases hk:k < L.length
  ·rw[aas hk]at h1;rw[aas (by rw[<-r.len];exact hk)]at h2;have⟨q1,q2⟩:=r.hI k a m h1 h2;exact⟨q1,q2.mono (.refl _) ⟨[p],rfl⟩ rfl⟩
  ·have e:k=L.length:=by have:=(aaf.mp h1).1;rw[aah]at this;simp at this;omega
   rw[e,aan (aaj _)]at h1;rw[e,r.len,aan (aaj _)]at h2;simp at h1 h2;subst h1 h2;exact⟨hg,vs,h,Ω.mono (.refl _) ⟨[p],rfl⟩ _ _ n⟩
def VI(b:Bool)(q:DQ)(ys:List Dt)(M:Ms):Prop:=match b with
 | false=>q (.lst ys) M
 | true=>q (.loc M.length) (M++[.lst ys])
def Fu{b:Bool}(e:Ex G1 L1 H1 G L H)(r:Rl K G L M H)(Ov:H1 p=none)(hg:G p=none)(hl:p∉L)(h:H p=some (.lst vs))(n:Ω K G L ds vs)(k:VI b q ds M):Fin K G1 L1 H1 q (.ref p) H:=by
 cases b
 ·exact N5 e r Ov hg hl h n k
 ·exact Mt e r Ov hg hl h n k
end
def ij{n i:Nat}(h:i < n):wH n (gA i):=λv os cs H Q hl hq=>⟨⟨os.set i (some v),by rw[abr];exact hl,ab1 _ _ ()⟩,hq⟩
def pq{K:fI}{n i j:Nat}(h:i < n)(h':j < n):wH n (GL K 2 (kg (gA i) (kg (gA j) Hc))):=
 fun v os cs H Q hl ⟨a,xs,e,s,l,v1,r,e1,v2,r2,e2,e3,q⟩=>⟨a,xs,e,s,l,v1,r,e1,v2,r2,e2,e3,⟨(os.set i (some v1)).set j (some v2),by simp[hl],by
  rw[ab1 _ _ (),ab1 _ _ (by rw[abr];omega)]⟩,q⟩
section
variable{X:Cx}{elt iter tg:Expr}{xs:List Str}{scope:Scope}{pos:Pos}{ys:List Str}{af:List Nat}
def g9{i:Nat}{x:Str}{px:Pos}(S:aG X scope xs ys af)(h:xs[i]? =some x)(C:Addr)(s:Shared)(H:Hp)(fp:List Addr):PG (Cx.comp X (xs++ys) scope C s H fp) (.Name x px) (gA i):=by
 have hm:x∈xs:=aak h;have hi:(xs++ys)[i]? =some x:=by rw[aas (aaf.mp h).1];exact h
 exact av S.nd hi (.inl (lookup_relabel_local (S.own x hm))) (.inr (lookup_relabel_local (S.own x hm)))
def yd{x y:Str}{px py:Pos}{k:Nat}(hc:X.calm=true)(S:aG X scope [x,y] ys af)(C:Addr)(s:Shared)(H:Hp)(fp:List Addr):PG (Cx.comp X ([x,y]++ys) scope C s H fp) (.Tuple [.Name x px,.Name y py] k pos) (GL X.K 2 (kg (gA 0) (kg (gA 1) Hc))):=
 jZ (X:=Cx.comp X ([x,y]++ys) scope C s H fp) hc (aV (g9 S (i:=0) rfl C s H fp) (aV (g9 S (i:=1) rfl C s H fp) gO))
end
def se:DT:=λ_ M q _=>q true M
def Xq(X:Cx)(cs:List Expr)(t:DT):Prop:=VS X cs (Gd X.K (λ_=>E0) t)
def lP{X:Cx}:Xq X [] se:=⟨.inl rfl,λζ s σ H Q I ⟨G,L,ρ,M,q,x,r,n,h,hx,hQ⟩=>abf ⟨H,I,hQ true H ⟨G,L,M,.refl _ _ _,r,h⟩⟩⟩
def FD{X:Cx}{c:Expr}{t:DT}(h:JT X (λ_=>E0) c t):Xq X [c] t:=⟨.inr ⟨c,rfl⟩,h⟩
def OB(b:Bool)(g:Dt->En->(En->Prop)->Prop)(tc:DT)(te:DE)(cs:En)(q:DQ):List Dt->(Ms->Prop)->Ms->Prop:=λzs ok M1=>zs.length<=sizeLine/\i8 g tc te cs ok zs [] M1 (VI b q)
section
variable{X:Cx}{R:St->XK}{elt iter tg:Expr}{cs:List Expr}{xs:List Str}{scope:Scope}{pos:Pos}{gg:TG}{g:Dt->En->(En->Prop)->Prop}{ti:DK}{tc:DT}{te:DE}{ys:List Str}{af:List Nat}(b:Bool)(S:aG X scope xs ys af)(hi:JK X R tg iter ti)(hg:∀C s H fp,PG (Cx.comp X (xs++ys) scope C s H fp) tg gg)(gd:GD X.K gg g)(hk:wH xs.length gg)(ht:∀C s H fp,Xq (Cx.comp X (xs++ys) scope C s H fp) cs tc)(he:∀C s H fp,JE (Cx.comp X (xs++ys) scope C s H fp) (λ_=>E0) elt te)(hc:X.calm=true)(hs:∀x,foldedSetIterable iter X.env x=pure x)
include S hi hg gd hk ht he hc hs
def UR{t:DE}(e:∀ρ M q x,t ρ M q x->ti ρ M (OB b g tc te (List.replicate xs.length none++qE af ρ) q) x):JE X R (.ListComp elt [⟨tg,iter,cs,0⟩] scope pos) t:=
 .of (Jg (tc:=Gd X.K (λ_=>E0) tc) (te:=zk X.K (λ_=>E0) te) S hc hi hg hk ht he hs) λσ H G L ρ M q x rl n h hx=>⟨G,L,ρ,M,_,x,rl,n,e _ _ _ _ h,hx,λJ H1 ⟨xs,ok,G1,L1,M1,e1,r1,y,hz,h1⟩ D hD=>Au gd r1 (n.mono e1) y hD hz h1 λG2 L2 M2 H2 ds vs e2 r2 g2 l2 h2 n2 k=>Fin.back e1 (Fu e2 r2 hD g2 l2 h2 n2 k)⟩
def XU{i:Nat}{y:Str}{py oN:Pos}(hN:X.N.Nodup)(NZ:X.N[i]? =some y)(hy:Loc X.env.scope y)(Mr:swapsWith (.ListComp elt [⟨tg,iter,cs,0⟩] scope pos) (some (.Name y py)) oN.line X.env=pure true)(hf:X.fn y=true\/X.env.scope.names.lookup y=some .local){t:DE}(e:∀ρ M q x,t ρ M q x->ti ρ M (OB b g tc te (List.replicate xs.length none++qE af ρ) q) x):
  JS X R (.Assign [.Name y py] (.ListComp elt [⟨tg,iter,cs,0⟩] scope pos) oN) (Hq i t):=.of (zz (tc:=Gd X.K (λ_=>E0) tc) (te:=zk X.K (λ_=>E0) te) hN NZ hy S hc hi hg hk ht he Mr hs hf) λσ H G L ρ M Dn rl n h hx=>by
 refine⟨G,L,ρ,M,_,_,rl,n,e _ _ _ _ h,hx,fun J H1 ⟨xs,ok,G1,L1,M1,e1,r1,y,hz,h1⟩ D hD=>Au gd r1 (n.mono e1) y hD hz h1 λG2 L2 M2 H2 ds vs e2 r2 g2 l2 h2 n2 k=>?_⟩;have⟨d,G3,L3,M3,e3,r3,n3,h3⟩:=Fu (q:=λd M=>Dn.nx (ρ.set i (some d)) M) e2 r2 hD g2 l2 h2 n2 k;exact⟨_,G3,L3,M3,e1.trans e3,r3,((n.mono e1).mono e3).set i n3,h3⟩
end
def vO(te:DE)(cs:En):List Dt->List Dt->Ms->(List Dt->Ms->Prop)->Prop
 | [],Θ,M,k=>k Θ M
 | x::xs,Θ,M,k=>te (some x::cs) M (λd M1=>vO te cs xs (Θ++[d]) M1 k) l_
def zX(ti:DA)(te:DE)(af:List Nat):DE:=λρ M q x=>ti ρ M (λxs M1=>xs.length<=sizeLine/\vO te (qE af ρ) xs [] M1 (λys M2=>q (.lst ys) M2)) x
def w6{te:DE}{cs:En}:∀xs,vO te cs xs=i8 (gN 0) se te (none::cs) (λ_=>True) xs
 | []=>funext λΘ=>funext λM=>funext λk=>(true_and _).symm
 | x::xs=>funext λΘ=>funext λM=>funext λk=>by show te (some x::cs) M (λd M1=>vO te cs xs (Θ++[d]) M1 k) l_=(True/\te (some x::cs) M (λd M1=>i8 (gN 0) se te (none::cs) (λ_=>True) xs (Θ++[d]) M1 k) l_);rw[w6 xs,true_and]
section
variable{X:Cx}{R:St->XK}{elt iter:Expr}{x:Str}{px:Pos}{scope:Scope}{pos:Pos}{ti:DA}{te:DE}{ys:List Str}{af:List Nat}
def LJ(S:aG X scope [x] ys af)(hi:JI X R (.Name x px) iter ti)(he:∀C s H fp,JE (Cx.comp X (x::ys) scope C s H fp) (λ_=>E0) elt te)(hc:X.calm=true:=by rfl)(hs:∀x,foldedSetIterable iter X.env x=pure x:=by intro _;rfl):JE X R (.ListComp elt [⟨.Name x px,iter,[],0⟩] scope pos) (zX ti te af):=UR false S (Lu hi) (g9 S (i:=0) rfl) bq (ij (Nat.zero_lt_succ 0)) (λ_ _ _ _=>lP) he hc hs λρ M q x h=>by unfold zX at h;simp only[w6]at h;exact h
def sv{i:Nat}{y:Str}{py oN:Pos}(hN:X.N.Nodup)(NZ:X.N[i]? =some y)(hy:Loc X.env.scope y)(S:aG X scope [x] ys af)(hi:JI X R (.Name x px) iter ti)(he:∀C s H fp,JE (Cx.comp X (x::ys) scope C s H fp) (λ_=>E0) elt te)(hc:X.calm=true:=by rfl)(Mr:swapsWith (.ListComp elt [⟨.Name x px,iter,[],0⟩] scope pos) (some (.Name y py)) oN.line X.env=pure true:=by rfl)(hs:∀x,foldedSetIterable iter X.env x=pure x:=by intro _;rfl)(hf:X.fn y=true\/X.env.scope.names.lookup y=some .local:=by first| exact .inl rfl| exact .inr rfl| assumption):JS X R (.Assign [.Name y py] (.ListComp elt [⟨.Name x px,iter,[],0⟩] scope pos) oN) (Hq i (zX ti te af)):=XU false S (Lu hi) (g9 S (i:=0) rfl) bq (ij (Nat.zero_lt_succ 0)) (λ_ _ _ _=>lP) he hc hs hN NZ hy Mr hf λρ M q x h=>by unfold zX at h;simp only[w6]at h;exact h
end
def fin_same{K:fI}{G0:Hp}{L0:List Addr}{H0 G:Hp}{L:List Addr}{M:Ms}{H:Hp}{d:Dt}{v:V}{q:DQ}(e:Ex G0 L0 H0 G L H)(r:Rl K G L M H)(n:Den K G L d v)(h:q d M):Fin K G0 L0 H0 q v H:=⟨d,G,L,M,e,r,n,h⟩
def cx{K:fI}{G0:Hp}{L0:List Addr}{H0 G:Hp}{L:List Addr}{M:Ms}{H:Hp}{d:Dt}{v:V}{q:DQ}(e:Ex G0 L0 H0 G L H)(r:Rl K G L M H)(h:q d M)(n:Den K G L d v:=by rfl):Fin K G0 L0 H0 q v H:=⟨d,G,L,M,e,r,n,h⟩
def uP:Dt->Dt->Ms->DQ->Prop
 | .int i,.int j,M,q=>q (.int (i+j)) M
 | .str a,.str b,M,q=>a.length+b.length<=sizeLine/\q (.str (a++b)) M
 | .lst a,.lst b,M,q=>a.length+b.length<=sizeLine/\q (.lst (a++b)) M
 | .tup a,.tup b,M,q=>(a≠[]/\a.length+b.length<=sizeLine)/\q (.tup (a++b)) M
 | _,_,_,_=>False
def Lp:Dt->Dt->Ms->DQ->Prop
 | .int i,.int j,M,q=>q (.int (i - j)) M
 | _,_,_,_=>False
def LD:Dt->Dt->Ms->DQ->Prop
 | .int i,.int j,M,q=>(g7 i/\g7 j)/\q (.int (i * j)) M
 | .lst a,.int k,M,q=>(-(2 ^ 63)<=k/\k < 2 ^ 63/\a.length * k.toNat<=sizeLine)/\q (.lst (List.replicate k.toNat a).flatten) M
 | _,_,_,_=>False
def RD:Dt->Dt->Ms->DQ->Prop
 | .int i,.int j,M,q=>(0 < j/\g7 j)/\q (.int (i / j)) M
 | _,_,_,_=>False
def Fl:Dt->Dt->Ms->DQ->Prop
 | .int i,.int j,M,q=>(j≠0/\g7 j)/\q (.int (i.fdiv j)) M
 | _,_,_,_=>False
def RZ:Dt->Dt->Ms->DQ->Prop
 | .int i,.int j,M,q=>0 < j/\q (.int (i % j)) M
 | _,_,_,_=>False
def P7:Dt->Dt->Ms->DQ->Prop
 | .int i,.int j,M,q=>sD i j/\q (.int (i ^ j.toNat)) M
 | _,_,_,_=>False
def QG:Dt->Ms->DQ->Prop
 | .int i,M,q=>q (.int (-i)) M
 | _,_,_=>False
section
variable{K:fI}
def Y_:qy K (λx y H Q=>(∃i j,x=V.int i/\y= .int j/\Q (.int (i+j)) H)\/(∃i j,x=V.str i/\y= .str j/\i.length+j.length<=sizeLine/\Q (.str (i++j)) H)\/QI x y H Q\/Ol K x y H Q) uP:=by
 intro G0 L0 H0 G L M H v1 v2 d1 d2 q e r n1 n2 h;unfold uP at h;split at h
 ·rename_i i j;exact .inl ⟨i,j,n1,n2,cx e r h⟩
 ·rename_i a b;exact .inr (.inl ⟨a,b,n1,n2,h.1,cx e r h.2⟩)
 ·rename_i a b;have⟨p1,w1,rfl,e1,m1⟩:=n1;have⟨p2,w2,rfl,e2,m2⟩:=n2;refine .inr (.inr (.inl ⟨p1,p2,w1,w2,rfl,rfl,r.sub _ _ e1,r.sub _ _ e2,by rw[<-m1.length,<-m2.length];exact h.1,λp hp=>?_⟩));exact lZ e r hp (q_ r hp (m1.app m2)) h.2
 ·rename_i a b;have⟨p1,w1,rfl,e1,m1⟩:=n1;have⟨p2,w2,rfl,e2,m2⟩:=n2;have ne:w1≠[]:=λz=>h.1.1 (by have:=m1.length;rw[z]at this;exact List.eq_nil_of_length_eq_zero this);refine .inr (.inr (.inr ⟨p1,p2,w1,w2,rfl,rfl,.inl (.inl (r.sub _ _ e1)),.inl (.inl (r.sub _ _ e2)),ne,by rw[<-m1.length,<-m2.length];exact h.1.2,λz=>?_,λ_ p hp=>?_⟩))
  ·have hb:b=[]:=by have:=m2.length;rw[z]at this;exact List.eq_nil_of_length_eq_zero this
   subst hb;rw[aa6]at h;exact fin_same (d:=.tup a) e r ⟨p1,w1,rfl,e1,m1⟩ h.2
  ·exact lZ e r hp (rj r hp (m1.app m2)) h.2
 ·exact h.elim
def Xg:qy K (HE λi j=>.int (i - j)) Lp:=by
 intro G0 L0 H0 G L M H v1 v2 d1 d2 q e r n1 n2 h;unfold Lp at h;split at h
 ·exact⟨_,_,n1,n2,cx e r h⟩
 ·exact h.elim
def Xw:qy K (λx y H Q=>(rI (λi j=>g7 i/\g7 j) λi j=>.int (i * j)) x y H Q\/Pq x y H Q) LD:=by
 intro G0 L0 H0 G L M H v1 v2 d1 d2 q e r n1 n2 h;unfold LD at h;split at h
 ·exact .inl ⟨_,_,n1,n2,h.1,cx e r h.2⟩
 ·rename_i a k;have⟨p1,w1,rfl,e1,m1⟩:=n1;refine .inr ⟨p1,k,w1,rfl,n2,r.sub _ _ e1,h.1.1,h.1.2.1,by rw[<-m1.length];exact h.1.2.2,λp hp=>?_⟩;exact lZ e r hp (q_ r hp (.of (xJ m1.pair k.toNat))) h.2
 ·exact h.elim
def Xy:qy K (rI (λ_ j=>j≠0/\g7 j) λi j=>.int (i.fdiv j)) RD:=by
 intro G0 L0 H0 G L M H v1 v2 d1 d2 q e r n1 n2 h;unfold RD at h;split at h
 ·rename_i i j;have h0:=h.1.1;refine⟨_,_,n1,n2,⟨(),h.1.2⟩,fin_same (d:=.int (i.fdiv j)) e r rfl ?_⟩;rw[acn i (aag h0)];exact h.2
 ·exact h.elim
def VB:qy K (rI (λ_ j=>j≠0/\g7 j) λi j=>.int (i.fdiv j)) Fl:=by
 intro G0 L0 H0 G L M H v1 v2 d1 d2 q e r n1 n2 h;unfold Fl at h;split at h
 ·exact⟨_,_,n1,n2,h.1,cx e r h.2⟩
 ·exact h.elim
def Yr:qy K (rI (λ_ j=>0 < j) λi j=>.int (i % j)) RZ:=by
 intro G0 L0 H0 G L M H v1 v2 d1 d2 q e r n1 n2 h;unfold RZ at h;split at h
 ·exact⟨_,_,n1,n2,h.1,cx e r h.2⟩
 ·exact h.elim
def Xv:qy K (rI sD λi j=>.int (i ^ j.toNat)) P7:=by
 intro G0 L0 H0 G L M H v1 v2 d1 d2 q e r n1 n2 h;unfold P7 at h;split at h
 ·exact⟨_,_,n1,n2,h.1,cx e r h.2⟩
 ·exact h.elim
def YB:XR K (rU λi=>.int (-i)) QG:=by
 intro G0 L0 H0 G L M H v1 d1 q e r n1 h;unfold QG at h;split at h
 ·exact⟨_,n1,cx e r h⟩
 ·exact h.elim
end
section
variable{X:Cx}{R:St->XK}{a b c:Expr}{ta tb:DE}{pos:Pos}
def bA(ja:JE X R a ta)(jb:JE X R b tb):JE X R (.BinOp a .Add b pos) (lT uP ta tb):=yW (P8.or (Cn.or (K2.or N8))) Y_ ja jb
def oB(ja:JE X R a ta)(jb:JE X R b tb):JE X R (.BinOp a .Sub b pos) (lT Lp ta tb):=yW PN Xg ja jb
def aI(ja:JE X R a ta)(jb:JE X R b tb):JE X R (.BinOp a .Mult b pos) (lT LD ta tb):=yW (MQ.or Jb) Xw ja jb
def eV(ja:JE X R a ta)(jb:JE X R b tb):JE X R (.BinOp a .FloorDiv b pos) (lT RD ta tb):=yW zy Xy ja jb
def CM(ja:JE X R a ta)(jb:JE X R b tb):JE X R (.BinOp a .FloorDiv b pos) (lT Fl ta tb):=yW zy VB ja jb
def bN(ja:JE X R a ta)(jb:JE X R b tb):JE X R (.BinOp a .Mod b pos) (lT RZ ta tb):=yW Q4 Yr ja jb
def gB(ja:JE X R a ta)(jb:JE X R b tb):JE X R (.BinOp a .Pow b pos) (lT P7 ta tb):=yW QF Xv ja jb
def OV(ja:JE X R a ta):JE X R (.UnaryOp .USub a pos) (Wq QG ta):=Z2 P1 YB ja
end
def UT:Dt->Dt->Ms->DQ->Prop
 | .int i,.int j,M,q=>q (.bl (decide (i < j))) M
 | _,_,_,_=>False
def V9:Dt->Dt->Ms->DQ->Prop
 | .int i,.int j,M,q=>q (.bl (decide (i<=j))) M
 | _,_,_,_=>False
def YL:Dt->Dt->Ms->DQ->Prop
 | .int i,.int j,M,q=>q (.bl (decide (j < i))) M
 | _,_,_,_=>False
def Wt:Dt->Dt->Ms->DQ->Prop
 | .int i,.int j,M,q=>q (.bl (decide (j<=i))) M
 | _,_,_,_=>False
def E_:Dt->Option V
 | .bU=>some .bU
 | .bl b=>some (.bl b)
 | .int i=>some (.int i)
 | .str x=>some (.str x)
 | _=>none
def iq:List Dt->Option (List V)
 | []=>some []
 | d::ds=>match E_ d,iq ds with
  | some v,some vs=>some (v::vs)
  | _,_=>none
section
variable{K:fI}{G:Hp}{L:List Addr}
def sH{d:Dt}{v u:V}(h:E_ d=some u)(n:Den K G L d v):v=u/\gD u=true:=by cases d <;> first| (cases h;exact⟨n,rfl⟩)| cases h
def fD:∀{ds:List Dt} {vs us:List V},iq ds=some us->Ω K G L ds vs->vs=us/\us.all gD=true
 | [],vs,us,h,n=>by cases h;exact⟨n,rfl⟩
 | d::ds,_,us,h,⟨v,r,e,n1,n2⟩=>by
  subst e;unfold iq at h;split at h
  ·rename_i u1 u2 h1 h2;cases h;have⟨a1,a2⟩:=sH h1 n1;have⟨b1,b2⟩:=fD h2 n2;subst a1 b1;exact⟨rfl,by rw[ab6,a2,b2];rfl⟩
  ·cases h
end
def zJ:Dt->Dt->Ms->DQ->Prop
 | .int i,.int j,M,q=>q (.bl (decide (i=j))) M
 | .str i,.str j,M,q=>q (.bl (decide (i=j))) M
 | .bl i,.bl j,M,q=>q (.bl (decide (i=j))) M
 | .tup a,.tup b,M,q=>match iq a,iq b with
  | some us,some vs=>q (.bl (pS us vs)) M
  | _,_=>False
 | _,_,_,_=>False
def PH:Dt->Dt->Ms->DQ->Prop
 | .int i,.int j,M,q=>q (.bl (!decide (i=j))) M
 | .str i,.str j,M,q=>q (.bl (!decide (i=j))) M
 | .bl i,.bl j,M,q=>q (.bl (!decide (i=j))) M
 | .tup a,.tup b,M,q=>match iq a,iq b with
  | some us,some vs=>q (.bl (!pS us vs)) M
  | _,_=>False
 | _,_,_,_=>False
def QJ:Dt->Dt->Ms->DQ->Prop
 | .bU,.bU,M,q=>q (.bl true) M
 | .bl _,.bU,M,q=>q (.bl false) M
 | .int _,.bU,M,q=>q (.bl false) M
 | .str _,.bU,M,q=>q (.bl false) M
 | .tup _,.bU,M,q=>q (.bl false) M
 | .lst _,.bU,M,q=>q (.bl false) M
 | _,_,_,_=>False
section
variable{K:fI}
def ltD:qy K (HE λi j=>.bl (decide (i < j))) UT:=by
 intro G0 L0 H0 G L M H v1 v2 d1 d2 q e r n1 n2 h;unfold UT at h;split at h
 ·exact⟨_,_,n1,n2,cx e r h⟩
 ·exact h.elim
def leD:qy K (HE λi j=>.bl (decide (i<=j))) V9:=by
 intro G0 L0 H0 G L M H v1 v2 d1 d2 q e r n1 n2 h;unfold V9 at h;split at h
 ·exact⟨_,_,n1,n2,cx e r h⟩
 ·exact h.elim
def gtD:qy K (HE λi j=>.bl (decide (j < i))) YL:=by
 intro G0 L0 H0 G L M H v1 v2 d1 d2 q e r n1 n2 h;unfold YL at h;split at h
 ·exact⟨_,_,n1,n2,cx e r h⟩
 ·exact h.elim
def geD:qy K (HE λi j=>.bl (decide (j<=i))) Wt:=by
 intro G0 L0 H0 G L M H v1 v2 d1 d2 q e r n1 n2 h;unfold Wt at h;split at h
 ·exact⟨_,_,n1,n2,cx e r h⟩
 ·exact h.elim
def lW{p q:Prop} [Decidable p] [Decidable q](h:p↔q):decide p=decide q:=decide_eq_decide.mpr h
def Vz:qy K (λx y H Q=>rEq x y H Q\/SJ K x y H Q) zJ:=by
 intro G0 L0 H0 G L M H v1 v2 d1 d2 q e r n1 n2 h;unfold zJ at h;split at h
 ·rename_i i j;cases n1;cases n2;exact .inl ⟨rfl,fin_same (d:=.bl _) e r (by show V.bl _=V.bl _;rw[lW (p:=V.int i=V.int j) (q:=i=j) ⟨λz=>V.int.inj z,λz=>by rw[z]⟩]) h⟩
 ·rename_i i j;cases n1;cases n2;exact .inl ⟨rfl,fin_same (d:=.bl _) e r (by show V.bl _=V.bl _;rw[lW (p:=V.str i=V.str j) (q:=i=j) ⟨λz=>V.str.inj z,λz=>by rw[z]⟩]) h⟩
 ·rename_i i j;cases n1;cases n2;exact .inl ⟨rfl,fin_same (d:=.bl _) e r (by show V.bl _=V.bl _;rw[lW (p:=V.bl i=V.bl j) (q:=i=j) ⟨λz=>V.bl.inj z,λz=>by rw[z]⟩]) h⟩
 ·rename_i a b;have⟨p1,w1,rfl,e1,m1⟩:=n1;have⟨p2,w2,rfl,e2,m2⟩:=n2;split at h
  ·rename_i us vs h1 h2;have⟨rfl,a2⟩:=fD h1 m1;have⟨rfl,b2⟩:=fD h2 m2;exact .inr ⟨p1,p2,_,_,rfl,rfl,.inl (.inl (r.sub _ _ e1)),.inl (.inl (r.sub _ _ e2)),a2,b2,cx e r h⟩
  ·exact h.elim
 ·exact h.elim
def YK:qy K (λx y H Q=>rNe x y H Q\/UZ K x y H Q) PH:=by
 intro G0 L0 H0 G L M H v1 v2 d1 d2 q e r n1 n2 h;unfold PH at h;split at h
 ·rename_i i j;cases n1;cases n2;exact .inl ⟨rfl,fin_same (d:=.bl _) e r (by show V.bl _=V.bl _;rw[lW (p:=V.int i=V.int j) (q:=i=j) ⟨λz=>V.int.inj z,λz=>by rw[z]⟩]) h⟩
 ·rename_i i j;cases n1;cases n2;exact .inl ⟨rfl,fin_same (d:=.bl _) e r (by show V.bl _=V.bl _;rw[lW (p:=V.str i=V.str j) (q:=i=j) ⟨λz=>V.str.inj z,λz=>by rw[z]⟩]) h⟩
 ·rename_i i j;cases n1;cases n2;exact .inl ⟨rfl,fin_same (d:=.bl _) e r (by show V.bl _=V.bl _;rw[lW (p:=V.bl i=V.bl j) (q:=i=j) ⟨λz=>V.bl.inj z,λz=>by rw[z]⟩]) h⟩
 ·rename_i a b;have⟨p1,w1,rfl,e1,m1⟩:=n1;have⟨p2,w2,rfl,e2,m2⟩:=n2;split at h
  ·rename_i us vs h1 h2;have⟨rfl,a2⟩:=fD h1 m1;have⟨rfl,b2⟩:=fD h2 m2;exact .inr ⟨p1,p2,_,_,rfl,rfl,.inl (.inl (r.sub _ _ e1)),.inl (.inl (r.sub _ _ e2)),a2,b2,cx e r h⟩
  ·exact h.elim
 ·exact h.elim
def WB:qy K (λx y H Q=>y= .bU/\Q (.bl (decide (x= .bU))) H) QJ:=by
 intro G0 L0 H0 G L M H v1 v2 d1 d2 q e r n1 n2 h;unfold QJ at h;split at h
 ·cases n1;exact⟨n2,fin_same (d:=.bl true) e r (by show V.bl _=V.bl _;rw[aaI rfl]) h⟩
 ·cases n1;exact⟨n2,fin_same (d:=.bl false) e r (by show V.bl _=V.bl _;rw[aaG nofun]) h⟩
 ·cases n1;exact⟨n2,fin_same (d:=.bl false) e r (by show V.bl _=V.bl _;rw[aaG nofun]) h⟩
 ·cases n1;exact⟨n2,fin_same (d:=.bl false) e r (by show V.bl _=V.bl _;rw[aaG nofun]) h⟩
 ·have⟨p1,w1,rfl,_⟩:=n1;exact⟨n2,fin_same (d:=.bl false) e r (by show V.bl _=V.bl _;rw[aaG nofun]) h⟩
 ·have⟨p1,w1,rfl,_⟩:=n1;exact⟨n2,fin_same (d:=.bl false) e r (by show V.bl _=V.bl _;rw[aaG nofun]) h⟩
 ·exact h.elim
end
section
variable{X:Cx}{R:St->XK}{a b c:Expr}{ta tb:DE}{pos:Pos}
def BV(ja:JE X R a ta)(jb:JE X R b tb):JE X R (.Compare a [.Lt] [b] pos) (lT UT ta tb):=A8 OH ltD ja jb (ie _)
def AN(ja:JE X R a ta)(jb:JE X R b tb):JE X R (.Compare a [.LtE] [b] pos) (lT V9 ta tb):=A8 Ox leD ja jb (ie _)
def WM(ja:JE X R a ta)(jb:JE X R b tb):JE X R (.Compare a [.GtE] [b] pos) (lT Wt ta tb):=A8 OY geD ja jb (ie _)
def S4{k:Nat}(hr:cF k X.A)(ja:JE X R a ta)(jb:JE X R b tb):JE X R (.Compare a [.Eq] [b] pos) (lT zJ ta tb):=A8 (OK.or (Ld hr.C8)) Vz ja jb (ie _)
def vV(ja:JE X R a ta)(jb:JE X R b tb):JT X R (.Compare a [.Lt] [b] pos) (nO (lT UT ta tb)):=iK OH ltD ja jb (ie _)
def SR(ja:JE X R a ta)(jb:JE X R b tb):JT X R (.Compare a [.LtE] [b] pos) (nO (lT V9 ta tb)):=iK Ox leD ja jb (ie _)
def Ft(ja:JE X R a ta)(jb:JE X R b tb):JT X R (.Compare a [.Gt] [b] pos) (nO (lT YL ta tb)):=iK S6 gtD ja jb (ie _)
def SI(ja:JE X R a ta)(jb:JE X R b tb):JT X R (.Compare a [.GtE] [b] pos) (nO (lT Wt ta tb)):=iK OY geD ja jb (ie _)
def cD{k:Nat}(hr:cF k X.A)(ja:JE X R a ta)(jb:JE X R b tb):JT X R (.Compare a [.Eq] [b] pos) (nO (lT zJ ta tb)):=iK (OK.or (Ld hr.C8)) Vz ja jb (ie _)
def tQ{k:Nat}(hr:cF k X.A)(ja:JE X R a ta)(jb:JE X R b tb):JT X R (.Compare a [.NotEq] [b] pos) (nO (lT PH ta tb)):=iK (Tt.or (Ql hr.C8)) YK ja jb (ie _)
def KA(ja:JE X R a ta)(jb:JE X R b tb):JT X R (.Compare a [.Is] [b] pos) (nO (lT QJ ta tb)):=iK RR WB ja jb (ie _)
end
def mf(M:Ms):Dt->Option (List Dt)
 | .lst xs=>some xs
 | .tup xs=>some xs
 | .ir ns=>some (ns.map .int)
 | .kt xs=>some xs
 | .loc k=>match M[k]? with
  | some (.lst xs)=>some xs
  | _=>none
 | _=>none
def oE{K:fI}{G:Hp}{L:List Addr}{M:Ms}{H:Hp}{d:Dt}{v:V}{xs:List Dt}(r:Rl K G L M H)(n:Den K G L d v)(h:mf M d=some xs):∃a vs,v= .ref a/\(iS K H a vs\/oS K H a vs)/\Ω K G L xs vs:=by
 cases d with
 | lst ds=>cases h;have⟨a,vs,rfl,e,m⟩:=n;exact⟨a,vs,rfl,.inl (.of (r.sub _ _ e)),m⟩
 | tup ds=>cases h;have⟨a,vs,rfl,e,m⟩:=n;exact⟨a,vs,rfl,.inr (.of (r.sub _ _ e)),m⟩
 | kt ds=>cases h;have⟨a,vs,rfl,e,m⟩:=n;exact⟨a,vs,rfl,.inr (r.sub.TL e),m⟩
 | ir ns=>cases h;have⟨a,rfl,e⟩:=n;exact⟨a,_,rfl,.inl (r.sub.seq e),iW⟩
 | loc k=>
  have⟨a,rfl,e⟩:=n;have h:(match M[k]? with| some (.lst xs)=>some xs| _=>none)=some xs:=h;split at h
  ·rename_i ys hm;cases h;have⟨_,vs,e1,m1⟩:=r.hI k a _ e hm;exact⟨a,vs,rfl,.inl (.of e1),m1⟩
  ·cases h
 | _=>cases h
def MB{K:fI}{G:Hp}{L:List Addr}{ds:List Dt}{vs:List V}{i:Int}{d:Dt}(n:Ω K G L ds vs)(h:nY ds i=some d):∃v,nY vs i=some v/\Den K G L d v:=by
 unfold nY at h⊢;rw[<-n.length];cases q:KZ ds.length i with
 | none=>rw[q]at h;cases h
 | some j=>
  rw[q]at h;have⟨v,e,m⟩:=n.get h;exact⟨v,e,m⟩
def cI:Dt->Dt->Ms->DQ->Prop
 | .str z,.int i,M,q=>z.length<=sizeLine/\match nY z.cps.toList i with
  | some c=>q (.str ⟨#[c]⟩) M
  | none=>False
 | d,.int i,M,q=>match mf M d with
  | some xs=>(match nY xs i with
   | some y=>q y M
   | none=>False)
  | none=>False
 | _,_,_,_=>False
def iL:List Dt->Ms->DQ->Prop
 | [.str z],M,q=>z.length<=sizeLine/\q (.int z.length) M
 | [d],M,q=>match mf M d with
  | some xs=>q (.int xs.length) M
  | none=>False
 | _,_,_=>False
section
variable{K:fI}
def ixD:qy K (rIx K) cI:=by
 intro G0 L0 H0 G L M H v1 v2 d1 d2 q e r n1 n2 h;unfold cI at h;split at h
 ·rename_i z i;split at h
  ·rename_i c hc;exact .inr (.inr ⟨z,i,c,n1,n2,h.1,hc,cx e r h.2⟩)
  ·exact h.2.elim
 ·rename_i d i _;split at h
  ·rename_i xs hx;split at h
   ·rename_i y hy;have⟨a,vs,rfl,hs,m⟩:=oE r n1 hx;have⟨v,e1,m1⟩:=MB m hy;rcases hs with hs| hs
    ·exact .inl ⟨a,vs,i,v,rfl,n2,hs,e1,fin_same e r m1 h⟩
    ·exact .inr (.inl ⟨a,vs,i,v,rfl,n2,hs,e1,fin_same e r m1 h⟩)
   ·exact h.elim
  ·exact h.elim
 ·exact h.elim
def YO:GQ K (λxs H Q=>(∃z,xs=[V.str z]/\z.length<=sizeLine/\Q (.int z.length) H)\/(∃p ys,xs=[V.ref p]/\(iS K H p ys\/oS K H p ys)/\Q (.int ys.length) H)) iL:=by
 intro G0 L0 H0 G L M H vs ds q e r n h;unfold iL at h;split at h
 ·rename_i z;have⟨v,rfl,n1⟩:=bH n;cases n1;exact .inl ⟨z,rfl,h.1,cx e r h.2⟩
 ·rename_i d _;have⟨v,rfl,n1⟩:=bH n;split at h
  ·rename_i xs hx;have⟨a,ws,rfl,hs,m⟩:=oE r n1 hx;exact .inr ⟨a,ws,rfl,hs,fin_same (d:=.int xs.length) e r (by show V.int _=V.int _;rw[m.length]) h⟩
  ·exact h.elim
 ·exact h.elim
end
section
variable{X:Cx}{R:St->XK}{a b c:Expr}{ta tb:DE}{pos:Pos}
def Ι(ja:JE X R a ta)(jb:JE X R b tb)(hs:xc b:=by exactλ_ _=>rfl):JE X R (.Subscript a b pos) (lT cI ta tb):=U6 PJ ixD ja jb hs
variable{x:Str}{p:Pos}{e:Expr}{es:List Expr}{t:DA}{id T:String}{r:List V->Hp->VK->Prop}{f:List Dt->Ms->DQ->Prop}
def jH(hc:eY X (.builtin id) r)(cd:GQ X.K r f)(hm:X.mg x=none)(hv:bootBuiltins x=some (.builtin id))(ha:JA X R (e::es) t)(hg:Gl X x:=by rfl)(hn:x≠"__name__":=by decide)(u9:(x==("__debug__":Str))=false:=by decide)
  (he:starEach (e::es) X.env=(false,eval e X.env)::starEach es X.env:=by rfl) (hU:(backTo pos (starEach es X.env)).any (·.1)=false:=by rfl):JE X R (.Call (.Name x p) (e::es) [] pos) (D3 f t):=
 .of (KR hc hg hm hv ha hn u9 he hU) λσ H G L ρ M q x r n h hx=>Pa cd r n h hx
def sZ(hc:eY X (.type T) r)(cd:GQ X.K r f)(hm:X.mg x=none)(hv:bootBuiltins x=some (.type T))(ha:JA X R (e::es) t)(hg:Gl X x:=by rfl)(hn:x≠"__name__":=by decide)(u9:(x==("__debug__":Str))=false:=by decide)
  (he:starEach (e::es) X.env=(false,eval e X.env)::starEach es X.env:=by rfl) (hU:(backTo pos (starEach es X.env)).any (·.1)=false:=by rfl):JE X R (.Call (.Name x p) (e::es) [] pos) (D3 f t):=
 .of (HN hc hg hm hv ha hn u9 he hU) λσ H G L ρ M q x r n h hx=>Pa cd r n h hx
def dU(hm:X.mg "len"=none)(ha:JA X R [e] t)(he:starEach [e] X.env=(false,eval e X.env)::starEach [] X.env:=by rfl)(hU:(backTo pos (starEach [] X.env)).any (·.1)=false:=by rfl)(hg:Gl X "len":=by rfl):JE X R (.Call (.Name "len" p) [e] [] pos) (D3 iL t):=
 jH (wI.or w8) YO hm PySem.boot_len ha hg @_ @_ he hU
end
section
variable{X:Cx}
def x9:eY X (.type "int") (λxs H Q=>∃x n,xs=[.str x]/\PySem.intText? x=some n/\x.length<=640/\Q (.int n) H):=by intro ζ s σ H xs us Q I rs h;have⟨x,n,rfl,hn,hl,q⟩:=h;have⟨w,rfl,u,rfl⟩:=lN rs;exact PySem.W.KIN.call_text hn hl ⟨.int n,H,I.tok _,⟨_,rfl⟩,q⟩
end
def Mf:List Dt->Ms->DQ->Prop
 | [.int i],M,q=>q (.int i) M
 | [.bl b],M,q=>q (.int (if b then 1 else 0)) M
 | [.str x],M,q=>x.length<=640/\match PySem.intText? x with
  | some n=>q (.int n) M
  | none=>False
 | _,_,_=>False
def PR:List Dt->Ms->DQ->Prop
 | [.int i],M,q=>q (.int (if i < 0 then -i else i)) M
 | _,_,_=>False
def Rx:List Dt->Ms->DQ->Prop
 | [.int i,.int j],M,q=>q (.int (if j < i then j else i)) M
 | _,_,_=>False
def Qn:List Dt->Ms->DQ->Prop
 | [d],M,q=>∃bs:List Bool,mf M d=some (bs.map Dt.bl)/\(∀k,d≠ .kt k)/\(∀k,d≠ .tup k)/\q (.bl (bs.any id)) M
 | _,_,_=>False
section
variable{K:fI}
def wx{G:Hp}{L:List Addr}:∀{l:List Str},Ω K G L (l.map Dt.str) (l.map V.str)
 | []=>rfl
 | _::_=>⟨_,_,rfl,rfl,wx⟩
def ot{G:Hp}{L:List Addr}:∀{bs:List Bool} {vs:List V},Ω K G L (bs.map Dt.bl) vs->vs=bs.map V.bl
 | [],_,h=>h
 | b::bs,_,⟨v,r,e,h1,h2⟩=>by subst e;rw[ot h2,show v=V.bl b from h1];rfl
def Z8:GQ K (λxs H Q=>((∃i,xs=[V.int i]/\Q (.int i) H)\/∃k,xs=[V.bl k]/\Q (.int (if k then 1 else 0)) H)\/∃x n,xs=[V.str x]/\PySem.intText? x=some n/\x.length<=640/\Q (.int n) H) Mf:=by
 intro G0 L0 H0 G L M H vs ds q e r n h;unfold Mf at h;split at h
 ·rename_i i;have⟨v,rfl,n1⟩:=bH n;cases n1;exact .inl (.inl ⟨i,rfl,cx e r h⟩)
 ·rename_i i;have⟨v,rfl,n1⟩:=bH n;cases n1;exact .inl (.inr ⟨i,rfl,cx e r h⟩)
 ·rename_i x;have⟨v,rfl,n1⟩:=bH n;cases n1;split at h
  ·rename_i m hm;exact .inr ⟨x,m,rfl,hm,h.1,cx e r h.2⟩
  ·exact h.2.elim
 ·exact h.elim
def Xb:GQ K (λxs H Q=>∃i,xs=[V.int i]/\Q (.int (if i < 0 then -i else i)) H) PR:=by
 intro G0 L0 H0 G L M H vs ds q e r n h;unfold PR at h;split at h
 ·rename_i i;have⟨v,rfl,n1⟩:=bH n;cases n1;exact⟨i,rfl,cx e r h⟩
 ·exact h.elim
def Z9:GQ K (λxs H Q=>∃i j,xs=[V.int i,.int j]/\Q (.int (if j < i then j else i)) H) Rx:=by
 intro G0 L0 H0 G L M H vs ds q e r n h;unfold Rx at h;split at h
 ·rename_i i j;have⟨v,u,rfl,n1,n2⟩:=gY n;cases n1;cases n2;exact⟨i,j,rfl,cx e r h⟩
 ·exact h.elim
def ZT:GQ K (U4 K) Qn:=by
 intro G0 L0 H0 G L M H vs ds q e r n h;unfold Qn at h;split at h
 ·rename_i d;have⟨bs,hs,nk,nt,h⟩:=h;have⟨v,rfl,n1⟩:=bH n;cases d with
  | lst xs=>
   cases hs;have⟨a,ws,rfl,e1,m⟩:=n1;exact⟨a,bs,rfl,by rw[<-ot m];exact .of (r.sub _ _ e1),cx e r h⟩
  | loc k=>
   have⟨a,rfl,e1⟩:=n1;have hs:(match M[k]? with| some (.lst xs)=>some xs| _=>none)=some (bs.map Dt.bl):=hs;split at hs
   ·rename_i ys hm;cases hs;have⟨_,ws,e2,m⟩:=r.hI k a _ e1 hm;exact⟨a,bs,rfl,by rw[<-ot m];exact .of e2,cx e r h⟩
   ·cases hs
  | tup xs=>exact aaP rfl (nt xs)
  | kt xs=>exact aaP rfl (nk xs)
  | ir ns=>
   have e0:ns.map Dt.int=bs.map Dt.bl:=aaJ hs;cases ns with
   | nil=>
    cases bs with
    | nil=>have⟨a,rfl,e1⟩:=n1;exact⟨a,[],rfl,r.sub.seq e1,cx e r h⟩
    | cons _ _=>cases e0
   | cons _ _=>
    cases bs with
    | nil=>cases e0
    | cons _ _=>cases e0
  | _=>cases hs
 ·exact h.elim
end
section
variable{X:Cx}{R:St->XK}{o a e e1 e2:Expr}{es:List Expr}{to ta te:DE}{t:DA}{name:Str}{apos dj pos p p2:Pos}{T id:String}
def FI:bootBuiltins "int"=some (.type "int"):=by decide+kernel
def Gx:bootBuiltins "abs"=some (.builtin "abs"):=by decide+kernel
def Hr:bootBuiltins "any"=some (.builtin "any"):=by decide+kernel
def HC:bootBuiltins "min"=some (.builtin "min"):=by decide+kernel
def CB:bootBuiltins "list"=some (.type "list"):=by decide+kernel
def rX{x:Str}{z:Int}(hm:∃tk,X.mg x=some (.int z tk))(hg:Gl X x:=by rfl)(hd:(x==("__debug__":Str))=false:=by decide):JE X R (.Name x p) (dC (.int z)):=let ⟨tk,hm⟩:=hm;Sl (Fs (v:=.int z) hg hm ⟨tk,rfl⟩ hd) λ_ _=>rfl
end
def VZ(x:Str):It:=⟨λi _=>i < x.cps.size,λi H v H'=>H'=H/\∃c,x.cps[i]? =some c/\v= .str ⟨#[c]⟩,λi _=>x.cps.size<=i⟩
def Ga{P:Program}{w:World}{K:fI}{tg:Expr}(x:Str)(t:Tok)(it:Addr):Turn P w K tg (VZ x) [it] it (λi h=>h.IsStrIter it "str_ascii_iterator" x t i) where
 mem:=by simp
 obj:=λi h st b hb=>by
  have e:b=it:=by simpa using hb
  subst e;have⟨o,e,c,d⟩:=st;exact⟨o,e,λv z=>by rw[d]at z;cases z⟩
 keep:=λi h h' st k=>let ⟨o,ho,r⟩:=st;⟨o,k it (by simp) o ho,r⟩
 item:=by intro X hP hw hK hc i ζ s σ H E I hf st hg;subst hP hw hK;have⟨f0,f1,f2,f3,f4,f5⟩:=hf it (by simp);have hg:i < x.cps.size:=hg;refine wpAny_pyNext_ascii_item st (c:=x.cps[i]) (by simp[hg]) λh' xM sb=>?_;have I1:Inv X ζ σ H {s with heap:=h',toks:=s.toks+1}:=I.turned (λb o hb e=>(sb.2 b hb).trans e) f0 f1 f3 f4 f5;have⟨o,e,c,d⟩:=id xM;exact⟨_,rfl,vF (s:={s with heap:=h',toks:=s.toks+1}) e c d @_ ⟨.str ⟨#[x.cps[i]]⟩,H,I1,⟨_,rfl⟩,⟨rfl,_,by simp[hg],rfl⟩,xM,λb hb=>(hf b hb).1⟩⟩
 done:=by intro X hP hw hK hc i ζ s σ H E I hf st hg;subst hP hw hK;have⟨f0,f1,f2,f3,f4,f5⟩:=hf it (by simp);have hg:x.cps.size<=i:=hg;exact wpAny_pyNext_ascii_end (I.ok.hd hc) st (by simp;omega) λh' eb=>⟨rfl,I.turned (t':=s.toks) (λb o hb e=>eb b o hb e) f0 f1 f3 f4 f5⟩
 self:=λ_ _ _ _ _ st h=>wpAny_pyIter_striter_ascii st h
def Hj{P:Program}{w:World}{K:fI}{tg:Expr}(x:Str)(t:Tok)(it:Addr):Turn P w K tg (VZ x) [it] it (λi h=>h.IsStrIter it "str_iterator" x t i) where
 mem:=by simp
 obj:=λi h st b hb=>by
  have e:b=it:=by simpa using hb
  subst e;have⟨o,e,c,d⟩:=st;exact⟨o,e,λv z=>by rw[d]at z;cases z⟩
 keep:=λi h h' st k=>let ⟨o,ho,r⟩:=st;⟨o,k it (by simp) o ho,r⟩
 item:=by intro X hP hw hK hc i ζ s σ H E I hf st hg;subst hP hw hK;have⟨f0,f1,f2,f3,f4,f5⟩:=hf it (by simp);have hg:i < x.cps.size:=hg;refine wpAny_pyNext_wide_item st (c:=x.cps[i]) (by simp[hg]) λh' xM sb=>?_;have I1:Inv X ζ σ H {s with heap:=h',toks:=s.toks+1}:=I.turned (λb o hb e=>(sb.2 b hb).trans e) f0 f1 f3 f4 f5;have⟨o,e,c,d⟩:=id xM;exact⟨_,rfl,vF (s:={s with heap:=h',toks:=s.toks+1}) e c d @_ ⟨.str ⟨#[x.cps[i]]⟩,H,I1,⟨_,rfl⟩,⟨rfl,_,by simp[hg],rfl⟩,xM,λb hb=>(hf b hb).1⟩⟩
 done:=by intro X hP hw hK hc i ζ s σ H E I hf st hg;subst hP hw hK;have⟨f0,f1,f2,f3,f4,f5⟩:=hf it (by simp);have hg:x.cps.size<=i:=hg;exact wpAny_pyNext_wide_end (I.ok.hd hc) st (by simp;omega) λh' eb=>⟨rfl,I.turned (t':=s.toks) (λb o hb e=>eb b o hb e) f0 f1 f3 f4 f5⟩
 self:=λ_ _ _ _ _ st h=>wpAny_pyIter_striter_wide st h
def yS(z:Str):List Dt:=z.cps.toList.map λc=>Dt.str ⟨#[c]⟩
def QT{K:fI}{G:Hp}{L:List Addr}{z:Str}:Yl K (VZ z) (yS z) G L where
 go :=λi G1 L1 M1 H1 d g l r e=>by
  unfold yS at e;rw[aar]at e;cases q:z.cps.toList[i]? with
  | none=>rw[q]at e;cases e
  | some c=>
   rw[q]at e;cases e;have hi:i < z.cps.size:=by have:=(aaf.mp q).1;simpa using this
   refine⟨hi,λv' H' xz=>?_⟩;have⟨eH,c',e',y⟩:=xz;subst eH y;have:c'=c:=by rw[<-Array.getElem?_toList,q]at e';exact(aaJ e').symm
   subst this;exact⟨G1,.refl _ _ _,r,rfl⟩
 stop:=λi G1 L1 M1 H1 g l r e=>by unfold yS at e;show z.cps.size<=i;simpa using e
def VF(M:Ms):Dt->Option (List Dt)
 | .lst xs=>some xs
 | .tup xs=>some xs
 | .ir ns=>some (ns.map .int)
 | .kt xs=>some xs
 | .str z=>some (yS z)
 | _=>none
section
variable{X:Cx}{R:St->XK}{tg e:Expr}{te:DE}
def x4{ζ:List (Addr×Obj)}{σ:St}{H:Hp}{s:Shared}{a:Addr}{vs:List V}{Q:It->Hp->Prop}{E:Value->Shared->Prop}(I:Inv X ζ σ H s)(hq:iS X.K H a vs)(q:Q (V8 X.K a) H):wpAny (model X.prog X.w) X.A (pyIter (.ref a)) (LW X ζ σ tg Q) E s:=by
 have⟨its,rv,p,hz⟩:=I.list hq;refine wpAny_pyIter_list p.isList ?_;refine⟨s.heap.objs.size,[s.heap.objs.size],_,_,H,rfl,I.kept (t':=s.toks) λb o e=>aal _ e,Gy a _,⟨_,aaS _ rfl,rfl,rfl⟩,λb hb=>?_,q⟩;have e:b=s.heap.objs.size:=by simpa using hb
 subst e;exact I.DL (aaj _) (I.bc.fresh (aaj _))
def IS{ζ:List (Addr×Obj)}{σ:St}{H:Hp}{s:Shared}{a:Addr}{vs:List V}{Q:It->Hp->Prop}{E:Value->Shared->Prop}(I:Inv X ζ σ H s)(hq:oS X.K H a vs)(q:Q (W9 X.K a) H):wpAny (model X.prog X.w) X.A (pyIter (.ref a)) (LW X ζ σ tg Q) E s:=by
 have⟨its,rv,p,hz⟩:=I.tuple hq;refine wpAny_pyIter_tuple (show s.heap.IsTuple a its.toArray from p) ?_;refine⟨s.heap.objs.size,[s.heap.objs.size],_,_,H,rfl,I.kept (t':=s.toks) λb o e=>aal _ e,Dq a _,⟨_,aaS _ rfl,rfl,rfl⟩,λb hb=>?_,q⟩;have e:b=s.heap.objs.size:=by simpa using hb
 subst e;exact I.DL (aaj _) (I.bc.fresh (aaj _))
def Qe{ζ:List (Addr×Obj)}{σ:St}{H:Hp}{s:Shared}{z:Str}{t:Tok}{Q:It->Hp->Prop}{E:Value->Shared->Prop}(I:Inv X ζ σ H s)(q:Q (VZ z) H):wpAny (model X.prog X.w) X.A (pyIter (.str z t)) (LW X ζ σ tg Q) E s:=by
 have fp:∀b∈[s.heap.objs.size],sQ X ζ H b:=λb hb=>by
  have e:b=s.heap.objs.size:=by simpa using hb
  subst e;exact I.DL (aaj _) (I.bc.fresh (aaj _))
 cases ha:z.cps.all (· < 128)
 ·exact wpAny_pyIter_wide ha ⟨s.heap.objs.size,[s.heap.objs.size],_,_,H,rfl,I.kept (t':=s.toks) λb o e=>aal _ e,Hj z t _,⟨_,aaS _ rfl,rfl,rfl⟩,fp,q⟩
 ·exact wpAny_pyIter_ascii ha ⟨s.heap.objs.size,[s.heap.objs.size],_,_,H,rfl,I.kept (t':=s.toks) λb o e=>aal _ e,Ga z t _,⟨_,aaS _ rfl,rfl,rfl⟩,fp,q⟩
end
def QV:DF:=λds _ q _=>∃ns:List Int,ds=[.ir ns]/\ns.length<=63/\∀M',q (.bl true) M'
def AS(K:fI):Sp:=λvs H Q _=>∃(a:Addr) (ns:List Int),vs=[.ref a]/\iS K H a (ns.map V.int)/\ns.length<=63/\∀H',Q (.bl true) H'
def Qw{P:Program}{w:World}{K:fI}{mg:Str->Option Value}{base:Heap}{k:Nat}{f:Addr}{fd:FuncData}{x:Str}(F:aw P w K mg base (cw P w) k f fd [x] (c7 K QV)):aw P w K mg base VJ k f fd [x] (AS K):=by
 have sp:∀vs H Q E,AS K vs H Q E->c7 K QV vs H Q E0:=by rintro vs H Q E ⟨a,ns,rfl,hS,hl,hQ⟩;refine⟨H,[],[.ir ns],[],λd _=>d= .bl true,λ_ _ _=>False,⟨.refl _,rfl,List.nodup_nil,λk a m h=>by simp at h⟩,⟨_,_,rfl,⟨a,rfl,hS⟩,rfl⟩,⟨ns,rfl,hl,λ_=>rfl⟩,fun v H' ⟨d,G',L',M',_,_,n,e⟩=>?_,λ_ _ _ _ _ _ _ h=>h.elim⟩;subst e;rw[show v=V.bl true from n];exact hQ H'
 refine⟨λvs H Q E h=>F.len vs H Q E0 (sp vs H Q E h),λA outer s H args us vs Q E hr he hb hv h=>codeAny_mono (F.run A outer s H args us vs Q E0 hr he hb hv (sp vs H Q E h)) λr s' hq=>?_⟩;cases r with
 | error e=>
  have⟨_,_,_,_,_,_,_,_,hE⟩:=hq;exact hE.elim
 | ok fl=>cases fl <;> exact hq
def Ry(c:DT)(tb:DS):DS:=λDn ρ M=>∃W:Nat->En->Ms->Prop,(∃m,W m ρ M)/\∀m ρ M,W m ρ M->
 c ρ M (λb M1=>(b=true->∃N:En->Ms->Prop,(∀ρ' M',N ρ' M'->∃m',m' < m/\W m' ρ' M')/\tb {Dn with nx:=N,ct:=N,bk:=Dn.nx} ρ M1)/\(b=false->Dn.nx ρ M1)) Dn.x
def ZI(i j:Nat)(t:DA):DS:=λDn ρ M=>t ρ M (λds M1=>match ds with
 | [a,b]=>Dn.nx ((ρ.set i (some a)).set j (some b)) M1
 | _=>False) Dn.x
section
variable{X:Cx}{R:St->XK}{c a b:Expr}{body:List Stmt}{tc:DT}{tb:DS}{pos:Pos}
def kS(hc:JT X R c tc)(hb:CC X R body tb)(hp:PassesOwn (model X.prog X.w) X.A X.env X.xe:=by first| exact PassesOwn.never| exact PassesOwn.leaving):JS X R (.While c body [] pos) (Ry tc tb):=.of (KH hp hc hb) λσ H G L ρ M Dn rl n h hx=>by
 have⟨W,⟨m0,w0⟩,turn⟩:=h;refine⟨λm σ' H'=>fk X.K G L H (W m) σ' H',⟨m0,ρ,G,L,M,.refl _ _ _,rl,n,w0⟩,λm σ' H' xz=>?_⟩;have⟨ρ',G',L',M',e',r',n',w'⟩:=xz;refine⟨G',L',ρ',M',_,_,r',n',turn m ρ' M' w',hx.on e',λv H1 xz=>?_⟩;have⟨G1,L1,M1,e1,r1,h1⟩:=xz;cases v with
 | true=>
  have⟨N,hN,hb⟩:=h1.1 rfl;refine DR ⟨fk X.K G L H N,fun σ2 H2 ⟨ρ2,G2,L2,M2,e2,r2,n2,h2⟩=>?_,?_⟩
  ·have⟨m',hm,w2⟩:=hN ρ2 M2 h2;exact⟨m',hm,ρ2,G2,L2,M2,e2,r2,n2,w2⟩
  ·have SU:=e'.trans e1;exact⟨G1,L1,ρ',M1,_,r1,n'.mono e1,hb,hx.on SU,⟨λ_ _ f=>fk.back SU f,λ_ _ f=>Fin.back SU f,λ_ _ f=>fk.back SU f,λ_ _ f=>fk.back SU f⟩⟩
 | false=>exact Ci ⟨ρ',G1,L1,M1,e'.trans e1,r1,n'.mono e1,h1.2 rfl⟩
def Q7{i j:Nat}{x y:Str}{t:DA}{px py pt:Pos}{kt k2 QB}(hN:X.N.Nodup)(hi:X.N[i]? =some x)(hj:X.N[j]? =some y)(ha:JA X R [a,b] t)(X0:i≠j:=by decide)
  (hx:X.env.scope.names.lookup x=some .local:=by rfl) (hy:X.env.scope.names.lookup y=some .local:=by rfl)
  (hw:swappedStores [.Tuple [.Name x px,.Name y py] kt pt] (.Tuple [a,b] k2 QB) X.env=pure (some [x,y]):=by rfl) (hc:X.calm=true:=by rfl)
  (hs:swapsWithSole [.Tuple [.Name x px,.Name y py] kt pt] (.Tuple [a,b] k2 QB) pos.line X.env=pure false:=by rfl):
  JS X R (.Assign [.Tuple [.Name x px,.Name y py] kt pt] (.Tuple [a,b] k2 QB) pos) (ZI i j t):=.of (RX hc hN hi hj X0 hx hy ha hw hs) λσ H G L ρ M Dn rl n h hx=>by
 refine⟨G,L,ρ,M,_,_,rl,n,h,hx,λvs H1 xz=>?_⟩;have⟨ds,G1,L1,M1,e1,r1,n1,h1⟩:=xz
 (try dsimp only at h1)
 split at h1
 ·have⟨v,u,rfl,m1,m2⟩:=gY n1;exact⟨v,u,rfl,_,G1,L1,M1,e1,r1,((n.mono e1).set i m1).set j m2,h1⟩
 ·exact h1.elim
end
section
variable{X:Cx}{R:St->XK}{e e2 o:Expr}{es:List Expr}{t:DA}{to ta tb:DE}{a b:Expr}{p pos apos dj:Pos}
def Es(hm:X.mg "abs"=none)(ha:JA X R [e] t)(he:starEach [e] X.env=(false,eval e X.env)::starEach [] X.env:=by rfl)(hU:(backTo pos (starEach [] X.env)).any (·.1)=false:=by rfl)(hg:Gl X "abs":=by rfl):JE X R (.Call (.Name "abs" p) [e] [] pos) (D3 PR t):=
 jH IY Xb hm Gx ha hg @_ @_ he hU
def SA(hm:X.mg "min"=none)(ha:JA X R [e,e2] t)(hc:X.calm=true:=by rfl)(he:starEach [e,e2] X.env=(false,eval e X.env)::starEach [e2] X.env:=by rfl)(hU:(backTo pos (starEach [e2] X.env)).any (·.1)=false:=by rfl)(hg:Gl X "min":=by rfl):JE X R (.Call (.Name "min" p) [e,e2] [] pos) (D3 Rx t):=
 jH (Gm hc) Z9 hm HC ha hg @_ @_ he hU
def SM(hm:X.mg "any"=none)(ha:JA X R [e] t)(hc:X.calm=true:=by rfl)(he:starEach [e] X.env=(false,eval e X.env)::starEach [] X.env:=by rfl)(hU:(backTo pos (starEach [] X.env)).any (·.1)=false:=by rfl)(hg:Gl X "any":=by rfl):JE X R (.Call (.Name "any" p) [e] [] pos) (D3 Qn t):=
 jH (IC hc) ZT hm Hr ha hg @_ @_ he hU
def T7(hm:X.mg "int"=none)(ha:JA X R [e] t)(he:starEach [e] X.env=(false,eval e X.env)::starEach [] X.env:=by rfl)(hU:(backTo pos (starEach [] X.env)).any (·.1)=false:=by rfl)(hg:Gl X "int":=by rfl):JE X R (.Call (.Name "int" p) [e] [] pos) (D3 Mf t):=
 sZ (Gk.or x9) Z8 hm FI ha hg @_ @_ he hU
end
def qi{te:DE}{cs:En}{f:Dt->Dt}{M:Ms}{k:List Dt->Ms->Prop}:∀(xs Θ:List Dt),(∀x∈xs,∀q:DQ,q (f x) M->te (some x::cs) M q l_)->k (Θ++xs.map f) M->vO te cs xs Θ M k
 | [],Θ,_,h=>by rw[List.map_nil,aa6]at h;exact h
 | x::xs,Θ,ht,h=>ht x List.mem_cons_self _ (qi xs (Θ++[f x]) (λy hy=>ht y (List.mem_cons_of_mem _ hy)) (by simpa using h))
def Η{d y:Dt}{xs:List Dt}{i:Int}{M:Ms}{q:DQ}(hs:mf M d=some xs)(h:nY xs i=some y)(k:q y M):cI d (.int i) M q:=by
 cases d with
 | str z=>cases hs
 | _=>
  unfold cI;simp only[hs,h];exact k
def aO{d:Dt}{xs:List Dt}{M:Ms}{q:DQ}(hs:mf M d=some xs)(k:q (.int xs.length) M):iL [d] M q:=by
 cases d with
 | str z=>cases hs
 | _=>
  unfold iL;simp only[hs];exact k
def bP{α:Type}{x:α}{xs:List α}:nY (x::xs) 0=some x:=ak (j:=0) rfl
def Ib(bs:List Bool):(List.range bs.length).all (λi=>bs.getD i false)=bs.all id:=by
 induction bs with
 | nil=>rfl
 | cons b bs ih=>
  rw[aau,abU,ab6,List.all_map,ab6,<-ih];rfl
def SO(K:fI):List V->Hp->VK->Prop:=λxs H Q=>∃(p:Addr) (bs:List Bool),xs=[.ref p]/\iS K H p (bs.map V.bl)/\Q (.bl (bs.all id)) H
section
variable{X:Cx}
def Kp (hc : X.calm = true) : eY X (.builtin "all") (SO X.K) :=by
  intro ζ s σ H xs us Q I r h;obtain⟨p,bs,rfl,hq,q⟩ :=h;obtain⟨u,rfl,r1⟩ :=lN r;cases r1;obtain⟨its,rv,pl,hz⟩ :=I.list hq;have Rc :=xX rv;subst Rc;refine call_all_walk (wpAny_pyIter_list pl.isList ?_);have lp : p < s.heap.objs.size :=by obtain⟨o,e,_⟩ :=pl.isList;exact aaw e
  refine⟨s.heap.objs.size,_,_,_,_,_,λi =>bs.getD i false,rfl,Walks.list (show X.A.in1.handled = none from I.ok.hd hc) s.heap.objs.size p (aaU lp) (bs.map Value.bool).toArray,⟨⟨_,aaS _ rfl,rfl,rfl⟩,pl.isList.at λo e =>aal _ e⟩,Az,λh' tk hk =>?_⟩;refine⟨.bl (bs.all id),H,I.kept λb o e =>hk b o (λz =>by have : b = s.heap.objs.size :=(by simpa using z);exact Nat.lt_irrefl _ (this ▸ Heap.lt_size e)) (Heap.get?_push_of_some _ e),?_,q⟩;rw[abn,aae,Ib];rfl
end
def Pf:List Dt->Ms->DQ->Prop
 | [.lst xs],M,q=>∃bs:List Bool,xs=bs.map Dt.bl/\q (.bl (bs.all id)) M
 | _,_,_=>False
def YX{K:fI}:GQ K (SO K) Pf:=by
 intro G0 L0 H0 G L M H vs ds q e r n h;unfold Pf at h;split at h
 ·rename_i xs;have⟨bs,rfl,h⟩:=h;have⟨v,rfl,n1⟩:=bH n;have⟨a,ws,rfl,e1,m⟩:=n1;exact⟨a,bs,rfl,by rw[<-ot m];exact .of (r.sub _ _ e1),cx e r h⟩
 ·exact h.elim
def O2(i j k:Nat)(t:DE):DS:=λDn ρ M=>t ρ M (λd M1=>match d with
 | .tup [a,b,c]=>Dn.nx (((ρ.set i (some a)).set j (some b)).set k (some c)) M1
 | _=>False) Dn.x
def OS(i j:Nat)(t:DE):DS:=λDn ρ M=>t ρ M (λd M1=>match d with
 | .tup [a,b]=>Dn.nx ((ρ.set i (some a)).set j (some b)) M1
 | _=>False) Dn.x
section
variable{X:Cx}{R:St->XK}{e o:Expr}{es:List Expr}{t:DA}{to te:DE}{p pos apos dj:Pos}
def GY:bootBuiltins "all"=some (.builtin "all"):=by decide+kernel
def U'(hm:X.mg "all"=none)(ha:JA X R [e] t)(hc:X.calm=true:=by rfl)(he:starEach [e] X.env=(false,eval e X.env)::starEach [] X.env:=by rfl)(hU:(backTo pos (starEach [] X.env)).any (·.1)=false:=by rfl)(hg:Gl X "all":=by rfl):JE X R (.Call (.Name "all" p) [e] [] pos) (D3 Pf t):=
 jH (Kp hc) YX hm GY ha hg @_ @_ he hU
variable{i j k:Nat}{tg:Expr}
def Mp(he:JE X R e te)(hg:PG X tg (GL X.K 3 (kg (gA i) (kg (gA j) (kg (gA k) Hc)))))(hs:swapsWithSole [tg] e pos.line X.env=pure false:=by rfl)(hw:swappedStores [tg] e X.env=pure none:=by rfl)
  (h1:(assignEach [tg] X.env).map (·.2)=[assign tg X.env]:=by rfl):JS X R (.Assign [tg] e pos) (O2 i j k te):=.of (Ct he hg hs hw h1) λσ H G L ρ M Dn rl n h hx=>by
 refine⟨G,L,ρ,M,_,_,rl,n,h,hx,λv H1 xz=>?_⟩;have⟨d1,G1,L1,M1,e1,r1,n1,h1⟩:=xz
 (try dsimp only at h1)
 split at h1
 ·rename_i a b c;have⟨p,vs,rfl,e,m⟩:=n1;have⟨v1,r',rfl,m1,m'⟩:=m;have⟨v2,v3,rfl,m2,m3⟩:=gY m';exact⟨p,_,rfl,.inl (.inl (r1.sub _ _ e)),rfl,v1,_,rfl,v2,_,rfl,v3,_,rfl,rfl,_,G1,L1,M1,e1,r1,(((n.mono e1).set i m1).set j m2).set k m3,h1⟩
 ·exact h1.elim
def FC(he:JE X R e te)(hg:PG X tg (GL X.K 2 (kg (gA i) (kg (gA j) Hc))))(hs:swapsWithSole [tg] e pos.line X.env=pure false:=by rfl)(hw:swappedStores [tg] e X.env=pure none:=by rfl)
  (h1:(assignEach [tg] X.env).map (·.2)=[assign tg X.env]:=by rfl):JS X R (.Assign [tg] e pos) (OS i j te):=.of (Ct he hg hs hw h1) λσ H G L ρ M Dn rl n h hx=>by
 refine⟨G,L,ρ,M,_,_,rl,n,h,hx,λv H1 xz=>?_⟩;have⟨d1,G1,L1,M1,e1,r1,n1,h1⟩:=xz
 (try dsimp only at h1)
 split at h1
 ·rename_i a b;have⟨p,vs,rfl,e,m⟩:=n1;have⟨v1,v2,rfl,m1,m2⟩:=gY m;exact⟨p,_,rfl,.inl (.inl (r1.sub _ _ e)),rfl,v1,_,rfl,v2,_,rfl,rfl,_,G1,L1,M1,e1,r1,((n.mono e1).set i m1).set j m2,h1⟩
 ·exact h1.elim
end
mutual
def Dt.under(n:Nat):Dt->Prop
 | .bU=>True
 | .bl _=>True
 | .int _=>True
 | .str _=>True
 | .tup ds=>Dt.bX n ds
 | .lst ds=>Dt.bX n ds
 | .obj _ _ ds=>Dt.bX n ds
 | .loc k=>k < n
 | .ref _=>True
 | .ty _=>True
 | .ir _=>True
 | .kt ds=>Dt.bX n ds
 | .exc _ _ ds=>Dt.bX n ds
 | .Vs _ _ _ _ ds=>Dt.bX n ds
def Dt.bX(n:Nat):List Dt->Prop
 | []=>True
 | d::ds=>Dt.under n d/\Dt.bX n ds
end
def MO.under(n:Nat):MO->Prop
 | .lst ds=>Dt.bX n ds
 | .ins _ _ ds=>Dt.bX n ds
 | .fU _ ds=>Dt.bX n ds
 | .raw _=>True
mutual
inductive Ih(n:Nat)(E:Ms):Dt->Dt->Prop
 | old {d:Dt} (h:d.under n):Ih n E d d
 | tup {ds es:List Dt} (h:jB n E ds es):Ih n E (.tup ds) (.tup es)
 | lst {ds es:List Dt} (h:jB n E ds es):Ih n E (.lst ds) (.lst es)
 | obj {C:Addr} {ns:List Str} {ds es:List Dt} (h:jB n E ds es):Ih n E (.obj C ns ds) (.obj C ns es)
 | Jj {k:Nat} {ds es:List Dt} (hk:n<=k) (e:E[k - n]? =some (.lst ds)) (h:jB n E ds es):Ih n E (.loc k) (.lst es)
 | Ye {k:Nat} {C:Addr} {ns:List Str} {ds es:List Dt} (hk:n<=k) (e:E[k - n]? =some (.ins C ns ds)) (h:jB n E ds es):Ih n E (.loc k) (.obj C ns es)
inductive jB(n:Nat)(E:Ms):List Dt->List Dt->Prop
 | nil:jB n E [] []
 | cons {d e:Dt} {ds es:List Dt} (h:Ih n E d e) (t:jB n E ds es):jB n E (d::ds) (e::es)
end
def jB.length{n:Nat}{E:Ms}:∀{ds es:List Dt},jB n E ds es->ds.length=es.length
 | [],es,h=>by cases h;rfl
 | d::ds,es,h=>by
  cases h with
  | cons h t=>rw[aau,aau,jB.length t]
def jB.old{n:Nat}{E:Ms}:∀{ds:List Dt},Dt.bX n ds->jB n E ds ds
 | [],_=>.nil
 | _::_,h=>.cons (.old h.1) (jB.old h.2)
section
variable{K:fI}{G G':Hp}{L0 t:List Addr}{n:Nat}
mutual
def vA(hn:L0.length=n)(g:eJ G G'):∀(d:Dt) (v:V),d.under n->Den K G (L0++t) d v->Den K G' L0 d v
 | .bU,_,_,h=>h
 | .bl _,_,_,h=>h
 | .int _,_,_,h=>h
 | .str _,_,_,h=>h
 | .tup ds,_,u,⟨a,vs,e,h1,h2⟩=>⟨a,vs,e,g _ _ h1,cq hn g ds vs u h2⟩
 | .lst ds,_,u,⟨a,vs,e,h1,h2⟩=>⟨a,vs,e,g _ _ h1,cq hn g ds vs u h2⟩
 | .obj C ns ds,_,u,⟨a,dx,vs,e,h1,hl,h2⟩=>⟨a,dx,vs,e,g _ _ h1,hl,cq hn g ds vs u h2⟩
 | .loc k,_,u,⟨a,e,h1⟩=>⟨a,e,by
   have u:k < n:=u
   rwa[aas (by rw[hn];exact u)]at h1⟩
 | .ref _,_,_,h=>h
 | .ty _,_,_,h=>h
 | .ir _,_,_,⟨a,e,h1⟩=>⟨a,e,g.seq h1⟩
 | .kt ds,_,u,⟨a,vs,e,h1,h2⟩=>⟨a,vs,e,g.TL h1,cq hn g ds vs u h2⟩
 | .exc _ _ ds,_,u,⟨a,od,vs,e,h1,h2,h3,h4⟩=>⟨a,od,vs,e,g _ _ h1,h2.imp (λz=>z) (λ⟨dx,z1,z2⟩=>⟨dx,z1,g _ _ z2⟩),h3,cq hn g ds vs u h4⟩
 | .Vs _ _ _ _ ds,_,u,⟨vs,e,h2,h3,h4⟩=>⟨vs,e,h2.imp (λz=>z) (λ⟨dx,z1,z2⟩=>⟨dx,z1,g _ _ z2⟩),h3,cq hn g ds vs u h4⟩
def cq(hn:L0.length=n)(g:eJ G G'):∀(ds:List Dt) (vs:List V),Dt.bX n ds->Ω K G (L0++t) ds vs->Ω K G' L0 ds vs
 | [],_,_,h=>h
 | d::ds,_,u,⟨v,r,e,h1,h2⟩=>⟨v,r,e,vA hn g d v u.1 h1,cq hn g ds r u.2 h2⟩
end
def GZ{H:Hp}{a:Addr}(hn:L0.length=n)(g:eJ G G'){m:MO}(u:m.under n)(h:Im K G (L0++t) H a m):Im K G' L0 H a m:=by
 cases m with
 | lst ds=>have⟨vs,e,h⟩:=h;exact⟨vs,e,cq hn g _ _ u h⟩
 | ins C ns ds=>have⟨dx,vs,e,hl,h⟩:=h;exact⟨dx,vs,e,hl,cq hn g _ _ u h⟩
 | fU ks ds=>have⟨vs,e,hl,h⟩:=h;exact⟨vs,e,hl,cq hn g _ _ u h⟩
 | raw u=>exact h
end
open Classical in
noncomputable def qR(G H:Hp)(t:List Addr):Hp:=λb=>if b∈t then H b else G b
def EU{G H:Hp}{t:List Addr}{b:Addr}(h:b∈t):qR G H t b=H b:=by unfold qR;rw[if_pos h]
def nU{G H:Hp}{t:List Addr}{b:Addr}(h:b∉t):qR G H t b=G b:=by unfold qR;rw[if_neg h]
section
variable{K:fI}{G:Hp}{L0 t:List Addr}{M0 E:Ms}{H:Hp}
def iV(r:Rl K G (L0++t) (M0++E) H):eJ G (qR G H t):=λb u e=>by
 by_cases hb:b∈t
 ·have⟨_,_,_,_,g,_⟩:=r.wM (a:=b) (aaH _ hb);rw[g]at e;cases e
 ·rw[nU hb];exact e
def ID(r:Rl K G (L0++t) (M0++E) H)(hn:L0.length=M0.length){k:Nat}{a:Addr}{m:MO}(hk:M0.length<=k)(e:(L0++t)[k]? =some a)(em:E[k - M0.length]? =some m):qR G H t a=H a/\Im K G (L0++t) H a m:=by
 have e2:(M0++E)[k]? =some m:=by rw[aan hk];exact em
 have⟨_,q⟩:=r.hI k a m e e2;rw[aan (by rw[hn];exact hk)]at e;exact⟨EU (aak e),q⟩
def Nh(r:Rl K G (L0++t) (M0++E) H)(hn:L0.length=M0.length){d d':Dt}(f:Ih M0.length E d d'):∀v,Den K G (L0++t) d v->Den K (qR G H t) L0 d' v:=by
 refine Ih.rec (motive_1:=λd d' _=>∀v,Den K G (L0++t) d v->Den K (qR G H t) L0 d' v) (motive_2:=λds es _=>∀vs,Ω K G (L0++t) ds vs->Ω K (qR G H t) L0 es vs) ?_ ?_ ?_ ?_ ?_ ?_ ?_ ?_ f
 ·exactλ{d} u v h=>vA hn (iV r) d v u h
 ·exactλ{ds es} f ih v ⟨a,vs,e,h1,h2⟩=>⟨a,vs,e,iV r _ _ h1,ih vs h2⟩
 ·exactλ{ds es} f ih v ⟨a,vs,e,h1,h2⟩=>⟨a,vs,e,iV r _ _ h1,ih vs h2⟩
 ·exactλ{C ns ds es} f ih v ⟨a,dx,vs,e,h1,hl,h2⟩=>⟨a,dx,vs,e,iV r _ _ h1,hl.trans f.length,ih vs h2⟩
 ·intro k ds es hk em f ih v ⟨a,e,h1⟩;have⟨o,vs,e1,h2⟩:=ID r hn hk h1 em;exact⟨a,vs,e,o.trans e1,ih vs h2⟩
 ·intro k C ns ds es hk em f ih v ⟨a,e,h1⟩;have⟨o,dx,vs,e1,hl,h2⟩:=ID r hn hk h1 em;exact⟨a,dx,vs,e,o.trans e1,hl.trans f.length,ih vs h2⟩
 ·exactλvs h=>h
 ·exactλ{d e ds es} f t ih1 ih2 vs ⟨v,r,e,h1,h2⟩=>⟨v,r,e,ih1 v h1,ih2 r h2⟩
end
def WO(n:Nat)(q:DQ):DQ:=λd M=>∃M' E d',M=M'++E/\M'.length=n/\(∀m∈M',MO.under n m)/\Ih n E d d'/\q d' M'
def Fin.EA{K:fI}{G0:Hp}{L0:List Addr}{M0:Ms}{H0:Hp}{q:DQ}{v:V}{H:Hp}(r0:Rl K G0 L0 M0 H0)(f:Fin K G0 L0 H0 (WO M0.length q) v H):Fin K G0 L0 H0 q v H:=by
 have⟨d,G,L,M,ex,r,dn,M',E,d',rfl,hl,hu,fz,hq⟩:=f;have⟨t,rfl⟩:=ex.l;have hn:L0.length=M'.length:=by rw[hl];exact r0.len
 have dis:∀b,b∈L0->b∉t:=λb h1 h2=>(acF.mp r.nd).2.2 b h1 b h2 rfl;have sm:=iV r;refine⟨d',qR G H t,L0,M',⟨ex.g.trans sm,.refl _,λb h1 h2=>?_,ex.out,λb h=>.inl h,ex.ED⟩,⟨λb u e=>?_,hn,(acF.mp r.nd).1,λk a m h1 h2=>?_⟩,Nh r hn (hl▸fz) v dn,hq⟩
 ·have hb:b∉t:=λz=>(ex.new b (aaH _ z)).elim (λy=>dis b y z) h2;rw[nU hb];exact ex.fr b h1 h2
 ·by_cases hb:b∈t
  ·rw[EU hb]at e;exact e
  ·rw[nU hb]at e;exact r.sub b u e
 ·have k1:k < L0.length:=(aaf.mp h1).1;have e1:(L0++t)[k]? =some a:=by rw[aas k1];exact h1
  have e2:(M'++E)[k]? =some m:=by rw[aas (by rw[<-hn];exact k1)];exact h2
  have⟨g,q⟩:=r.hI k a m e1 e2;exact⟨by rw[nU (dis a (aak h1))];exact g,GZ (n:=M'.length) hn sm (by rw[hl];exact hu m (aak h2)) q⟩
section
variable{X:Cx}{R:St->XK}{e:Expr}{t:DE}
def gf{st:Stmt}:JS X R st (λ_ _ _=>False):=λ_ _ _ _ _ _ ⟨_,_,_,_,_,_,_,h,_,_⟩=>h.elim
end
def Ka(C:Addr)(m:Str)(sp:Sp)(oP:List V)(R:St->XK)(ta:TE)(t:TA):TE:=λσ H Q=>ta σ H λx H1=>∃a dx fs,x= .ref a/\H1 a=some (.ins C dx fs)/\fs.lookup m=none/\
 t σ H1 λvs H2=>sp (x::(vs++oP)) H2 Q (R σ)
def Rn(C:Addr)(sp:Sp)(oP:List V)(R:St->XK)(t:TA):TE:=λσ H Q=>t σ H λvs H1=>∀x dx,H1 x=none->H1 dx=none->dx≠x->
 sp (.ref x::(vs++oP)) (upd (upd H1 dx (.own x)) x (.ins C dx [])) (λv H2=>v= .bU/\Q (.ref x) H2) (R σ)
section
variable{X:Cx}{CX:Bt}{k:Nat}{f C:Addr}{fd:FuncData}{ps:List Str}{sp:Sp}{oP:List V}{ds:List Value}{R:St->XK}{x m:Str}{p pos apos:Pos}{e o:Expr}{es:List Expr}{ta:TE}{t:TA}
def Ja{pl:Sem Bool}(he:PE X o ta)(c:GB X.K C)(hm:Oc X.K C m f)(F:aw X.prog X.w X.K X.mg X.base CX k f fd ps sp)(hr:cF k X.A)(hb:iE X.K fd ps ds)(hd:aH oP ds)(hx:dM CX X R)(ha:PA X (e::es) t)
  (Ht:starEach (e::es) X.env=(false,eval e X.env)::starEach es X.env:=by rfl) (hU:(backTo pos (starEach es X.env)).any (·.1)=false:=by rfl)
  (ht:eval (.Call (.Attribute o m apos) (e::es) [] pos) X.env=(do
   let ov<-eval o X.env
   standAt apos.atName
   let (f,first)<-holding [ov] (getMethod ov m pl)
   callWith pos f first (backTo pos (starEach (e::es) X.env)) (backToKw pos (keywordEach [] X.env))):=by rfl):
  PE X (.Call (.Attribute o m apos) (e::es) [] pos) (Ka C m sp oP R ta t):=by
 intro ζ s σ H Q I h;refine PySem.W.methodCall_KW (pl:=pl) (bW (he ζ s σ H _ I h) λu s1 xz=>?_) ht;have⟨x,H1,I1,rx,a,dx,fs,ex,ea,l,q⟩:=xz;subst ex;obtain rfl:u=Value.ref a:=rx;refine rN I1 ea c hm l ?_;refine PySem.W.callWith_K (first:=[.ref a]) (h₀:=X.base) I.ok.mod.Tr hm.kp (bW (ha pos ζ s1 σ H1 _ I1 q) fun us s2 ⟨vs,H2,I2,r,q2⟩=>⟨I2.C6,?_⟩) Ht hU;exact xT (us:=.ref a::us) (vs:=.ref a::vs) F hr hb hd hx I2 (.cons rfl r) q2
def G6{pl:Sem Bool}(he:PE X o ta)(c:GB X.K C)(hm:Oc X.K C m f)(F:aw X.prog X.w X.K X.mg X.base CX k f fd ps sp)(hr:cF k X.A)(hb:iE X.K fd ps ds)(hd:aH oP ds)(hx:dM CX X R)
  (ht:eval (.Call (.Attribute o m apos) [] [] pos) X.env=(do
   let ov<-eval o X.env
   standAt apos.atName
   let (f,first)<-holding [ov] (getMethod ov m pl)
   callWith pos f first (backTo pos (starEach [] X.env)) (backToKw pos (keywordEach [] X.env))):=by rfl):
  PE X (.Call (.Attribute o m apos) [] [] pos) (Ka C m sp oP R ta UO):=by
 intro ζ s σ H Q I h;refine PySem.W.methodCall_KW (pl:=pl) (bW (he ζ s σ H _ I h) λu s1 xz=>?_) ht;have⟨x,H1,I1,rx,a,dx,fs,ex,ea,l,q⟩:=xz;subst ex;obtain rfl:u=Value.ref a:=rx;refine rN I1 ea c hm l ?_;exact PySem.W.callWith_K0 (first:=[.ref a]) I1.C6 hm.kp (xT (us:=[.ref a]) (vs:=[.ref a]) F hr hb hd hx I1 (.cons rfl .nil) q)
def HU{ζ:List (Addr×Obj)}{σ:St}{H:Hp}{s:Shared}{Q:VK}{us:List Value}{vs:List V}(M:Mk X.K C f)(F:aw X.prog X.w X.K X.mg X.base CX k f fd ps sp)(hr:cF (k+1) X.A)(hb:iE X.K fd ps ds)(hd:aH oP ds)
  (hx:dM CX X R) (I:Inv X ζ σ H s) (r:aH vs us)
  (h:∀x dx,H x=none->H dx=none->dx≠x->sp (.ref x::(vs++oP)) (upd (upd H dx (.own x)) x (.ins C dx [])) (λv H2=>v= .bU/\Q (.ref x) H2) (R σ)):
  wpAny (model X.prog X.w) X.A (call (.ref C) us) (EP X ζ σ Q) X.xe s:=by
 have hq:=h (s.heap.objs.size+1) s.heap.objs.size (I.bc.fresh (Nat.le_succ _)) (I.bc.fresh (aaj _)) (aaU (abA _));have I2:=Inv.made (C:=C) I;have r2:aH (V.ref (s.heap.objs.size+1)::(vs++oP)) (Value.ref (s.heap.objs.size+1)::(us++ds)):=.cons rfl (r.append hd);have hl:(Value.ref (s.heap.objs.size+1)::us++ds).length=ps.length:=by have e:=r2.length;rw[F.len _ _ _ _ hq]at e;exact e.symm
 refine wpAny_call (K1 (f:=f) I.C6 M.makes M.init (abH.mp M.fn) (codeAny_mono (F.run _ X.stack _ _ ⟨Value.ref (s.heap.objs.size+1)::us,[]⟩ (Value.ref (s.heap.objs.size+1)::(us++ds)) _ _ (R σ) (hr.make C us [])
  (I2.SE.make C us []) (hb _ (Value.ref (s.heap.objs.size+1)::us) I2.C6 hl) r2 hq) λr s' nZ=>?_))
 cases r with
 | error e=>exact hx ζ σ _ _ e s' I2 nZ
 | ok fl=>
  cases fl with
  | ret u=>
   have⟨v,H',I3,rv,ev,q3⟩:=I2.after nZ;subst ev;exact⟨rv,⟨V.ref (s.heap.objs.size+1),H',I3,rfl,q3⟩⟩
  | next=>exact False.elim nZ
  | brk=>exact False.elim nZ
  | cont=>exact False.elim nZ
def JG(M:Mk X.K C f)(F:aw X.prog X.w X.K X.mg X.base CX k f fd ps sp)(hr:cF (k+1) X.A)(hg:Gl X x)(hm:X.mg x=some (.ref C))(hb:iE X.K fd ps ds)(hd:aH oP ds)(hx:dM CX X R)
  (ha:PA X (e::es) t) (u9:(x==("__debug__":Str))=false:=by decide) (he:starEach (e::es) X.env=(false,eval e X.env)::starEach es X.env:=by rfl) (hU:(backTo pos (starEach es X.env)).any (·.1)=false:=by rfl):
  PE X (.Call (.Name x p) (e::es) [] pos) (Rn C sp oP R t):=by
 intro ζ s σ H Q I h;refine wpAny_Call_Name_kw (rz I hg hm ?_ u9);refine PySem.W.callWith_K (h₀:=X.base) I.ok.mod.Tr M.kp (bW (ha pos ζ s σ H _ I h) fun us s1 ⟨vs,H1,I1,r,q⟩=>⟨I1.C6,?_⟩) he hU;exact HU M F hr hb hd hx I1 r q
end
def Pk(C:Addr)(M:Ms)(d:Dt)(ns:List Str)(ds:List Dt):Prop:=d= .obj C ns ds\/∃k,d= .loc k/\M[k]? =some (.ins C ns ds)
section
variable{K:fI}{G:Hp}{L:List Addr}{M:Ms}{H:Hp}{C:Addr}{d:Dt}{v:V}{ns:List Str}{ds:List Dt}
def J8(r:Rl K G L M H)(n:Den K G L d v)(o:Pk C M d ns ds):∃a dx vs,v= .ref a/\H a=some (.ins C dx (ns.zip vs))/\ns.length=ds.length/\Ω K G L ds vs:=by
 rcases o with rfl| ⟨k,rfl,hm⟩
 ·have⟨a,dx,vs,e,h1,hl,h2⟩:=n;exact⟨a,dx,vs,e,r.sub _ _ h1,hl,h2⟩
 ·have⟨a,e,h1⟩:=n;have⟨_,dx,vs,h2,hl,h3⟩:=r.hI k a _ h1 hm;exact⟨a,dx,vs,e,h2,hl,h3⟩
def Ao{f:Str}:∀{ns:List Str} {ds:List Dt} {vs:List V} {d:Dt},Ω K G L ds vs->(ns.zip ds).lookup f=some d->∃v,(ns.zip vs).lookup f=some v/\Den K G L d v
 | [],_,_,_,_,h=>by simp at h
 | _::_,[],_,_,_,h=>by simp at h
 | g::ns,d::ds,_,d',⟨v,r,rfl,h1,h2⟩,h=>by
  rw[abx,abB]at h;rw[abx,abB];cases q:f==g with
  | true=>rw[q]at h;cases h;exact⟨v,rfl,h1⟩
  | false=>rw[q]at h;exact Ao h2 h
def sY{f:Str}:∀{ns:List Str} {ds:List Dt} {vs:List V},Ω K G L ds vs->(ns.zip ds).lookup f=none->(ns.zip vs).lookup f=none
 | [],_,_,_,_=>by simp
 | _::_,[],_,h,_=>by have h:_=_:=h;subst h;simp
 | g::ns,d::ds,_,⟨v,r,rfl,h1,h2⟩,h=>by
  rw[abx,abB]at h;rw[abx,abB];cases q:f==g with
  | true=>rw[q]at h;cases h
  | false=>rw[q]at h;exact sY h2 h
def Am{f:Str}{v:V}:∀{ns:List Str} {vs:List V},ns.length=vs.length->f∉ns->kq f v (ns.zip vs)=(ns++[f]).zip (vs++[v])
 | [],[],_,_=>rfl
 | g::ns,x::vs,hl,h=>by have hg:¬g=f:=λz=>h (by rw[z];exact aad);show(if g=f then (g,v)::ns.zip vs else (g,x)::kq f v (ns.zip vs))=(g,x)::(ns++[f]).zip (vs++[v]);rw[if_neg hg,Am (by simpa using hl) λz=>h (List.mem_cons_of_mem _ z)]
 | [],_::_,hl,_=>by simp at hl
 | _::_,[],hl,_=>by simp at hl
end
def Zc(C:Addr)(f:Str)(t:DE):DE:=λρ M q x=>t ρ M (λd M1=>∃ns ds v,Pk C M1 d ns ds/\(ns.zip ds).lookup f=some v/\q v M1) x
def OZ(C:Addr)(m:Str)(T:DF)(to:DE)(ta:DA):DE:=λρ M q x=>to ρ M (λd M1=>(∃ns ds,Pk C M1 d ns ds/\(ns.zip ds).lookup m=none)/\ta ρ M1 (λds M2=>T (d::ds) M2 q (λC fs M'=>x ρ C fs M')) x) x
def Uo(C:Addr)(T:DF)(ta:DA):DE:=λρ M q x=>ta ρ M (λds M1=>T (.loc M1.length::ds) (M1++[.ins C [] []]) (λd M2=>d= .bU/\q (.loc M1.length) M2) (λC fs M'=>x ρ C fs M')) x
def Oy(C:Addr)(f:Str)(to tv:DE):DS:=λDn ρ M=>tv ρ M (λy M1=>to ρ M1 (λd M2=>∃k ns ds,d= .loc k/\M2[k]? =some (.ins C ns ds)/\f∉ns/\ns.length < 1000/\Dn.nx ρ (M2.set k (.ins C (ns++[f]) (ds++[y])))) Dn.x) Dn.x
structure cy(P:Program)(w:World)(K:fI)(mg:Str->Option Value)(base:Heap)(k:Nat)(C:Addr)(m:Str)(ps:List Str)(T:DF)(f:Addr)(fd:FuncData):Prop where
 ok:aw P w K mg base (cw P w) k f fd ps (c7 K T)
 b:iE K fd ps []
 c:GB K C
 m:Oc K C m f
structure QS(P:Program)(w:World)(K:fI)(mg:Str->Option Value)(base:Heap)(k:Nat)(x:Str)(C:Addr)(ps:List Str)(T:DF)(f:Addr)(fd:FuncData):Prop where
 ok:aw P w K mg base (cw P w) k f fd ps (c7 K T)
 b:iE K fd ps []
 k:Mk K C f
 m:mg x=some (.ref C)
section
variable{X:Cx}{R:St->XK}{C:Addr}{f m x:Str}{T:DF}{k k':Nat}{a:Addr}{fd:FuncData}{ps:List Str}{e o value:Expr}{es:List Expr}{pos pos' apos p:Pos}{to te tv:DE}{ta:DA}
def sk(c:GB X.K C)(n:iQ X.K C f)(he:JE X R e te)(hb:attributeBase e f X.env (eval e X.env)=eval e X.env:=by rfl):JE X R (.Attribute e f pos) (Zc C f te):=
 .of (PX he hb) λσ H G L ρ M q x rl en h hx=>by refine⟨G,L,ρ,M,_,x,rl,en,h,hx,λv H1 xz=>?_⟩;have⟨d1,G1,L1,M1,e1,r1,n1,ns,ds,y,ob,hl,h1⟩:=xz;have⟨p,dx,vs,rfl,hp,_,dn⟩:=J8 r1 n1 ob;have⟨u,hu,du⟩:=Ao dn hl;exact⟨p,C,dx,_,u,rfl,hp,c,n,hu,y,G1,L1,M1,e1,r1,du,h1⟩
def a_{pl:Sem Bool}(D:cy X.prog X.w X.K X.mg X.base k C m ps T a fd)(hr:cF k' X.A)(hx:dM (cw X.prog X.w) X R)(ho:JE X R o to)(ha:JA X R (e::es) ta)(hk:k<=k':=by decide)
  (Ht:starEach (e::es) X.env=(false,eval e X.env)::starEach es X.env:=by rfl) (hU:(backTo pos (starEach es X.env)).any (·.1)=false:=by rfl)
  (ht:eval (.Call (.Attribute o m apos) (e::es) [] pos) X.env=(do
   let ov<-eval o X.env
   standAt apos.atName
   let (f,first)<-holding [ov] (getMethod ov m pl)
   callWith pos f first (backTo pos (starEach (e::es) X.env)) (backToKw pos (keywordEach [] X.env))):=by rfl):
  JE X R (.Call (.Attribute o m apos) (e::es) [] pos) (OZ C m T to ta):=
 .of (Ja (pl:=pl) ho D.c D.m D.ok (hr.mono hk) D.b .nil hx ha Ht hU ht) λσ H G L ρ M q x rl en h hx=>by refine⟨G,L,ρ,M,_,x,rl,en,h,hx,λv H1 xz=>?_⟩;have⟨d1,G1,L1,M1,e1,r1,n1,⟨ns,ds,ob,hl⟩,h1⟩:=xz;have⟨p,dx,vs,rfl,hp,_,dn⟩:=J8 r1 n1 ob;refine⟨p,dx,_,rfl,hp,sY dn hl,G1,L1,ρ,M1,_,x,r1,en.mono e1,h1,hx.on e1,λus H2 xz=>?_⟩;have⟨Bl,G2,L2,M2,e2,r2,n2,h2⟩:=xz;show c7 X.K T (V.ref p::(us++[])) H2 _ _;rw[aa6];have KD:=e1.trans e2;exact⟨G2,L2,d1::Bl,M2,q,_,r2,⟨_,_,rfl,Den.mono e2.g e2.l _ _ n1,n2⟩,h2,λv H' f=>Fin.back KD f,λC fs M' G' L' H' od hq e' r' y=>hx σ ρ C fs M' G' L' H' od hq (KD.trans e') r' (en.mono (KD.trans e')) y⟩
def jX{pl:Sem Bool}(D:cy X.prog X.w X.K X.mg X.base k C m ps T a fd)(hr:cF k' X.A)(hx:dM (cw X.prog X.w) X R)(ho:JE X R o to)(hk:k<=k':=by decide)
  (ht:eval (.Call (.Attribute o m apos) [] [] pos) X.env=(do
   let ov<-eval o X.env
   standAt apos.atName
   let (f,first)<-holding [ov] (getMethod ov m pl)
   callWith pos f first (backTo pos (starEach [] X.env)) (backToKw pos (keywordEach [] X.env))):=by rfl):
  JE X R (.Call (.Attribute o m apos) [] [] pos) (OZ C m T to Rr):=
 .of (G6 (pl:=pl) ho D.c D.m D.ok (hr.mono hk) D.b .nil hx ht) λσ H G L ρ M q x rl en h hx=>by refine⟨G,L,ρ,M,_,x,rl,en,h,hx,λv H1 xz=>?_⟩;have⟨d1,G1,L1,M1,e1,r1,n1,⟨ns,ds,ob,hl⟩,h1⟩:=xz;have⟨p,dx,vs,rfl,hp,_,dn⟩:=J8 r1 n1 ob;refine⟨p,dx,_,rfl,hp,sY dn hl,?_⟩;show c7 X.K T (V.ref p::([]++[])) H1 _ _;exact⟨G1,L1,[d1],M1,q,_,r1,⟨_,_,rfl,n1,rfl⟩,h1,λv H' f=>Fin.back e1 f,λC fs M' G' L' H' od hq e' r' y=>hx σ ρ C fs M' G' L' H' od hq (e1.trans e') r' (en.mono (e1.trans e')) y⟩
def QW(D:QS X.prog X.w X.K X.mg X.base k x C ps T a fd)(hr:cF k' X.A)(hx:dM (cw X.prog X.w) X R)(ha:JA X R (e::es) ta)(hk:k+1<=k':=by decide)(hg:Gl X x:=by rfl)(u9:(x==("__debug__":Str))=false:=by decide)
  (he:starEach (e::es) X.env=(false,eval e X.env)::starEach es X.env:=by rfl) (hU:(backTo pos (starEach es X.env)).any (·.1)=false:=by rfl):JE X R (.Call (.Name x p) (e::es) [] pos) (Uo C T ta):=
 .of (JG D.k D.ok (hr.mono hk) hg D.m D.b .nil hx ha u9 he hU) λσ H G L ρ M q x rl en h hx=>by
  refine⟨G,L,ρ,M,_,x,rl,en,h,hx,λvs H1 xz y dx hy hdx my=>?_⟩;have⟨ds,G1,L1,M1,e1,r1,n1,h1⟩:=xz;show c7 X.K T (V.ref y::(vs++[])) _ _ _;rw[aa6];have ra:=r1.NR (o:=.own y) hdx;have ea:=r1.Sa (o:=.own y) hdx;have hy2:upd H1 dx (HO.own y) y=none:=by rw[Μ (Ne.symm my)];exact hy
  have rb:=ra.NF (p:=y) (o:=.ins C dx []) (m:=.ins C [] []) hy2 ⟨dx,[],az,rfl,rfl⟩;have eb:=ra.Wz (p:=y) (o:=.ins C dx []) hy2;have e2:=ea.trans eb;have KD:=e1.trans e2;refine⟨_,_,.loc M1.length::ds,_,_,_,rb,⟨_,_,rfl,⟨y,rfl,?_⟩,Ω.mono e2.g e2.l _ _ n1⟩,h1,fun v H' ⟨d,G',L',M',e',r',dn,hd,hq⟩=>?_,λC fs M' G' L' H' od hq e' r' z=>hx σ ρ C fs M' G' L' H' od hq (KD.trans e') r' (en.mono (KD.trans e')) z⟩
  ·rw[<-r1.len,List.getElem?_append_right (Nat.le_refl _)];simp
  ·subst hd;refine⟨dn,.loc M1.length,G',L',M',KD.trans e',r',⟨y,rfl,e'.l.get ?_⟩,hq⟩;rw[<-r1.len,List.getElem?_append_right (Nat.le_refl _)];simp
def Ed(c:GB X.K C)(n:iQ X.K C f)(ho:JE X R o to)(hv:JE X R value tv)(hs:swapsWith value (some (.Attribute o f pos')) pos.line X.env=pure false:=by rfl):JS X R (.Assign [.Attribute o f pos'] value pos) (Oy C f to tv):=
 .of (Qd ho hv hs) λσ H G L ρ M Dn rl en h hx=>by refine⟨G,L,ρ,M,_,_,rl,en,h,hx,λy H1 xz=>?_⟩;have⟨dy,G1,L1,M1,e1,r1,n1,h1⟩:=xz;refine⟨G1,L1,ρ,M1,_,_,r1,en.mono e1,h1,hx.on e1,λu H2 xz=>?_⟩;have⟨du,G2,L2,M2,e2,r2,n2,k,ns,ds,ed,hm,hf,hz,h2⟩:=xz;subst ed;have⟨p,rfl,hp⟩:=n2;have⟨_,dx,vs,hH,hl,dn⟩:=r2.hI k p _ hp hm;have hlv:ns.length=vs.length:=hl.trans dn.length;refine⟨p,C,dx,_,rfl,hH,c,n,by rw[abF,<-hlv,Nat.min_self];exact hz,?_⟩;rw[Am hlv hf];exact⟨ρ,G2,L2,_,(e1.trans e2).trans (r2.Iv hp),r2.setM (m:=.ins C (ns++[f]) (ds++[dy])) hp ⟨dx,_,az,by rw[aah,aah,hl];rfl,dn.app ⟨_,_,rfl,Den.mono e2.g e2.l _ _ n1,rfl⟩⟩,(en.mono (e1.trans e2)).mono (r2.Iv (o:=.own p) hp),h2⟩
end
def zK:List Dt->Ms->DQ->Prop
 | [d],M,q=>match mf M d with
  | some xs=>q (.loc M.length) (M++[.lst xs])
  | none=>False
 | _,_,_=>False
section
variable{K:fI}
def Uc:GQ K (λxs H Q=>∃p ys,xs=[V.ref p]/\(iS K H p ys\/oS K H p ys)/\∀l,H l=none->Q (.ref l) (upd H l (.lst ys))) zK:=by
 intro G0 L0 H0 G L M H vs ds q e r n h;unfold zK at h;split at h
 ·rename_i d;have⟨v,rfl,n1⟩:=bH n;split at h
  ·rename_i xs hs;have⟨a,us,rfl,hq,dn⟩:=oE r n1 hs;exact⟨a,us,rfl,hq,λl hl=>jG e r hl dn h⟩
  ·exact h.elim
 ·exact h.elim
end
section
variable{X:Cx}{R:St->XK}{e o i value:Expr}{t:DA}{to ti tv:DE}{p pos apos dj u7:Pos}
def xR(hm:X.mg "list"=none)(ha:JA X R [e] t)(hg:Gl X "list":=by rfl)(he:starEach [e] X.env=(false,eval e X.env)::starEach [] X.env:=by rfl)(hU:(backTo pos (starEach [] X.env)).any (·.1)=false:=by rfl):JE X R (.Call (.Name "list" p) [e] [] pos) (D3 zK t):=
 sZ wZ Uc hm CB ha hg @_ @_ he hU
def Tj(to:DE)(t:DA):DE:=λρ M q x=>to ρ M (λd M1=>(∃k xs,d= .loc k/\M1[k]? =some (.lst xs))/\t ρ M1 (λds M2=>∃k xs y,d= .loc k/\ds=[y]/\M2[k]? =some (.lst xs)/\xs.length < sizeLine/\q .bU (M2.set k (.lst (xs++[y])))) x) x
def e_(ho:JE X R o to)(ha:JA X R [e] t)(Jt:attributeBase o "append" X.env (eval o X.env)=eval o X.env:=by rfl)
  (Py:((backTo dj (starEach [e] X.env)).all (λx=> !x.1)&&(backToKw dj (keywordEach [] X.env)).all (λx=>x.1.isSome)
   &&decide (([e]:List Expr).length+([]:List Keyword).length+(if ([]:List Keyword).isEmpty then 0 else 1) < 30))=true:=by rfl)
  (KS:(apos.endLine==dj.line)=true:=by rfl) (hs:starEach [e] X.env=(false,eval e X.env)::starEach [] X.env:=by rfl) (Cf:(backTo dj (starEach [] X.env)).any (·.1)=false:=by rfl):
  JE X R (.Call (.Attribute o "append" apos) [e] [] dj) (Tj to t):=
 .of (SS PySem.F.plainAttrs_list PySem.F.slot_list_append PySem.F.type_list_append (r:=Ea) vE ho ha Jt Py KS hs Cf) λσ H G L ρ M q x rl n h hx=>by refine⟨G,L,ρ,M,_,x,rl,n,h,hx,λv H1 xz=>?_⟩;have⟨d1,G1,L1,M1,e1,r1,n1,⟨k,xs,ed,hm⟩,h1⟩:=xz;subst ed;have⟨a,rfl,hk⟩:=n1;have⟨_,vs,hH,_⟩:=r1.hI k a _ hk hm;refine⟨.inl ⟨rfl,vs,.of hH⟩,G1,L1,ρ,M1,_,x,r1,n.mono e1,h1,hx.on e1,λus H2 xz=>?_⟩;have⟨ds,G2,L2,M2,e2,r2,n2,k',xs',y,ek,ed,RU,hz,h2⟩:=xz;cases ek;subst ed;have⟨u,rfl,n3⟩:=bH n2;have QP:=e2.l.get hk;have⟨_,LU,Wf,R_⟩:=r2.hI k a _ QP RU;refine⟨a,LU,u,rfl,rfl,Wf,by rw[<-R_.length];exact hz,.bU,G2,L2,_,(e1.trans e2).trans (r2.Iv QP),r2.setM (m:=.lst (xs'++[y])) QP ⟨_,az,R_.app ⟨_,_,rfl,n3,rfl⟩⟩,rfl,h2⟩
def xH(to ti tv:DE):DS:=λDn ρ M=>tv ρ M (λy M1=>to ρ M1 (λd M2=>ti ρ M2 (λdi M3=>∃k i xs j,d= .loc k/\di= .int i/\M3[k]? =some (.lst xs)/\KZ xs.length i=some j/\Dn.nx ρ (M3.set k (.lst (xs.set j y)))) Dn.x) Dn.x) Dn.x
def oJ(ho:JE X R o to)(hi:JE X R i ti)(hv:JE X R value tv)(hs:swapsWithSole [.Subscript o i u7] value pos.line X.env=pure false:=by rfl)(hw:swappedStores [.Subscript o i u7] value X.env=pure none:=by rfl)
  (h1:(assignEach [.Subscript o i u7] X.env).map (·.2)=[assign (.Subscript o i u7) X.env]:=by rfl)
  (ha:∀v,assign (.Subscript o i u7) X.env v=(do
   let ov<-holding [v] (eval o X.env)
   let iv<-holding [v,ov] (eval i X.env)
   standAt u7
   holding [v,ov,iv] (setItem ov iv v)
   release [v,ov,iv] []):=by intro _;rfl):JS X R (.Assign [.Subscript o i u7] value pos) (xH to ti tv):=
 .of (Ct hv (Rg (t:=O5) ho hi LL ha) hs hw h1) λσ H G L ρ M Dn rl n h hx=>by refine⟨G,L,ρ,M,_,_,rl,n,h,hx,λv H1 xz=>?_⟩;have⟨dv,G1,L1,M1,e1,r1,n1,h1⟩:=xz;refine⟨G1,L1,ρ,M1,_,_,r1,n.mono e1,h1,hx.on e1,λov H2 xz=>?_⟩;have⟨d,G2,L2,M2,e2,r2,n2,h2⟩:=xz;refine⟨G2,L2,ρ,M2,_,_,r2,(n.mono e1).mono e2,h2,(hx.on e1).on e2,λiv H3 xz=>?_⟩;have⟨di,G3,L3,M3,e3,r3,n3,k,i,xs,j,ed,ei,hm,hj,h3⟩:=xz;subst ed ei;have⟨a,rfl,hk⟩:=n2;have n3:iv= .int i:=n3;subst n3;have BC:=e3.l.get hk;have⟨_,vs,hH,dn⟩:=r3.hI k a _ BC hm;have MK:=e2.trans e3;have V5:=Den.mono MK.g MK.l _ _ n1;refine⟨a,vs,i,j,rfl,rfl,hH,by rw[<-dn.length];exact hj,ρ,G3,L3,_,((e1.trans e2).trans e3).trans (r3.Iv BC),r3.setM (m:=.lst (xs.set j dv)) BC ⟨_,az,.of (Fw V5 j dn.pair)⟩,(((n.mono e1).mono e2).mono e3).mono (r3.Iv (o:=.own a) BC),h3⟩
end
structure Src(K:fI)(a:Addr)(xs:List Dt)(ok:Ms->Prop)(G0:Hp)(L0:List Addr):Prop where
 at_:∀G L M H,eJ G0 G->Pre L0 L->Rl K G L M H->ok M->∃vs,iS K H a vs/\Ω K G L xs vs
def j7(M:Ms):Dt->Option (List Dt×(Ms->Prop))
 | .lst xs=>some (xs,λ_=>True)
 | .ir ns=>some (ns.map .int,λ_=>True)
 | .loc k=>match M[k]? with
  | some (.lst xs)=>some (xs,λM'=>M'[k]? =some (.lst xs))
  | _=>none
 | _=>none
def ux{K:fI}{G:Hp}{L:List Addr}{M:Ms}{H:Hp}{d:Dt}{v:V}{xs:List Dt}{ok:Ms->Prop}(r:Rl K G L M H)(n:Den K G L d v)(h:j7 M d=some (xs,ok)):∃a vs,v= .ref a/\iS K H a vs/\Src K a xs ok G L/\ok M:=by
 cases d with
 | lst ds=>
  cases h;have⟨a,vs,rfl,e,m⟩:=n;exact⟨a,vs,rfl,.of (r.sub _ _ e),⟨λG' L' M' H' g l r' _=>⟨vs,.of (r'.sub _ _ (g _ _ e)),Ω.mono g l _ _ m⟩⟩,trivial⟩
 | ir ns=>
  cases h;have⟨a,rfl,e⟩:=n;exact⟨a,_,rfl,r.sub.seq e,⟨λG' L' M' H' g l r' _=>⟨_,r'.sub.seq (g.seq e),iW⟩⟩,trivial⟩
 | loc k=>
  have⟨a,rfl,e⟩:=n;have h:(match M[k]? with| some (.lst xs)=>some (xs,λM':Ms=>M'[k]? =some (.lst xs))| _=>none)=some (xs,ok):=h;split at h
  ·rename_i ys hm;cases h;have⟨_,vs,e1,m1⟩:=r.hI k a _ e hm;refine⟨a,vs,rfl,.of e1,⟨λG' L' M' H' g l r' hk=>?_⟩,hm⟩;have⟨_,LU,e2,m2⟩:=r'.hI k a _ (l.get e) hk;exact⟨LU,.of e2,m2⟩
  ·cases h
 | _=>cases h
def Kh{K:fI}{G:Hp}{L:List Addr}{a:Addr}{xs:List Dt}{ok:Ms->Prop}(s:Src K a xs ok G L):Qy K (V8 K a) xs ok G L where
 go:=λi G1 L1 M1 H1 d g l r k e=>by
  have⟨vs,hs,n⟩:=s.at_ G1 L1 M1 H1 g l r k;have⟨v,e1,n1⟩:=n.get e
  exact⟨⟨vs,v,hs,e1⟩,fun v' H' ⟨eH,y⟩=>by
   subst eH;have e2:=y vs hs;rw[e1]at e2;cases e2
   exact⟨G1,.refl _ _ _,r,n1⟩⟩
 stop:=λi G1 L1 M1 H1 g l r k e=>by have⟨vs,hs,n⟩:=s.at_ G1 L1 M1 H1 g l r k;exact⟨vs,hs,by rw[<-n.length];exact e⟩
def qm(M:Ms):Dt->Option (List Dt×(Ms->Prop))
 | .loc k=>j7 M (.loc k)
 | d=>(VF M d).map λxs=>(xs,λ_=>True)
def ft(t:DE):DK:=λρ M q x=>t ρ M (λd M1=>match qm M1 d with
 | some (xs,ok)=>q xs ok M1
 | none=>False) x
def bD{X:Cx}{R:St->XK}{tg e:Expr}{te:DE}(h:JE X R e te):JK X R tg e (ft te):=by
 intro ζ s σ H Q I ⟨G,L,ρ,M,q,x,rl,n,ht,hx,hQ⟩;refine bW (h ζ s σ H (Fin X.K G L H _) I ⟨G,L,ρ,M,_,x,rl,n,ht,hx,λ_ _ f=>f⟩) λu s1 xz=>?_;have⟨v,H1,I1,rv,d,G1,L1,M1,e1,r1,n1,h1⟩:=xz
 (try dsimp only at h1)
 cases hi:qm M1 d with
 | none=>rw[hi]at h1;exact h1.elim
 | some p=>
  have⟨xs,ok⟩:=p;rw[hi]at h1;have fin:∀J,Qy X.K J xs ok G1 L1->Q J H1:=λJ y=>hQ J H1 ⟨xs,ok,G1,L1,M1,e1,r1,y,h1⟩;have up:∀{J},ok=(λ_=>True)->Yl X.K J xs G1 L1->Qy X.K J xs ok G1 L1:=λeo y=>by subst eo;exact⟨λi G L M H d g l r _ e=>y.go i G L M H d g l r e,λi G L M H g l r _ e=>y.stop i G L M H g l r e⟩
  cases d with
  | loc k=>
   have⟨a,vs,rfl,hs,sr,_⟩:=ux r1 n1 hi;cases rv;exact x4 I1 hs (fin _ (Kh sr))
  | lst ds=>
   cases hi;have⟨a,vs,rfl,e,m⟩:=n1;cases rv;exact x4 I1 (vs:=vs) (.of (r1.sub _ _ e)) (fin _ (up rfl (DW (λG' g=>.of (g _ _ e)) m)))
  | ir ns=>
   cases hi;have⟨a,rfl,e⟩:=n1;cases rv;exact x4 I1 (r1.sub.seq e) (fin _ (up rfl (DW (λG' g=>g.seq e) iW)))
  | tup ds=>
   cases hi;have⟨a,vs,rfl,e,m⟩:=n1;cases rv;exact IS I1 (vs:=vs) (.of (r1.sub _ _ e)) (fin _ (up rfl (Jr (λG' g=>.of (g _ _ e)) m)))
  | kt ds=>
   cases hi;have⟨a,vs,rfl,e,m⟩:=n1;cases rv;exact IS I1 (r1.sub.TL e) (fin _ (up rfl (Jr (λG' g=>g.TL e) m)))
  | str z=>
   cases hi;cases n1;have⟨t,rfl⟩:=rv;exact Qe I1 (fin _ (up rfl QT))
  | _=>cases hi
def pH(g:Dt->En->(En->Prop)->Prop)(tb:DS)(Dn:k_)(ok:Ms->Prop):List Dt->En->Ms->Prop
 | [],ρ,M=>ok M/\Dn.nx ρ M
 | x::xs,ρ,M=>ok M/\g x ρ λρ'=>tb {Dn with nx:=pH g tb Dn ok xs,ct:=pH g tb Dn ok xs,bk:=Dn.nx} ρ' M
def A0(ti:DK)(g:Dt->En->(En->Prop)->Prop)(tb:DS):DS:=λDn ρ M=>ti ρ M (λxs ok M1=>pH g tb Dn ok xs ρ M1) Dn.x
section
variable{X:Cx}{R:St->XK}{tg iter:Expr}{body:List Stmt}{ti:DK}{gg:TG}{g:Dt->En->(En->Prop)->Prop}{tb:DS}{pos:Pos}
def dR(hi:JK X R tg iter ti)(hg:PG X tg gg)(gd:GD X.K gg g)(hb:CC X R body tb)(hp:PassesOwn (model X.prog X.w) X.A X.env X.xe:=by first| exact PassesOwn.never| exact PassesOwn.leaving)(hc:X.calm=true:=by rfl)(hs:∀x,foldedSetIterable iter X.env x=pure x:=by intro _;rfl):
  JS X R (.For tg iter body [] pos) (A0 ti g tb):=.of (CS hp hc hi hg hb hs) λσ H G L ρ M Dn rl n h hx=>by
 refine⟨G,L,ρ,M,_,_,rl,n,h,hx,λJ H1 xz=>?_⟩;have⟨xs,ok,G1,L1,M1,e1,r1,y,h1⟩:=xz;refine⟨λi m σ' H'=>m+i=xs.length/\fk X.K G1 L1 H1 (λρ' M'=>pH g tb Dn ok (xs.drop i) ρ' M') σ' H',⟨xs.length,rfl,ρ,G1,L1,M1,.refl _ _ _,r1,n.mono e1,by rw[acq];exact h1⟩,?_⟩;rintro i m σ' H' ⟨hm,ρ',G',L',M',e',r',n',h'⟩;by_cases hi:i < xs.length
 ·right;have hd:xs[i]? =some xs[i]:=aaa hi;rw[aby hi]at h';have⟨bc,h'⟩:=h';have⟨go,yl⟩:=y.go i G' L' M' H' _ e'.g e'.l r' bc hd;refine⟨go,fk X.K G1 L1 H1 (λρ' M'=>pH g tb Dn ok (xs.drop (i+1)) ρ' M'),λσ2 H2 f=>⟨m - 1,(),(),f⟩,λv H2 hy=>?_⟩;have⟨G2,e2,r2,n2⟩:=yl v H2 hy;refine gd G2 L' M' H2 _ v ρ' σ' _ _ r2 n2 (n'.mono e2) h' λρ3 σ3 n3 h3=>?_;refine⟨G2,L',ρ3,M',_,r2,n3,h3,hx.on (e1.trans (e'.trans e2)),⟨λ_ _ f=>fk.back (e'.trans e2) f,λ_ _ f=>Fin.back (e1.trans (e'.trans e2)) f,λ_ _ f=>fk.back (e1.trans (e'.trans e2)) f,λ_ _ f=>fk.back (e'.trans e2) f⟩⟩
 ·left;rw[ace ()]at h';exact⟨y.stop i G' L' M' H' e'.g e'.l r' h'.1 (),ρ',G',L',M',e1.trans e',r',n',h'.2⟩
end
def wF(te:DE)(cs:En)(ok:Ms->Prop):List Dt->List Dt->Ms->(List Dt->Ms->Prop)->Prop
 | [],Θ,M,k=>ok M/\k Θ M
 | x::xs,Θ,M,k=>ok M/\te (some x::cs) M (λd M1=>wF te cs ok xs (Θ++[d]) M1 k) l_
def sX(ti:DK)(te:DE)(af:List Nat):DE:=λρ M q x=>ti ρ M (λxs ok M1=>xs.length<=sizeLine/\wF te (qE af ρ) ok xs [] M1 (λys M2=>q (.lst ys) M2)) x
def wL{te:DE}{cs:En}{ok:Ms->Prop}:∀xs,wF te cs ok xs=i8 (gN 0) se te (none::cs) ok xs
 | []=>rfl
 | x::xs=>funext λΘ=>funext λM=>funext λk=>by show(ok M/\te (some x::cs) M (λd M1=>wF te cs ok xs (Θ++[d]) M1 k) l_)=(ok M/\te (some x::cs) M (λd M1=>i8 (gN 0) se te (none::cs) ok xs (Θ++[d]) M1 k) l_);rw[wL xs]
section
variable{X:Cx}{R:St->XK}{elt iter:Expr}{x:Str}{px:Pos}{scope:Scope}{pos:Pos}{ti:DK}{te:DE}{ys:List Str}{af:List Nat}
def fS(S:aG X scope [x] ys af)(hi:JK X R (.Name x px) iter ti)(he:∀C s H fp,JE (Cx.comp X (x::ys) scope C s H fp) (λ_=>E0) elt te)(hc:X.calm=true:=by rfl)(hs:∀x,foldedSetIterable iter X.env x=pure x:=by intro _;rfl):JE X R (.ListComp elt [⟨.Name x px,iter,[],0⟩] scope pos) (sX ti te af):=UR false S hi (g9 S (i:=0) rfl) bq (ij (Nat.zero_lt_succ 0)) (λ_ _ _ _=>lP) he hc hs λρ M q x h=>by unfold sX at h;simp only[wL]at h;exact h
def iy{i:Nat}{y:Str}{py oN:Pos}(hN:X.N.Nodup)(NZ:X.N[i]? =some y)(hy:Loc X.env.scope y)(S:aG X scope [x] ys af)(hi:JK X R (.Name x px) iter ti)(he:∀C s H fp,JE (Cx.comp X (x::ys) scope C s H fp) (λ_=>E0) elt te)(hc:X.calm=true:=by rfl)(Mr:swapsWith (.ListComp elt [⟨.Name x px,iter,[],0⟩] scope pos) (some (.Name y py)) oN.line X.env=pure true:=by rfl)(hs:∀x,foldedSetIterable iter X.env x=pure x:=by intro _;rfl)(hf:X.fn y=true\/X.env.scope.names.lookup y=some .local:=by first| exact .inl rfl| exact .inr rfl| assumption):JS X R (.Assign [.Name y py] (.ListComp elt [⟨.Name x px,iter,[],0⟩] scope pos) oN) (Hq i (sX ti te af)):=XU false S hi (g9 S (i:=0) rfl) bq (ij (Nat.zero_lt_succ 0)) (λ_ _ _ _=>lP) he hc hs hN NZ hy Mr hf λρ M q x h=>by unfold sX at h;simp only[wL]at h;exact h
end
def wA:∀{ns:List Int} {us:List Value},aH (ns.map V.int) us->∃ts:List (Int×Tok),us=ts.map (λp=>Value.int p.1 p.2)/\ts.map (·.1)=ns
 | [],_,h=>by cases h;exact⟨[],rfl,rfl⟩
 | n::ns,_,h=>by
  cases h with
  | cons r t=>
   have⟨tk,rfl⟩:=r;have⟨ts,rfl,rfl⟩:=wA t;exact⟨(n,tk)::ts,rfl,rfl⟩
def TV(K:fI):List V->Hp->VK->Prop:=λxs H Q=>∃(p:Addr) (ns:List Int),xs=[.ref p]/\iS K H p (ns.map V.int)/\Q (.int ns.sum) H
def JN{X:Cx}(hc:X.calm=true):eY X (.builtin "sum") (TV X.K):=by
 intro ζ s σ H xs us Q I r h;have⟨p,ns,rfl,hq,q⟩:=h;have⟨u,rfl,r1⟩:=lN r;cases r1;have⟨its,rv,pl,hz⟩:=I.list hq;have⟨ts,rfl,rfl⟩:=wA rv;have e:(ts.map λp=>Value.int p.1 p.2).toArray=intItems ts.toArray:=by simp[intItems]
 have hl:=pl.isList;rw[e]at hl;refine sum_intListG (I.ok.hd hc) hl λh' tk t' hk=>?_;refine⟨.int (ts.map (·.1)).sum,H,I.kept hk,⟨t',?_⟩,q⟩;rw[preSum_eq,List.take_of_length_le (by simp)]
def QY:List Dt->Ms->DQ->Prop
 | [d],M,q=>∃ns:List Int,mf M d=some (ns.map .int)/\(∃xs ok,j7 M d=some (xs,ok))/\q (.int ns.sum) M
 | _,_,_=>False
def sP{K:fI}{G:Hp}{L:List Addr}:∀{ns:List Int} {vs:List V},Ω K G L (ns.map Dt.int) vs->vs=ns.map V.int
 | [],_,h=>h
 | _::_,_,⟨v,r,e,h1,h2⟩=>by have h1:v=_:=h1;rw[e,h1,sP h2];rfl
def oH{M:Ms}{d:Dt}{xs:List Dt}{ok:Ms->Prop}(h:j7 M d=some (xs,ok)):mf M d=some xs:=by
 cases d with
 | lst ds=>cases h;rfl
 | ir ns=>cases h;rfl
 | loc k=>
  have h:(match M[k]? with| some (.lst xs)=>some (xs,λM':Ms=>M'[k]? =some (.lst xs))| _=>none)=some (xs,ok):=h;show(match M[k]? with| some (.lst xs)=>some xs| _=>none)=some xs;split at h
  ·rename_i ys hm;cases h;rfl
  ·cases h
 | _=>cases h
def ZW{K:fI}:GQ K (TV K) QY:=by
 intro G0 L0 H0 G L M H vs ds q e r n h;unfold QY at h;split at h
 ·rename_i d;have⟨v,rfl,n1⟩:=bH n;have⟨ns,hs,⟨xs,ok,hl⟩,hq⟩:=h;have⟨a,us,rfl,sq,sr,bc⟩:=ux r n1 hl;rw[oH hl]at hs;cases hs;have⟨ws,sq2,dn⟩:=sr.at_ G L M H (.refl _) (.refl _) r bc;rw[sP dn]at sq2;exact⟨a,ns,rfl,sq2,.int ns.sum,G,L,M,e,r,rfl,hq⟩
 ·exact h.elim
def G7:bootBuiltins "sum"=some (.builtin "sum"):=by decide+kernel
def BZ:bootBuiltins "enumerate"=some (.type "enumerate"):=by decide+kernel
section
variable{X:Cx}{R:St->XK}{e a b:Expr}{t:DA}{ta tb:DE}{p pos:Pos}
def O9(hm:X.mg "sum"=none)(ha:JA X R [e] t)(hc:X.calm=true:=by rfl)(hg:Gl X "sum":=by rfl)(he:starEach [e] X.env=(false,eval e X.env)::starEach [] X.env:=by rfl)(hU:(backTo pos (starEach [] X.env)).any (·.1)=false:=by rfl):JE X R (.Call (.Name "sum" p) [e] [] pos) (D3 QY t):=
 jH (JN hc) ZW hm G7 ha hg @_ @_ he hU
def U3:Dt->Dt->Ms->DQ->Prop:=λd e M q=>∃u xs us,E_ d=some u/\mf M e=some xs/\iq xs=some us/\q (.bl (RG u us)) M
def Fy:Dt->Dt->Ms->DQ->Prop:=λd e M q=>∃u xs us,E_ d=some u/\mf M e=some xs/\iq xs=some us/\q (.bl (!RG u us)) M
def Xf{K:fI}:qy K (VQ K false) U3:=by intro G0 L0 H0 G L M H v1 v2 d1 d2 q e r n1 n2 ⟨u,xs,us,h1,h2,h3,hq⟩;have⟨rfl,fu⟩:=sH h1 n1;have⟨a,vs,rfl,sq,dn⟩:=oE r n2 h2;have⟨rfl,fs⟩:=fD h3 dn;exact⟨a,vs,rfl,sq,fu,fs,.bl _,G,L,M,e,r,rfl,hq⟩
def MH{K:fI}:qy K (VQ K true) Fy:=by intro G0 L0 H0 G L M H v1 v2 d1 d2 q e r n1 n2 ⟨u,xs,us,h1,h2,h3,hq⟩;have⟨rfl,fu⟩:=sH h1 n1;have⟨a,vs,rfl,sq,dn⟩:=oE r n2 h2;have⟨rfl,fs⟩:=fD h3 dn;exact⟨a,vs,rfl,sq,fu,fs,.bl _,G,L,M,e,r,rfl,hq⟩
def Dw(ja:JE X R a ta)(jb:JE X R b tb)(hm:behindInMarks .In b=false:=by rfl):JT X R (.Compare a [.In] [b] pos) (nO (lT U3 ta tb)):=iK GC Xf ja jb hm
def vK(ja:JE X R a ta)(jb:JE X R b tb)(hm:behindInMarks .NotIn b=false:=by rfl):JT X R (.Compare a [.NotIn] [b] pos) (nO (lT Fy ta tb)):=iK xC MH ja jb hm
end
def Inv.v_{X:Cx}{ζ:List (Addr×Obj)}{σ:St}{H:Hp}{s:Shared}{h':Heap}{its:List Addr}{T:Addr}{o:HO}{t':Nat}(I:Inv X ζ σ H s)(k:∀b u,b∉its->s.heap.get? b=some u->h'.get? b=some u)(f:∀b∈its,sQ X ζ H b)(hT:s.heap.objs.size<=T)(new:dE X.prog X.w (upd H T o) h' T o):
  Inv X ζ σ (upd H T o) {s with heap:=h',toks:=t'}:=by
 have hn:=I.bc.fresh hT;have VG:∀b u,H b=some u->b∉its:=λb u e z=>by rw[(f b z).1]at e;cases e
 refine I.call (ch:=its) (g':=s.gens) (d':=s.drawn) (t':=t') ⟨λb u q _ _ hb=>k b u hb q,λb u q _ _ hb=>⟨u.slots,k b u hb q⟩,λb u q n _=>?_,λb u q hb=>⟨u,k b u hb q⟩,λb xs q=>?_,λb u xs q=>?_,λb ps q=>⟨#[],?_⟩⟩ (λb u e=>?_) I.bare λb hb=>?_
 ·rw[Μ (aaU (aat (aaw q) hT))];exact n
 ·rw[Μ (cn q hn)];exact q
 ·rw[Μ (cn q hn)];exact q
 ·rw[Μ (cn q hn),q];simp
 ·by_cases hb:b=T
  ·subst hb;rw[az]at e;cases e;exact new
  ·rw[Μ hb]at e;refine(I.bc b u e).Dx (λc v hc q=>k c v ?_ q) (λc q=>by rw[Μ (cn q hn)];exact q) λc xs q=>by rw[Μ (cn q hn)];exact q
   rcases hc with z| z
   ·rw[z];exact VG b u e
   ·exact VG c _ z
 ·have⟨f0,f1,f2,f3,f4,f5⟩:=f b hb;exact⟨f3,f1,f4,f5⟩
def Ite(K:fI)(l:Addr):It:=
 ⟨λi H=>∃xs x,iS K H l xs/\xs[i]? =some x,λi H v H'=>∃p x,H p=none/\v= .ref p/\H'=upd H p (.tup [.int i,x])/\∀xs,iS K H l xs->xs[i]? =some x,λi H=>∃xs,iS K H l xs/\xs.length<=i⟩
def F_{P:Program}{w:World}{K:fI}{elts:List Expr}{x1:Nat}{tp:Pos}(l it e:Addr)(my:e≠it):Turn P w K (.Tuple elts x1 tp) (Ite K l) [e,it] e (λi h=>(∃old,IsEnum h e it i old)/\h.IsListIter it l i) where
 mem:=by simp
 obj:=λi h st b hb=>by
  have⟨⟨old,he⟩,hi⟩:=st;rcases aaL.mp hb with rfl| hb
  ·exact⟨_,he,λv z=>by
    have z':Data.fields _=Data.cell v:=z
    cases z'⟩
  ·have e:b=it:=by simpa using hb
   subst e;have⟨o,e,c,d⟩:=hi;exact⟨o,e,λv z=>by rw[d]at z;cases z⟩
 keep:=λi h h' st k=>by have⟨⟨old,he⟩,hi⟩:=st;exact⟨⟨old,k e (by simp) _ he⟩,hi.at λo q=>k it (by simp) o q⟩
 item:=by
  intro X hP hw hK hc i ζ s σ H E I hf st hg;subst hP hw hK;have⟨⟨old,he⟩,hi⟩:=st;have⟨xs,x,hq,hx⟩:=hg;have⟨its,rv,p,hz⟩:=I.list hq;have⟨u,hu,ru⟩:=rv.get hx;refine wpAny_pyNext_enum_item he hi p.isList (x:=u) (by simpa using hu) my λh' ho sE hT hsz hk=>?_;refine⟨_,rfl,wpAny_letOwnedTupleGo_enum (s:={s with heap:=h',toks:=s.toks+1}) ho λh2 he2 sb=>?_⟩;have sb:Heap.SameBut e h' h2:=sb;have elt:e < s.heap.objs.size:=aaw he;have ilt:it < s.heap.objs.size:=by have⟨o,q,_⟩:=hi;exact aaw q
  have neT:s.heap.objs.size≠e:=acI elt;have hT2:h2.get? s.heap.objs.size=some {cls:=.type "tuple",data:=.seq #[.int i s.toks,u]}:=(sb.2 _ neT).trans hT;have I2:Inv X ζ σ (upd H s.heap.objs.size (.tup [.int i,x])) {s with heap:=h2,toks:=s.toks+1}:=by
   refine I.v_ (its:=[e,it]) (λb o hb q=>?_) hf (aaj _) ?_
   ·have h1:b≠e:=λz=>hb (by simp[z]);have h3:b≠it:=λz=>hb (by simp[z]);exact(sb.2 b h1).trans (hk b o h1 h3 q)
   ·refine⟨by simp[sizeLine_eq],[.int i s.toks,u],.cons ⟨_,rfl⟩ (.cons ru .nil),?_⟩;exact⟨_,hT2,rfl,0,rfl⟩
  have iter:h2.IsListIter it l (i+1):=sE.at λo q=>(sb.2 it (Ne.symm my)).trans q;refine⟨.ref s.heap.objs.size,_,I2,rfl,⟨s.heap.objs.size,x,I.bc.fresh (Nat.le_refl _),rfl,rfl,λys hy=>by rw[I.og hy hq];exact hx⟩,⟨⟨u,by simpa using he2⟩,iter⟩,λb hb=>?_⟩;have nb:b≠s.heap.objs.size:=by
   rcases aaL.mp hb with rfl| hb
   ·exact aaU elt
   ·have:b=it:=by simpa using hb
    subst this;exact aaU ilt
  rw[Μ nb];exact(hf b hb).1
 done:=by intro X hP hw hK hc i ζ s σ H E I hf st hg;subst hP hw hK;have⟨⟨old,he⟩,hi⟩:=st;have⟨xs,hq,hx⟩:=hg;have⟨its,rv,p,hz⟩:=I.list hq;have hl:=rv.length;have⟨f0,f1,f2,f3,f4,f5⟩:=hf it (by simp);refine wpAny_pyNext_enum_end (I.ok.hd hc) he hi p.isList (by simp;omega) λh' ext=>⟨rfl,I.turned (t':=s.toks) (λb o hb q=>ext b o hb q) f0 f1 f3 f4 f5⟩
 self:=λ_ _ _ _ _ st h=>by have⟨⟨old,he⟩,_⟩:=st;exact wpAny_pyIter_enum he h
def jo:Nat->List Dt->List Dt
 | _,[]=>[]
 | n,x::xs=>.tup [.int n,x]::jo (n+1) xs
def j5:∀(n:Nat) (xs:List Dt),(jo n xs).length=xs.length
 | _,[]=>rfl
 | n,_::xs=>by unfold jo;rw[List.length_cons,List.length_cons,j5]
def pC:∀{n i:Nat} {xs:List Dt} {d:Dt},(jo n xs)[i]? =some d->∃x,xs[i]? =some x/\d= .tup [.int ((n+i:Nat):Int),x]
 | n,i,[],d,h=>by simp[jo]at h
 | n,0,x::xs,d,h=>by unfold jo at h;simp at h;exact⟨x,rfl,by rw[<-h];simp⟩
 | n,i+1,x::xs,d,h=>by unfold jo at h;have⟨y,h1,h2⟩:=pC (n:=n+1) (i:=i) (xs:=xs) (d:=d) (by simpa using h);exact⟨y,by simpa using h1,by rw[h2,show n+1+i=n+(i+1) by omega]⟩
def Lb{K:fI}{G:Hp}{L:List Addr}{a:Addr}{xs:List Dt}{ok:Ms->Prop}(s:Src K a xs ok G L):Qy K (Ite K a) (jo 0 xs) ok G L where
 go:=λi G1 L1 M1 H1 d g l r k e=>by have⟨vs,hs,n⟩:=s.at_ G1 L1 M1 H1 g l r k;have⟨y,ey,rfl⟩:=pC e;have⟨v,e1,n1⟩:=n.get ey;refine⟨⟨vs,v,hs,e1⟩,λv' H' xz=>?_⟩;have⟨p,x,hp,ev,eH,hx⟩:=xz;subst ev eH;have e2:=hx vs hs;rw[e1]at e2;cases e2;refine⟨_,r.Sa hp,r.NR hp,rj (ds:=[.int ((0+i:Nat):Int),y]) r hp ⟨_,_,rfl,?_,_,_,rfl,n1,rfl⟩⟩;show V.int i=V.int _;rw[Nat.zero_add]
 stop:=λi G1 L1 M1 H1 g l r k e=>by have⟨vs,hs,n⟩:=s.at_ G1 L1 M1 H1 g l r k;exact⟨vs,hs,by rw[<-n.length,<-j5 0];exact e⟩
def U8(t:DA):DK:=λρ M q x=>t ρ M (λds M1=>∃d xs ok,ds=[d]/\j7 M1 d=some (xs,ok)/\q (jo 0 xs) ok M1) x
def yL{X:Cx}{R:St->XK}{elts:List Expr}{x1:Nat}{tp:Pos}{a:Expr}{t:DA}{p pos:Pos}(hm:X.mg "enumerate"=none)(ha:JA X R [a] t)(hg:Gl X "enumerate":=by rfl)(hs:starEach [a] X.env=[(false,eval a X.env)]:=by rfl):JK X R (.Tuple elts x1 tp) (.Call (.Name "enumerate" p) [a] [] pos) (U8 t):=by
 intro ζ s σ H Q I ⟨G,L,ρ,M,q,x,rl,n,ht,hx,hQ⟩;refine Call_ (pJ I hg hm BZ (PyProof.Rows.callWith_type1 (bW (ha pos ζ s σ H (Oe X.K G L H _) I ⟨G,L,ρ,M,_,x,rl,n,ht,hx,λ_ _ f=>f⟩) λus s1 xz=>?_) hs rfl));have⟨vs,H1,I1,rv,ds,G1,L1,M1,e1,r1,n1,d,xs,ok,ed,hl,h1⟩:=xz;subst ed;have⟨v,rfl,n2⟩:=bH n1;have⟨b,ws,rfl,sq,sr,_⟩:=ux r1 n2 hl;have⟨u,rfl,ru⟩:=aH.one rv;cases ru;have⟨its,_,pl,_⟩:=I1.list sq;refine call_enumerate_list pl.isList λh' he hi hz hk=>?_;have I2:Inv X ζ σ H1 {s1 with heap:=h'}:=I1.kept (t':=s1.toks) hk;refine wpAny_pyIter_enum (s:={s1 with heap:=h'}) he ⟨s1.heap.objs.size+1,[s1.heap.objs.size+1,s1.heap.objs.size],_,_,H1,rfl,I2,F_ b s1.heap.objs.size (s1.heap.objs.size+1) (acI (abA _)),⟨⟨_,he⟩,hi⟩,λc hc=>?_,hQ _ _ ⟨_,ok,G1,L1,M1,e1,r1,Lb sr,h1⟩⟩;have hc:s1.heap.objs.size<=c:=by
  rcases aaL.mp hc with rfl| hc
  ·exact Nat.le_succ _
  ·have:c=s1.heap.objs.size:=by simpa using hc
   rw[this];exact aaj _
 have f:=I1.DL (H':=H1) hc (I1.bc.fresh hc);exact f
section
variable{X:Cx}{R:St->XK}{e e2:Expr}{t:DA}{p pos:Pos}
def vt:∀{zs:List Str} {us:List Value},Paired (λ(z:Str) (u:Value)=>∃tk,u= .str z tk) zs us->aH (zs.map V.str) us
 | _,_,.nil=>.nil
 | _,_,.cons h t=>.cons h (vt t)
def EN{x:Str}{zs:List Str}(hm:∃a o its n,X.mg x=some (.ref a)/\X.K.lookup a=some o/\o.cls= .type "tuple"/\o.data= .seq its n/\its.size<=sizeLine/\Paired (λ(z:Str) (u:Value)=>∃tk,u= .str z tk) zs its.toList)(hg:Gl X x:=by rfl)(hd:(x==("__debug__":Str))=false:=by decide):JE X R (.Name x pos) (dC (.kt (zs.map .str))):=by have⟨a,o,its,n,h1,h2,h3,h4,h5,h6⟩:=hm;exact Sl (v:=.ref a) (Fs hg h1 rfl hd) λG L=>⟨a,zs.map V.str,rfl,.inr ⟨o,its,n,h2,h3,h4,h5,vt h6⟩,wx⟩
end
def fG{te:DE}{cs:En}{ok:Ms->Prop}{f:Dt->Dt}:∀{xs Θ:List Dt} {M:Ms} {k:List Dt->Ms->Prop},ok M->(∀x∈xs,∀q:DQ,q (f x) M->te (some x::cs) M q l_)->k (Θ++xs.map f) M->wF te cs ok xs Θ M k
 | [],Θ,M,k,ho,_,h=>⟨ho,by simpa using h⟩
 | x::xs,Θ,M,k,ho,hf,h=>⟨ho,hf x List.mem_cons_self _ (fG ho (λy hy=>hf y (List.mem_cons_of_mem _ hy)) (by simpa using h))⟩
def cf{g:Dt->En->(En->Prop)->Prop}{tb:DS}{Dn:k_}{ok:Ms->Prop}(J:List Dt->En->Ms->Prop)(bc:∀xs ρ M,J xs ρ M->ok M)
  (step:∀x xs ρ M,J (x::xs) ρ M->(∀ρ M,J xs ρ M->pH g tb Dn ok xs ρ M)->g x ρ λρ'=>tb {Dn with nx:=pH g tb Dn ok xs,ct:=pH g tb Dn ok xs,bk:=Dn.nx} ρ' M)
  (fin:∀ρ M,J [] ρ M->Dn.nx ρ M):∀(xs:List Dt) (ρ:En) (M:Ms),J xs ρ M->pH g tb Dn ok xs ρ M
 | [],ρ,M,h=>⟨bc _ _ _ h,fin _ _ h⟩
 | x::xs,ρ,M,h=>⟨bc _ _ _ h,step x xs ρ M h λρ' M' h'=>cf J bc step fin xs ρ' M' h'⟩
section
variable{K:fI}{G:Hp}{L:List Addr}
mutual
def Px:∀(d:Dt) (v:V),Den K G L d v->d.under L.length
 | .bU,_,_=>trivial
 | .bl _,_,_=>trivial
 | .int _,_,_=>trivial
 | .str _,_,_=>trivial
 | .tup ds,_,⟨a,vs,e,h1,h2⟩=>fV ds vs h2
 | .lst ds,_,⟨a,vs,e,h1,h2⟩=>fV ds vs h2
 | .obj C ns ds,_,⟨a,dx,vs,e,h1,hl,h2⟩=>fV ds vs h2
 | .loc k,_,⟨a,e,h1⟩=>(aaf.mp h1).1
 | .ref _,_,_=>trivial
 | .ty _,_,_=>trivial
 | .ir _,_,_=>trivial
 | .kt ds,_,⟨a,vs,e,h1,h2⟩=>fV ds vs h2
 | .exc _ _ ds,_,⟨a,od,vs,e,h1,h2,h3,h4⟩=>fV ds vs h4
 | .Vs _ _ _ _ ds,_,⟨vs,e,h2,h3,h4⟩=>fV ds vs h4
def fV:∀(ds:List Dt) (vs:List V),Ω K G L ds vs->Dt.bX L.length ds
 | [],_,_=>trivial
 | d::ds,_,⟨v,r,e,h1,h2⟩=>⟨Px d v h1,fV ds r h2⟩
end
def Rl.un{M:Ms}{H:Hp}(r:Rl K G L M H):∀m∈M,MO.under M.length m:=λm hm=>by
 have⟨k,hk,e⟩:=abl hm;have em:M[k]? =some m:=by rw[aaa hk,e]
 have el:L[k]? =some (L[k]'(by rw[r.len];exact hk)):=aaa _;have⟨_,q⟩:=r.hI k _ m el em;rw[<-r.len];cases m with
 | lst ds=>have⟨vs,_,h⟩:=q;exact fV _ _ h
 | ins C ns ds=>have⟨dx,vs,_,_,h⟩:=q;exact fV _ _ h
 | fU ks ds=>have⟨vs,_,_,h⟩:=q;exact fV _ _ h
 | raw u=>trivial
end
def r_(M0:Ms)(q:DQ):DQ:=λd M=>∃E d',M=M0++E/\Ih M0.length E d d'/\q d' M0
def Fin.r_{K:fI}{G0:Hp}{L0:List Addr}{M0:Ms}{H0:Hp}{q:DQ}{v:V}{H:Hp}(r0:Rl K G0 L0 M0 H0)(f:Fin K G0 L0 H0 (r_ M0 q) v H):Fin K G0 L0 H0 q v H:=by have⟨d,G,L,M,ex,r,dn,E,d',e,fz,hq⟩:=f;exact Fin.EA r0 ⟨d,G,L,M,ex,r,dn,M0,E,d',e,rfl,r0.un,fz,hq⟩
def YN(t:DE):DE:=λρ M q x=>t ρ M (r_ M q) x
def dc{X:Cx}{R:St->XK}{e:Expr}{t:DE}(h:JE X R e t):JE X R e (YN t):=.of h λσ H G L ρ M q x rl n ht hx=>⟨G,L,ρ,M,_,x,rl,n,ht,hx,λv H1 f=>Fin.r_ rl f⟩
def MG{M0:Ms}{q:DQ}{d:Dt}(hu:d.under M0.length)(h:q d M0):r_ M0 q d M0:=⟨[],d,by simp,.old hu,h⟩
def mG{M0 E:Ms}{q:DQ}{d d':Dt}(f:Ih M0.length E d d')(h:q d' M0):r_ M0 q d (M0++E):=⟨E,d',rfl,f,h⟩
def gG(f:Expr->Option Dt):List Expr->Option (List Dt)
 | []=>some []
 | e::es=>match f e,gG f es with
  | some d,some ds=>some (d::ds)
  | _,_=>none
def g_:Nat->Expr->Option Dt
 | 0,e=>match e with
  | .Constant (.int i) _ _=>some (.int i)
  | .Constant (.str x) _ _=>some (.str x)
  | _=>none
 | n+1,e=>match e with
  | .Constant (.int i) _ _=>some (.int i)
  | .Constant (.str x) _ _=>some (.str x)
  | .Tuple es _ _=>if es.length<=100 then (gG (g_ n) es).map .tup else none
  | .List es _=>if es.length<=100 then (gG (g_ n) es).map .lst else none
  | _=>none
def BG{n:Nat}{e:Expr}{d:Dt}{es:List Expr}{env:Env}(h:g_ n e=some d):starEach (e::es) env=(false,eval e env)::starEach es env:=by cases n <;> (unfold g_ at h;split at h <;> first| rfl| cases h)
def lD{f:Expr->Option Dt}:∀{es:List Expr} {ds:List Dt},gG f es=some ds->ds.length=es.length
 | [],ds,h=>by cases h;rfl
 | e::es,ds,h=>by
  unfold gG at h;split at h
  ·rename_i d qx h1 h2;cases h;rw[aau,aau,lD h2]
  ·cases h
section
variable{X:Cx}{R:St->XK}
def uw{n:Nat}(ih:∀(e:Expr) (d:Dt),g_ n e=some d->JE X R e (dC d)):∀(es:List Expr) (ds:List Dt),gG (g_ n) es=some ds->JA X R es (λ_ M q _=>q ds M)
 | [],ds,h=>by cases h;exact θ
 | e::es,ds,h=>by
  unfold gG at h;split at h
  ·rename_i d qx h1 h2;cases h;exact ι (ih e d h1) (uw ih es qx h2) (hs:=BG h1)
  ·cases h
def EW{n:Nat}(h:n<=100):n<=sizeLine:=aax h @_
def JE.imp{e:Expr}{t t':DE}(h:JE X R e t)(hi:∀ρ M q x,t' ρ M q x->t ρ M q x):JE X R e t':=.of h λσ H G L ρ M q x rl n ht hx=>⟨G,L,ρ,M,q,x,rl,n,hi _ _ _ _ ht,hx,λ_ _ f=>f⟩
def jI:∀(n:Nat) {e:Expr} {d:Dt},g_ n e=some d->JE X R e (dC d)
 | 0,e,d,h=>by
  unfold g_ at h;split at h
  ·cases h;exact υ
  ·cases h;exact gP
  ·cases h
 | n +1,e,d,h=>by
  unfold g_ at h;split at h
  ·cases h;exact υ
  ·cases h;exact gP
  ·split at h
   ·rename_i es _ _ hl;cases hc:gG (g_ n) es with
    | none=>rw[hc]at h;cases h
    | some ds=>
     rw[hc]at h;cases h;exact(c_ (uw (λe d=>jI n) es ds hc)).imp λρ M q x hq=>⟨EW (by rw[lD hc];exact hl),hq⟩
   ·cases h
  ·split at h
   ·rename_i es _ hl;cases hc:gG (g_ n) es with
    | none=>rw[hc]at h;cases h
    | some ds=>
     rw[hc]at h;cases h;exact(oz (uw (λe d=>jI n) es ds hc)).imp λρ M q x hq=>⟨EW (by rw[lD hc];exact hl),hq⟩
   ·cases h
  ·cases h
end
def GK:bootBuiltins "zip"=some (.type "zip"):=by decide+kernel
def Inv.MR{X:Cx}{ζ:List (Addr×Obj)}{σ:St}{H:Hp}{s:Shared}{h':Heap}{its:List Addr}{t':Nat}(I:Inv X ζ σ H s)(k:∀b u,b∉its->s.heap.get? b=some u->h'.get? b=some u)(f:∀b∈its,sQ X ζ H b):
  Inv X ζ σ H {s with heap:=h',toks:=t'}:=by
 have VG:∀b u,H b=some u->b∉its:=λb u e z=>by rw[(f b z).1]at e;cases e
 refine I.call (ch:=its) (g':=s.gens) (d':=s.drawn) (t':=t') ⟨λb u q _ _ hb=>k b u hb q,λb u q _ _ hb=>⟨u.slots,k b u hb q⟩,λb u q n _=>n,λb u q hb=>⟨u,k b u hb q⟩,λb xs q=>q,λb u xs q=>q,λb ps q=>⟨#[],by rw[q];simp⟩⟩ (λb u e=>?_) I.bare λb hb=>?_
 ·refine(I.bc b u e).Dx (λc v hc q=>k c v ?_ q) (λc q=>q) λc xs q=>q;rcases hc with z| z
  ·rw[z];exact VG b u e
  ·exact VG c _ z
 ·have⟨f0,f1,f2,f3,f4,f5⟩:=f b hb;exact⟨f3,f1,f4,f5⟩
def Itz(K:fI)(l1 l2:Addr):It:=
 ⟨λi H=>∃xs ys x y,iS K H l1 xs/\iS K H l2 ys/\xs[i]? =some x/\ys[i]? =some y,
  λi H v H'=>∃p x y,H p=none/\v= .ref p/\H'=upd H p (.tup [x,y])/\(∀xs,iS K H l1 xs->xs[i]? =some x)/\∀ys,iS K H l2 ys->ys[i]? =some y,
  λi H=>∃xs ys,iS K H l1 xs/\iS K H l2 ys/\(xs.length<=i\/ys.length<=i)⟩
def I0{P:Program}{w:World}{K:fI}{elts:List Expr}{x1:Nat}{tp:Pos}{l1 l2 i1 i2 TI TO z:Addr}(D:ZipApart z TI TO i1 i2 l1 l2):Turn P w K (.Tuple elts x1 tp) (Itz K l1 l2) [z,TI,TO,i1,i2] z (λi h=>(∃a b,IsZip h z TI TO .none/\IsPair h TI (.ref i1) (.ref i2)/\IsPair h TO a b)/\h.IsListIter i1 l1 i/\h.IsListIter i2 l2 i) where
 mem:=by simp
 obj:=λi h st b hb=>by
  have⟨⟨a,c,hz,Kx,LR⟩,h1,h2⟩:=st;simp only[List.mem_cons,List.not_mem_nil,or_false]at hb;rcases hb with rfl| rfl| rfl| rfl| rfl
  ·exact⟨_,hz,λv z=>by
    have z':Data.fields _=Data.cell v:=z
    cases z'⟩
  ·exact⟨_,Kx,λv z=>by
    have z':Data.seq _=Data.cell v:=z
    cases z'⟩
  ·exact⟨_,LR,λv z=>by
    have z':Data.seq _=Data.cell v:=z
    cases z'⟩
  ·have⟨o,e,c,d⟩:=h1;exact⟨o,e,λv z=>by rw[d]at z;cases z⟩
  ·have⟨o,e,c,d⟩:=h2;exact⟨o,e,λv z=>by rw[d]at z;cases z⟩
 keep:=λi h h' st k=>by have⟨⟨a,c,hz,Kx,LR⟩,h1,h2⟩:=st;exact⟨⟨a,c,k z (by simp) _ hz,k TI (by simp) _ Kx,k TO (by simp) _ LR⟩,h1.at λo q=>k i1 (by simp) o q,h2.at λo q=>k i2 (by simp) o q⟩
 item:=by
  intro X hP hw hK hc i ζ s σ H E I hf st hg;subst hP hw hK;have⟨⟨a,c,hz,Kx,LR⟩,h1,h2⟩:=st;have⟨xs,ys,x,y,Sv,Sf,hx,hy⟩:=hg;have⟨Zb,WY,p1,_⟩:=I.list Sv;have⟨u1,hu1,ru1⟩:=WY.get hx;have⟨Ju,Ym,p2,_⟩:=I.list Sf;have⟨u2,hu2,ru2⟩:=Ym.get hy;refine wpAny_pyNext_zip_item D hz Kx LR h1 h2 p1.isList p2.isList (x:=u1) (y:=u2) (by simpa using hu1) (by simpa using hu2) λh' hz' Zq NO h2' hT hsz hk=>?_;refine⟨_,rfl,wpAny_letOwnedTupleGo_zip (s:={s with heap:=h'}) hz' λh3 hz3 sb=>?_⟩;have sb:Heap.SameBut z h' h3:=sb;have zlt:z < s.heap.objs.size:=aaw hz;have neT:s.heap.objs.size≠z:=acI zlt;have hT3:h3.get? s.heap.objs.size=some {cls:=.type "tuple",data:=.seq #[u1,u2]}:=(sb.2 _ neT).trans hT;have lt:∀b∈[z,TI,TO,i1,i2],b < s.heap.objs.size:=λb hb=>by
   simp only[List.mem_cons,List.not_mem_nil,or_false]at hb;rcases hb with rfl| rfl| rfl| rfl| rfl
   ·exact zlt
   ·exact aaw Kx
   ·exact aaw LR
   ·have⟨o,q,_⟩:=h1;exact aaw q
   ·have⟨o,q,_⟩:=h2;exact aaw q
  have I2:Inv X ζ σ (upd H s.heap.objs.size (.tup [x,y])) {s with heap:=h3,toks:=s.toks}:=by
   refine I.v_ (its:=[z,TI,TO,i1,i2]) (λb o hb q=>?_) hf (aaj _) ?_
   ·simp only[List.mem_cons,List.not_mem_nil,or_false,not_or]at hb;have⟨b1,b2,b3,b4,b5⟩:=hb;exact(sb.2 b b1).trans (hk b o b1 b3 b4 b5 q)
   ·refine⟨by simp[sizeLine_eq],[u1,u2],.cons ru1 (.cons ru2 .nil),?_⟩;exact⟨_,hT3,rfl,0,rfl⟩
  refine⟨.ref s.heap.objs.size,_,I2,rfl,⟨s.heap.objs.size,x,y,I.bc.fresh (aaj _),rfl,rfl,λzs XD=>by rw[I.og XD Sv];exact hx,λzs XD=>by rw[I.og XD Sf];exact hy⟩,⟨⟨u1,u2,hz3,(sb.2 _ D.TIz).trans (hk _ _ D.TIz D.TITO D.TIi1 D.TIi2 Kx),(sb.2 _ D.TOz).trans Zq⟩,NO.at λo q=>(sb.2 i1 D.i1z).trans q,h2'.at λo q=>(sb.2 i2 D.i2z).trans q⟩,λb hb=>?_⟩;rw[Μ (aaU (lt b hb))];exact(hf b hb).1
 done:=by intro X hP hw hK hc i ζ s σ H E I hf st hg;subst hP hw hK;have⟨⟨a,c,hz,Kx,LR⟩,h1,h2⟩:=st;have⟨xs,ys,Sv,Sf,hx⟩:=hg;have⟨Zb,WY,p1,_⟩:=I.list Sv;have⟨Ju,Ym,p2,_⟩:=I.list Sf;have Yp:=WY.length;have Hn:=Ym.length;refine wpAny_pyNext_zip_end (I.ok.hd hc) D hz Kx LR h1 h2 p1.isList p2.isList (by rcases hx with hx| hx;(left;simp;omega);(right;simp;omega)) λh' ext=>⟨rfl,I.MR (t':=s.toks) (its:=[z,TI,TO,i1,i2]) (λb o hb q=>?_) hf⟩;simp only[List.mem_cons,List.not_mem_nil,or_false,not_or]at hb;have⟨b1,b2,b3,b4,b5⟩:=hb;exact ext b o b1 b3 b4 b5 q
 self:=λ_ _ _ _ _ st h=>by have⟨⟨a,c,hz,_,_⟩,_⟩:=st;exact wpAny_pyIter_zip hz h
def qQ(xs ys:List Dt):List Dt:=(xs.zip ys).map λp=>.tup [p.1,p.2]
def Ki{xs ys:List Dt}{i:Nat}{d:Dt}(h:(qQ xs ys)[i]? =some d):∃x y,xs[i]? =some x/\ys[i]? =some y/\d= .tup [x,y]:=by
 unfold qQ at h;rw[aar]at h;cases e:(xs.zip ys)[i]? with
 | none=>rw[e]at h;cases h
 | some p=>
  rw[e]at h;cases h;have⟨h1,h2⟩:=List.getElem?_zip_eq_some.mp e;exact⟨p.1,p.2,h1,h2,rfl⟩
def zO(xs ys:List Dt):(qQ xs ys).length=min xs.length ys.length:=by unfold qQ;rw[List.length_map,List.length_zip]
def Np{K:fI}{G:Hp}{L:List Addr}{a b:Addr}{xs ys:List Dt}{ok Sh:Ms->Prop}(s:Src K a xs ok G L)(s':Src K b ys Sh G L):Qy K (Itz K a b) (qQ xs ys) (λM=>ok M/\Sh M) G L where
 go:=λi G1 L1 M1 H1 d g l r k e=>by have⟨vs,hs,n⟩:=s.at_ G1 L1 M1 H1 g l r k.1;have⟨V2,Wv,n'⟩:=s'.at_ G1 L1 M1 H1 g l r k.2;have⟨x,y,ex,ey,rfl⟩:=Ki e;have⟨v,e1,n1⟩:=n.get ex;have⟨v',e1',Ub⟩:=n'.get ey;refine⟨⟨vs,V2,v,v',hs,Wv,e1,e1'⟩,λw H' xz=>?_⟩;have⟨p,x2,y2,hp,ev,eH,hx,hy⟩:=xz;subst ev eH;have e2:=hx vs hs;rw[e1]at e2;cases e2;have e3:=hy V2 Wv;rw[e1']at e3;cases e3;exact⟨_,r.Sa hp,r.NR hp,rj (ds:=[x,y]) r hp ⟨_,_,rfl,n1,_,_,rfl,Ub,rfl⟩⟩
 stop:=λi G1 L1 M1 H1 g l r k e=>by have⟨vs,hs,n⟩:=s.at_ G1 L1 M1 H1 g l r k.1;have⟨V2,Wv,n'⟩:=s'.at_ G1 L1 M1 H1 g l r k.2;refine⟨vs,V2,hs,Wv,?_⟩;rw[<-n.length,<-n'.length];rw[zO]at e;omega
def YA(t:DA):DK:=λρ M q x=>t ρ M (λds M1=>∃d d' xs ys ok Sh,ds=[d,d']/\j7 M1 d=some (xs,ok)/\j7 M1 d'=some (ys,Sh)/\q (qQ xs ys) (λM=>ok M/\Sh M) M1) x
def BJ{X:Cx}{R:St->XK}{elts:List Expr}{x1:Nat}{tp:Pos}{a a':Expr}{t:DA}{p pos:Pos}(hm:X.mg "zip"=none)(ha:JA X R [a,a'] t)(hg:Gl X "zip":=by rfl)(hs:starEach [a,a'] X.env=(false,eval a X.env)::starEach [a'] X.env:=by rfl)(hU:(backTo pos (starEach [a'] X.env)).any (·.1)=false:=by rfl):JK X R (.Tuple elts x1 tp) (.Call (.Name "zip" p) [a,a'] [] pos) (YA t):=by
 intro ζ s σ H Q I ⟨G,L,ρ,M,q,x,rl,n,ht,hx,hQ⟩;refine Call_ (pJ I hg hm GK (PyProof.Rows.callWith_type1 (bW (ha pos ζ s σ H (Oe X.K G L H _) I ⟨G,L,ρ,M,_,x,rl,n,ht,hx,λ_ _ f=>f⟩) λus s1 xz=>?_) hs hU));have⟨vs,H1,I1,rv,ds,G1,L1,M1,e1,r1,n1,d,d',xs,ys,ok,Sh,ed,hl,YR,h1⟩:=xz;subst ed;have⟨v,v',rfl,n2,n2'⟩:=gY n1;have⟨b,ws,rfl,sq,sr,_⟩:=ux r1 n2 hl;have⟨b',ws',rfl,sq',sr',_⟩:=ux r1 n2' YR;cases rv with
 | cons ru rv=>
  cases rv with
  | cons ru' rv=>
   cases rv;cases ru;cases ru';have⟨its,_,pl,_⟩:=I1.list sq;have⟨its',_,Aa,_⟩:=I1.list sq';have lt1:b < s1.heap.objs.size:=by have⟨o,q,_⟩:=pl.isList;exact aaw q
   have lt2:b' < s1.heap.objs.size:=by have⟨o,q,_⟩:=Aa.isList;exact aaw q
   refine call_zip_2 pl.isList Aa.isList λh' hz Kx LR hi sE hsz hk=>?_;have I2:Inv X ζ σ H1 {s1 with heap:=h'}:=I1.kept (t':=s1.toks) hk;have D:ZipApart (s1.heap.objs.size+4) (s1.heap.objs.size+2) (s1.heap.objs.size+3) s1.heap.objs.size (s1.heap.objs.size+1) b b':=by have ne:∀i j:Nat,i≠j->s1.heap.objs.size+i≠s1.heap.objs.size+j:=λi j h z=>h (Nat.add_left_cancel z);have n1:∀i:Nat,b≠s1.heap.objs.size+i:=λi=>aaU (aat lt1 (abX _ _));have n2:∀i:Nat,b'≠s1.heap.objs.size+i:=λi=>aaU (aat lt2 (abX _ _));exact⟨ne 2 4 @_,ne 3 4 @_,ne 0 4 @_,ne 1 4 @_,ne 2 3 @_,ne 2 0 @_,ne 2 1 @_,ne 3 0 @_,ne 3 1 @_,ne 0 1 @_,n1 4,n1 3,n1 0,n1 1,n2 4,n2 3,n2 0,n2 1⟩
   refine wpAny_pyIter_zip (s:={s1 with heap:=h'}) hz ⟨s1.heap.objs.size+4,[s1.heap.objs.size+4,s1.heap.objs.size+2,s1.heap.objs.size+3,s1.heap.objs.size,s1.heap.objs.size+1],_,_,H1,rfl,I2,I0 D,⟨⟨_,_,hz,Kx,LR⟩,hi,sE⟩,λc hc=>?_,hQ _ _ ⟨_,_,G1,L1,M1,e1,r1,Np sr sr',h1⟩⟩;have hc:s1.heap.objs.size<=c:=by
    simp only[List.mem_cons,List.not_mem_nil,or_false]at hc;rcases hc with rfl| rfl| rfl| rfl| rfl
    ·exact abX _ _
    ·exact abX _ _
    ·exact abX _ _
    ·exact aaj _
    ·exact abX _ _
   have f:=I1.DL (H':=H1) hc (I1.bc.fresh hc);exact f
section
variable{X:Cx}{R:St->XK}{elt iter c:Expr}{x y:Str}{px py tp:Pos}{scope:Scope}{pos:Pos}{ti:DK}{tc:DT}{te:DE}{ys:List Str}{af:List Nat}{kk:Nat}
def zG(S:aG X scope [x] ys af)(hi:JK X R (.Name x px) iter ti)(ht:∀C s H fp,JT (Cx.comp X (x::ys) scope C s H fp) (λ_=>E0) c tc)(he:∀C s H fp,JE (Cx.comp X (x::ys) scope C s H fp) (λ_=>E0) elt te)(hc:X.calm=true:=by rfl)(hs:∀x,foldedSetIterable iter X.env x=pure x:=by intro _;rfl):JE X R (.ListComp elt [⟨.Name x px,iter,[c],0⟩] scope pos) (Du 1 ti (gN 0) tc te af):=UR false S hi (g9 S (i:=0) rfl) bq (ij (Nat.zero_lt_succ 0)) (λC s H fp=>FD (ht C s H fp)) he hc hs λ_ _ _ _ h=>h
def Iq(S:aG X scope [x,y] ys af)(hi:JK X R (.Tuple [.Name x px,.Name y py] kk tp) iter ti)(ht:∀C s H fp,JT (Cx.comp X (x::y::ys) scope C s H fp) (λ_=>E0) c tc)(he:∀C s H fp,JE (Cx.comp X (x::y::ys) scope C s H fp) (λ_=>E0) elt te)(hc:X.calm=true:=by rfl)(hs:∀x,foldedSetIterable iter X.env x=pure x:=by intro _;rfl):JE X R (.ListComp elt [⟨.Tuple [.Name x px,.Name y py] kk tp,iter,[c],0⟩] scope pos) (Du 2 ti (g2 0 1) tc te af):=UR false S hi (yd hc S) lG (pq (Nat.zero_lt_succ 1) (abA 1)) (λC s H fp=>FD (ht C s H fp)) he hc hs λ_ _ _ _ h=>h
end
def e7{g:Dt->En->(En->Prop)->Prop}{tc:DT}{te:DE}{ρ0:En}{ok:Ms->Prop}{M:Ms}{k:List Dt->Ms->Prop}(ho:ok M)(b:Dt->Bool)(f:Dt->Dt):∀(xs Θ:List Dt),(∀x∈xs,∀(q:DQ) (p:Ms->Prop),(b x=true->q (f x) M)->(b x=false->p M)->g x ρ0 λρ'=>tc ρ' M (λb' M1=>match b' with| true=>te ρ' M1 q l_| false=>p M1) l_)->
  k (Θ++(xs.filter b).map f) M->i8 g tc te ρ0 ok xs Θ M k
 | [],Θ,_,h=>⟨ho,by simpa using h⟩
 | x::xs,Θ,ht,h=>⟨ho,ht x List.mem_cons_self _ _ (λhb=>e7 ho b f xs _ (λy hy=>ht y (List.mem_cons_of_mem _ hy)) (by simpa [hb] using h)) λhb=>e7 ho b f xs _ (λy hy=>ht y (List.mem_cons_of_mem _ hy)) (by simpa [hb] using h)⟩
def He(xs:List V)(k:Nat):uO xs (some (k:Int)) none=xs.drop k:=by
 unfold uO;rw[HT.qT,HT.zN];by_cases h:k<=xs.length
 ·rw[acD h,abp (by rw[abW];omega)]
 ·rw[Nat.min_eq_right (),List.drop_eq_nil_of_le (Nat.le_refl _),List.drop_eq_nil_of_le ()];simp
section
variable{κ:Type} [DecidableEq κ]
def ko(Ρ:List (κ×V))(k:κ):Option V:=(Ρ.find? λkv=>decide (kv.1=k)).map (·.2)
def iT(Ρ:List (κ×V))(k:κ)(v:V):List (κ×V):=
 if (Ρ.any λkv=>decide (kv.1=k))=true then Ρ.map (λkv=>if kv.1=k then (kv.1,v) else kv) else Ρ++[(k,v)]
def fg{p:κ×V}{r:List (κ×V)}{k:κ}(e:p.1=k):ko (p::r) k=some p.2:=by simp[ko,List.find?_cons,e]
def fb{p:κ×V}{r:List (κ×V)}{k:κ}(e:¬p.1=k):ko (p::r) k=ko r k:=by simp[ko,List.find?_cons,e]
def nV(k:κ):∀Ρ:List (κ×V),(Ρ.any λkv=>decide (kv.1=k))=(ko Ρ k).isSome
 | []=>rfl
 | p::r=>by
  rw[ab7];by_cases e:p.1=k
  ·simp only[fg e,decide_eq_true e,Bool.true_or,Option.isSome_some]
  ·rw[fb e,aaG e,Bool.false_or];exact nV k r
def vL(k j:κ)(y:V):∀Ρ:List (κ×V),ko Ρ k=none->ko (Ρ++[(k,y)]) j=if j=k then some y else ko Ρ j
 | [],_=>by
  by_cases e:k=j
  ·rw[aaz e.symm];exact fg (p:=(k,y)) e
  ·rw[aaC (λz=>e z.symm)];exact fb (p:=(k,y)) e
 | p::r,hn=>by
  rw[List.cons_append];have hk:¬p.1=k:=λz=>by rw[fg z]at hn;cases hn
  rw[fb hk]at hn;have ih:=vL k j y r hn;by_cases e:p.1=j
  ·rw[fg e,fg e,aaC (λz=>hk (e.trans z))]
  ·rw[fb e,fb e,ih]
def lE(Ρ:List (κ×V))(k:κ)(v:V):(iT Ρ k v).length<=Ρ.length+1:=by
 unfold iT;split
 ·rw[aae];omega
 ·rw[aah,aau,acf];omega
def Ko{Ρ:List (κ×V)}{k:κ}(v:V)(h:ko Ρ k=none):iT Ρ k v=Ρ++[(k,v)]:=by unfold iT;rw[nV,h];exact aaC @_
def lj.jq{o:Option V}{u:Option Value}(r:lj o u):o.isSome=u.isSome:=by
 cases o with
 | none=>cases u with
  | none=>rfl
  | some _=>exact(show False from r).elim
 | some _=>cases u with
  | none=>exact(show False from r).elim
  | some _=>rfl
def KV.val{Ρ:List (κ×V)}{vs:List (κ×Value)}(r:KV Ρ vs)(k:κ):lj (ko Ρ k) (valueAt vs k):=by
 unfold KV at r
 induction r with
 | nil=>exact True.intro
 | @cons p q ps qs h t ih=>
  have⟨h1,h2⟩:=h;by_cases e:p.1=k
  ·have e':q.1=k:=h1.symm.trans e;have b:valueAt (q::qs) k=some q.2:=by simp[valueAt,List.find?_cons,e']
   rw[fg e,b];exact h2
  ·have e':¬q.1=k:=λz=>e (h1.trans z);have b:valueAt (q::qs) k=valueAt qs k:=by simp[valueAt,List.find?_cons,e']
   rw[fb e,b];exact ih
def KV.any{Ρ:List (κ×V)}{vs:List (κ×Value)}(r:KV Ρ vs)(k:κ):(Ρ.any λkv=>decide (kv.1=k))=vs.any λkv=>decide (kv.1=k):=by
 unfold KV at r
 induction r with
 | nil=>rfl
 | cons h t ih=>rw[ab7,ab7,ih,h.1]
def KV.RO{Ρ:List (κ×V)}{vs:List (κ×Value)}(r:KV Ρ vs)(k:κ){y:V}{u:Value}(ry:aS y u):
  KV (Ρ.map λkv=>if kv.1=k then (kv.1,y) else kv) (vs.map λkv=>if kv.1=k then (kv.1,u) else kv):=by
 unfold KV at r⊢
 induction r with
 | nil=>exact .nil
 | @cons p q ps qs h t ih=>
  rw[aaQ,aaQ];refine .cons ?_ ih;have⟨h1,h2⟩:=h;by_cases e:p.1=k
  ·rw[aaz e,aaz (h1.symm.trans e)];exact⟨h1,ry⟩
  ·rw[aaC e,aaC (λz=>e (h1.trans z))];exact⟨h1,h2⟩
def KV.put{Ρ:List (κ×V)}{vs:List (κ×Value)}(r:KV Ρ vs)(k:κ){y:V}{u:Value}(ry:aS y u):KV (iT Ρ k y) (stored vs k u):=by
 unfold iT stored;rw[r.any k];by_cases e:(vs.any λkv=>decide (kv.1=k))=true
 ·rw[aaz e,aaz e];exact r.RO k ry
 ·rw[aaC e,aaC e];exact Paired.snoc r ⟨rfl,ry⟩
def KV.length{Ρ:List (κ×V)}{vs:List (κ×Value)}(r:KV Ρ vs):Ρ.length=vs.length:=Paired.length r
end
def ud{P:Program}{w:World}{k:Key}{u:Value}(r:aS (kV k) u):(bV P w).is k u=true:=by
 cases k with
 | inl i=>have⟨t,e⟩:=(show∃t,u=Value.int i t from r);subst e;exact z_ P w i t
 | inr x=>have⟨t,e⟩:=(show∃t,u=Value.str x t from r);subst e;exact zt P w x t
def wy{P:Program}{w:World}:∀{ks:List Key} {us:List Value},aH (ks.map kV) us->ItemsAre (bV P w) ks us
 | [],_,r=>by rw[List.map_nil]at r;cases r;exact .nil
 | k::ks,_,r=>by
  rw[aaQ]at r;cases r with
  | cons h t=>exact .cons (ud h) (wy t)
abbrev KT(H:Hp):List (List Key×V)->List (List Key×Addr×Value)->Prop:=Paired λp q=>p.1=q.1/\H q.2.1=some (.tup (p.1.map kV))/\aS p.2 q.2.2
def KT.val{H:Hp}{Ρ:List (List Key×V)}{xs:List (List Key×Addr×Value)}(r:KT H Ρ xs)(k:List Key):lj (ko Ρ k) ((atKey xs k).map (·.2)):=by
 induction r with
 | nil=>exact True.intro
 | @cons p q ps qs h t ih=>
  have⟨h1,_,h2⟩:=h;by_cases e:p.1=k
  ·have e':q.1=k:=h1.symm.trans e;have b:atKey (q::qs) k=some q.2:=by simp[atKey,List.find?_cons,e']
   rw[fg e,b];exact h2
  ·have e':¬q.1=k:=λz=>e (h1.trans z);have b:atKey (q::qs) k=atKey qs k:=by simp[atKey,List.find?_cons,e']
   rw[fb e,b];exact ih
def KT.RO{H:Hp}{Ρ:List (List Key×V)}{xs:List (List Key×Addr×Value)}(r:KT H Ρ xs)(k:List Key){y:V}{u:Value}(ry:aS y u):
  KT H (Ρ.map λkv=>if kv.1=k then (kv.1,y) else kv) (xs.map (putAt k u)):=by
 induction r with
 | nil=>exact .nil
 | @cons p q ps qs h t ih=>
  rw[aaQ,aaQ];refine .cons ?_ ih;have⟨h1,h2,h3⟩:=h;unfold putAt;by_cases e:p.1=k
  ·rw[aaz e,aaz (h1.symm.trans e)];exact⟨h1,h2,ry⟩
  ·rw[aaC e,aaC (λz=>e (h1.trans z))];exact⟨h1,h2,h3⟩
def KT.put{H:Hp}{Ρ:List (List Key×V)}{xs:List (List Key×Addr×Value)}(r:KT H Ρ xs)(k:List Key){b:Addr}{y:V}{u:Value}(hb:H b=some (.tup (k.map kV)))(ry:aS y u):
  KT H (iT Ρ k y) (storedH xs k b u):=by
 have e:(Ρ.any λkv=>decide (kv.1=k))=(atKey xs k).isSome:=by rw[nV,(r.val k).jq,Option.isSome_map]
 unfold iT storedH;rw[e];by_cases q:(atKey xs k).isSome=true
 ·rw[aaz q,aaz q];exact r.RO k ry
 ·rw[aaC q,aaC q];exact Paired.snoc r ⟨rfl,hb,ry⟩
def KT.keeps{H H':Hp}{Ρ:List (List Key×V)}{xs:List (List Key×Addr×Value)}(r:KT H Ρ xs)(ht:∀b ys,H b=some (.tup ys)->H' b=some (.tup ys)):KT H' Ρ xs:=
 Paired.PD r λ_ _ z=>⟨z.1,ht _ _ z.2.1,z.2.2⟩
section
variable{P:Program}{w:World}{H:Hp}{h:Heap}{a:Addr}
def Oo{u:HO}(ok:me P w H h)(e:Rd H a u):dE P w H h a u:=e.ok ok
def om{Ρ:List (Key×V)}(ok:me P w H h)(e:Rd H a (.dK Ρ)):Ρ.length<=sizeLine/\(a==sysModules)=false/\∃vs,KV Ρ vs/\h.DictOf (bV P w) a vs:=
 show dE P w H h a (.dK Ρ) from Oo ok e
def Ec{Ρ:List (Key×V)}(ok:me P w H h)(e:H a=some (.dK Ρ)):Ρ.length<=sizeLine/\(a==sysModules)=false/\∃vs,KV Ρ vs/\h.DictOf (bV P w) a vs:=om ok (.inl e)
def uv{ks:List Key}(ok:me P w H h)(e:H a=some (.tup (ks.map kV))):(tupleKind (bV P w)).is h ks a:=by have⟨_,its,r,o,h1,h2,n,h3⟩:=(show dE P w H h a (.tup (ks.map kV)) from ok a _ e);exact⟨o,its.toArray,n,h1,h2,h3,by simpa using wy r⟩
def vT{Ρ:List (List Key×V)}(ok:me P w H h)(e:Rd H a (.dT Ρ)):Ρ.length<=sizeLine/\(a==sysModules)=false/\
  ∃xs,KT H Ρ xs/\h.DictOfH (tupleKind (bV P w)) a xs:=by
 have⟨z,y,xs,r,o,es,ep,h1,h2,h3,h4,h5⟩:=(show dE P w H h a (.dT Ρ) from Oo ok e);refine⟨z,y,xs,r,o,es,ep,h1,h2,h3,h4,λx hx=>?_,h5⟩;have all:∀{l:List (List Key×V)} {m:List (List Key×Addr×Value)},KT H l m->∀x∈m,(tupleKind (bV P w)).is h x.1 x.2.1:=by
  intro l m q
  induction q with
  | nil=>intro x hx;exact nomatch hx
  | @cons p q ps qs hq t ih=>
   intro x hx;rcases aaL.mp hx with e| hx
   ·subst e;exact uv ok (by rw[<-hq.1];exact hq.2.1)
   ·exact ih x hx
 exact all r x hx
def S7{Ρ:List (List Key×V)}(ok:me P w H h)(e:H a=some (.dT Ρ)):Ρ.length<=sizeLine/\(a==sysModules)=false/\
  ∃xs,KT H Ρ xs/\h.DictOfH (tupleKind (bV P w)) a xs:=vT ok (.inl e)
end
def wY(H:Hp)(a:Addr)(y:V)(r:Option V):Prop:=
 (∃Ρ k,Rd H a (.dK Ρ)/\y=kV k/\r=ko Ρ k)\/∃Ρ k b,Rd H a (.dT Ρ)/\y= .ref b/\H b=some (.tup (k.map kV))/\r=ko Ρ k
def IE(H:Hp)(a:Addr)(y v:V)(H':Hp):Prop:=
 (∃Ρ k,H a=some (.dK Ρ)/\y=kV k/\Ρ.length < sizeLine/\H'=upd H a (.dK (iT Ρ k v)))\/
 ∃Ρ k b,H a=some (.dT Ρ)/\y= .ref b/\H b=some (.tup (k.map kV))/\Ρ.length < sizeLine/\H'=upd H a (.dT (iT Ρ k v))
def IE.k{H:Hp}{a:Addr}{Ρ:List (Key×V)}{k:Key}{v:V}(e:H a=some (.dK Ρ))(hl:Ρ.length < sizeLine):IE H a (kV k) v (upd H a (.dK (iT Ρ k v))):=.inl ⟨Ρ,k,e,rfl,hl,rfl⟩
section
variable{X:Cx}{ζ:List (Addr×Obj)}{σ:St}{H:Hp}{s:Shared}{a:Addr}{y v:V}{u r:Value}{o:Option V}{A:Around}{E:Value->Shared->Prop}
def Inv.big(I:Inv X ζ σ H s):sysModules < s.heap.objs.size:=by have h:mainGlobals < s.heap.objs.size:=(I.mod.glob.keeps I.bk).lt;exact Nat.lt_trans @_ h
def GX{Q:Value->Shared->Prop}(hu:A.units+1 < cLine)(I:Inv X ζ σ H s)(g:wY H a y (some v))(ry:aS y u)(h:∀w' s',Inv X ζ σ H s'->aS v w'->Q w' s'):
  wpAny (model X.prog X.w) A (getItem (.ref a) u) Q E s:=by
 rcases g with ⟨Ρ,k,e,ey,l⟩| ⟨Ρ,k,b,e,ey,eb,l⟩
 ·subst ey;have⟨z,hd,vs,rel,dd⟩:=om I.bc e;have⟨w',hw,HM⟩:=lj.some_of (v:=v) (o:=valueAt vs k) (by rw[l];exact rel.val k);exact wpAny_getItem_of (ud ry) dd.mapOf hw (h w' _ (I.tok _) HM)
 ·subst ey;cases(show u=Value.ref b from ry);have⟨z,hd,xs,rel,dd⟩:=vT I.bc e;have⟨w',hw,HM⟩:=lj.some_of (v:=v) (o:=(atKey xs k).map (·.2)) (by rw[l];exact rel.val k);have⟨p,hp,X6⟩:=Option.map_eq_some_iff.mp hw;refine wpAny_getItem_heap (tupleKind_room_in1 hu) (uv I.bc eb) dd hp ?_;rw[X6];exact h w' _ (I.tok _) HM
def Xz{Q:Value->Shared->Prop}(hu:A.units+1 < cLine)(I:Inv X ζ σ H s)(g:wY H a y o)(ry:aS y u)(h:∀s',Inv X ζ σ H s'->Q (.bool o.isSome) s'):
  wpAny (model X.prog X.w) A (compareOp .In u (.ref a)) Q E s:=by
 rcases g with ⟨Ρ,k,e,ey,l⟩| ⟨Ρ,k,b,e,ey,eb,l⟩
 ·subst ey;have⟨z,hd,vs,rel,dd⟩:=om I.bc e;refine wpAny_in_of (ud ry) hd dd.mapOf ?_;rw[<-(rel.val k).jq,<-l];exact h _ (I.tok _)
 ·subst ey;cases(show u=Value.ref b from ry);have⟨z,hd,xs,rel,dd⟩:=vT I.bc e;refine wpAny_in_heap (tupleKind_room_in1 hu) (uv I.bc eb) hd dd ?_;have q:=(rel.val k).jq;rw[Option.isSome_map]at q;rw[<-q,<-l];exact h _ (I.tok _)
def L_{Q:Value->Shared->Prop}(hu:A.units+1 < cLine)(I:Inv X ζ σ H s)(g:wY H a y o)(ry:aS y u)(h:∀s',Inv X ζ σ H s'->Q (.bool (!o.isSome)) s'):
  wpAny (model X.prog X.w) A (compareOp .NotIn u (.ref a)) Q E s:=by
 rcases g with ⟨Ρ,k,e,ey,l⟩| ⟨Ρ,k,b,e,ey,eb,l⟩
 ·subst ey;have⟨z,hd,vs,rel,dd⟩:=om I.bc e;refine wpAny_notIn_of (ud ry) hd dd.mapOf ?_;rw[<-(rel.val k).jq,<-l];exact h _ (I.tok _)
 ·subst ey;cases(show u=Value.ref b from ry);have⟨z,hd,xs,rel,dd⟩:=vT I.bc e;refine wpAny_notIn_heap (tupleKind_room_in1 hu) (uv I.bc eb) hd dd ?_;have q:=(rel.val k).jq;rw[Option.isSome_map]at q;rw[<-q,<-l];exact h _ (I.tok _)
def rq{h':Heap}{t':Nat}{ob:HO}(I:Inv X ζ σ H s)(mu:R9 (H a))(hs:Heap.SameBut a s.heap h')(he:∃q,h'.get? a=some q)(new:dE X.prog X.w (upd H a ob) h' a ob):
  Inv X ζ σ (upd H a ob) {s with heap:=h',toks:=t'}:=
 I.write (x:=a) (e:=a) mu (.inl rfl) (λb q hb z=>(hs.2 b hb).trans z) he new
def rV{P:Program}{w:World}{H':Hp}{h':Heap}{Ρ:List (Key×V)}{vs:List (Key×Value)}(z:Ρ.length<=sizeLine)(hd:(a==sysModules)=false)(rel:KV Ρ vs)(dd:h'.DictOf (bV P w) a vs):
  dE P w H' h' a (.dK Ρ):=⟨z,hd,vs,rel,dd⟩
def GI{H':Hp}{Q:Unit->Shared->Prop}(hu:A.units+1 < cLine)(I:Inv X ζ σ H s)(g:IE H a y v H')(ry:aS y u)(rv:aS v r)(h:∀s',Inv X ζ σ H' s'->Q Unit.unit s'):
  wpAny (model X.prog X.w) A (setItem (.ref a) u r) Q E s:=by
 rcases g with ⟨Ρ,k,e,ey,l,eH⟩| ⟨Ρ,k,b,e,ey,eb,l,eH⟩
 ·subst ey eH;have⟨z,hd,vs,rel,dd⟩:=Ec I.bc e;have hz:vs.length<=sizeLine:=by rw[<-rel.length];exact z
  have hl:(iT Ρ k v).length<=sizeLine:=by have:=lE Ρ k v;omega
  refine wpAny_setItem_pairs (hsz:=hz) (ud ry) dd λh' N0 hs=>h _ ?_;have he:∃q,h'.get? a=some q:=let ⟨q,_,_,hq,_⟩:=N0;⟨q,hq⟩
  exact rq I (by rw[e];exact True.intro) hs he (rV hl hd (rel.put k rv) N0)
 ·subst ey eH;cases(show u=Value.ref b from ry);have⟨z,hd,xs,rel,dd⟩:=S7 I.bc e;have hz:xs.length<=sizeLine:=by rw[<-Paired.length rel];exact z
  have hl:(iT Ρ k v).length<=sizeLine:=by have:=lE Ρ k v;omega
  refine wpAny_setItem_heap (hsz:=hz) (tupleKind_room_in1 hu) (uv I.bc eb) dd λh' N0 hs=>h _ ?_;have⟨q,es,ep,hq,h2,h3,h4,_,h5⟩:=N0;refine rq I (by rw[e];exact True.intro) hs ⟨q,hq⟩ ⟨hl,hd,_,(rel.put k eb rv).keeps λc ys ec=>?_,q,es,ep,hq,h2,h3,h4,h5⟩;rw[Μ (Sq ec e nofun)];exact ec
end
section
variable{X:Cx}{ζ:List (Addr×Obj)}{σ:St}{H:Hp}{s:Shared}{a:Addr}{Ρ:List (Key×V)}{k:Key}{u:Value}{A:Around}{E:Value->Shared->Prop}
def UB{Q:Value->Shared->Prop}(I:Inv X ζ σ H s)(e:Rd H a (.dK Ρ))(h:∀t s',Inv X ζ σ H s'->Q (.int Ρ.length t) s'):wpAny (model X.prog X.w) A (call (.builtin "len") [.ref a]) Q E s:=by have⟨z,hd,vs,rel,dd⟩:=om I.bc e;refine call_len_dict hd dd (by rw[<-rel.length];rw[sizeLine_eq]at z;omega) ?_;rw[<-rel.length];exact h _ _ (I.tok _)
end
def DP(i:Expr):Prop:=∀ov iv,subscripted i false ov iv=operate [ov,iv] (getItem ov iv)
def xU{prog:Program}{w:World}{A:Around}{E:Value->Shared->Prop}{s:Shared}{env:Env}{value slice:Expr}{pos:Pos}{T id:String}{Q:Value->Shared->Prop}
  (hl:typeLookup (.type T) "__getitem__"=pure (some (.builtin id))) (hs:DP slice)
  (h:wpAny (model prog w) A (eval value env) (λo s₁=>wpAny (model prog w) A (eval slice env) (λi s₂=>s₂.TypeIs o T/\wpAny (model prog w) A (getItem o i) Q E s₂) E s₁) E s):
  wpAny (model prog w) A (eval (.Subscript value slice pos) env) Q E s:=by
 refine Subscript_ (acj h (λo s₁ h₁=>acj h₁ (λi s₂ h₂=>?_) λ_ _ x=>x) λ_ _ x=>x);have⟨hT,h₂⟩:=h₂;unfold subscriptTail;refine aaM ?_;rw[getitemInPython_of_ne hT.not_modules];refine aaM (wpAny_specialOf hT hl ?_);have fin:wpAny (model prog w) A (subscripted slice false o i) (λr s₃=>wpAny (model prog w) A (letTemporaryGo value o r >>= λ_=>pure r) Q E s₃) E s₂:=by rw[hs o i];exact wpAny_operating (acj h₂ (λr s₃ h₃=>aaM (wpAny_letTemporaryGo (abf h₃))) λ_ _ x=>x)
 first
  | exact abf (aaM fin)
  | exact aaM (abf (aaM fin))
  | exact aaM fin
def A_{X:Cx}{ζ:List (Addr×Obj)}{σ:St}{H:Hp}{s:Shared}{a:Addr}{y:V}{o:Option V}(I:Inv X ζ σ H s)(g:wY H a y o):s.TypeIs (.ref a) "dict":=by
 rcases g with ⟨Ρ,k,e,_,_⟩| ⟨Ρ,k,b,e,_,_,_⟩
 ·have⟨_,_,vs,_,dd⟩:=om I.bc e;exact dd.typeIs
 ·have⟨_,_,xs,_,dd⟩:=vT I.bc e;exact dd.typeIs
def TY(td ty:TE):TE:=λσ H Q=>td σ H λx H1=>ty σ H1 λy H2=>∃a v,x= .ref a/\wY H2 a y (some v)/\Q v H2
def Tc(td ty tv:TE):TS:=λD σ H=>tv σ H λv H1=>td σ H1 λx H2=>ty σ H2 λy H3=>∃a H4,x= .ref a/\IE H3 a y v H4/\D.nx σ H4
section
variable{X:Cx}{o i e value:Expr}{pos pos' u7:Pos}{td ty tv:TE}
def Mq(hu:X.A.units+1 < cLine)(ho:PE X o td)(hi:PE X i ty)(hs:DP i):PE X (.Subscript o i pos) (TY td ty):=by intro ζ s σ H Q I h;refine xU acr.lookup hs (bW (ho ζ s σ H _ I h) fun u s1 ⟨x,H1,I1,rx,q1⟩=>bW (hi ζ s1 σ H1 _ I1 q1) λiv s2 xz=>?_);have⟨y,H2,I2,ry,a,v,ex,g,q2⟩:=xz;subst ex;obtain rfl:u=Value.ref a:=rx;exact⟨A_ I2 g,GX hu I2 g ry λw' s3 I3 HM=>⟨v,H2,I3,HM,q2⟩⟩
def Ma(hu:X.A.units+1 < cLine)(ho:PE X o td)(hi:PE X i ty)(hv:PE X value tv)(hs:swapsWith value (some (.Subscript o i pos')) pos.line X.env=pure false):
  PS X (.Assign [.Subscript o i pos'] value pos) (Tc td ty tv):=by
 intro ζ s σ H D I h;refine wpAny_Assign_Subscript (bW (hv ζ s σ H _ I h) fun r s1 ⟨v,H1,I1,rv,q1⟩=>bW (ho ζ s1 σ H1 _ I1 q1) fun u s2 ⟨x,H2,I2,rx,q2⟩=>bW (hi ζ s2 σ H2 _ I2 q2) λiv s3 xz=>?_) hs;have⟨y,H3,I3,ry,a,H4,ex,g,q3⟩:=xz;subst ex;obtain rfl:u=Value.ref a:=rx;exact GI hu I3 g ry rv λs4 I4=>⟨σ,H4,I4,q3⟩
end
def AV{P:Program}{w:World}{H:Hp}(h:Heap)(hb:sysModules < h.objs.size):dE P w H (h.push {cls:=.type "dict",data:=.dict #[]}) h.objs.size (.dK []):=
 ⟨ab4 _,beq_eq_false_iff_ne.mpr (Ne.symm (aaU hb)),[],.nil,Heap.DictOf.new h⟩
def Qh:TE:=λ_ H Q=>∀p,H p=none->Q (.ref p) (upd H p (.dK []))
section
variable{X:Cx}{pos:Pos}
def KC:PE X (.Dict [] [] pos) Qh:=λζ s σ H Q I h=>
 wpAny_Dict_empty ⟨.ref s.heap.objs.size,_,I.laid (a:=s.heap.objs.size) (o:=.dK []) (t':=s.toks) (λ_ _ q=>aal _ q) (aaj _) (AV s.heap I.big),rfl,h _ (I.bc.fresh (aaj _))⟩
end
def BL:List (TE×TE)->St->Hp->(List (V×V)->Hp->Prop)->Prop
 | [],_,H,Q=>Q [] H
 | (tk,tv)::r,σ,H,Q=>tk σ H λx H1=>tv σ H1 λy H2=>BL r σ H2 λps H3=>Q ((x,y)::ps) H3
abbrev VV:List (V×V)->List (Value×Value)->Prop:=Paired λp q=>aS p.1 q.1/\aS p.2 q.2
def V1(X:Cx)(pos:Pos)(keys:List (Option Expr))(values:List Expr)(N4:List (TE×TE)):Prop:=
 ∀(ζ:List (Addr×Obj)) (s:Shared) (σ:St) (H:Hp) (Q:List (V×V)->Hp->Prop),Inv X ζ σ H s->BL N4 σ H Q->
  wpAny (model X.prog X.w) X.A (evalPairs (pairTrees keys values X.env pos)) (λvs s'=>∃ps H',Inv X ζ σ H' s'/\VV ps vs/\Q ps H') X.xe s
def NC{X:Cx}{pos:Pos}:V1 X pos [] [] []:=λζ s σ H Q I h=>pairTrees_nil_walk ⟨[],H,I,.nil,h⟩
def JH{X:Cx}{pos:Pos}{k v:Expr}{ks:List (Option Expr)}{vs:List Expr}{tk tv:TE}{N4:List (TE×TE)}(hk:PE X k tk)(hv:PE X v tv)(hr:V1 X pos ks vs N4):
  V1 X pos (some k::ks) (v::vs) ((tk,tv)::N4):=λζ s σ H Q I h=>
 pairTrees_cons_walk (bW (hk ζ s σ H _ I h) fun u s1 ⟨x,H1,I1,rx,q1⟩=>bW (hv ζ s1 σ H1 _ I1 q1) fun w2 s2 ⟨y,H2,I2,ry,q2⟩=>
  bW (hr ζ s2 σ H2 _ I2 q2) λws s3 ⟨ps,H3,I3,rel,q3⟩=>⟨(x,y)::ps,H3,I3,.cons ⟨rx,ry⟩ rel,q3⟩)
def iP(Ρ more:List (Key×V)):List (Key×V):=more.foldl (λΘ kv=>iT Θ kv.1 kv.2) Ρ
def KV.merge:∀{more:List (Key×V)} {rs:List (Key×Value)} {Ρ:List (Key×V)} {vs:List (Key×Value)},KV more rs->KV Ρ vs->KV (iP Ρ more) (merged vs rs):=by
 intro more rs Ρ vs r;unfold KV at r
 induction r generalizing Ρ vs with
 | nil=>intro q;exact q
 | @cons p q ps qs h t ih=>
  intro r0;have e:KV (iT Ρ p.1 p.2) (stored vs q.1 q.2):=by have:=r0.put p.1 h.2;rw[<-h.1];exact this
  exact ih e
def iO:∀(more Ρ:List (Key×V)),(iP Ρ more).length<=Ρ.length+more.length
 | [],Ρ=>by show Ρ.length<=Ρ.length+0;omega
 | p::r,Ρ=>by have h1:=iO r (iT Ρ p.1 p.2);have h2:=lE Ρ p.1 p.2;show(iP (iT Ρ p.1 p.2) r).length<=_;rw[aau];omega
def uu{P:Program}{w:World}:∀{Ρ:List (Key×V)} {ws:List (Value×Value)},VV (Ρ.map λkv=>(kV kv.1,kv.2)) ws->∃rs,Carries (bV P w) ws rs/\KV Ρ rs
 | [],_,r=>by rw[List.map_nil]at r;cases r;exact⟨[],True.intro,.nil⟩
 | p::Ρ,_,r=>by
  rw[aaQ]at r;cases r with
  | @cons a b as bs h t=>
   have⟨rs,c,q⟩:=uu (P:=P) (w:=w) t;have⟨b1,b2⟩:=b;exact⟨(p.1,b2)::rs,⟨ud h.1,rfl,c⟩,.cons ⟨rfl,h.2⟩ q⟩
def VA(N4:List (TE×TE)):TE:=λσ H Q=>∀p,H p=none->BL N4 σ (upd H p (.dK [])) λps H2=>H2 p=some (.dK [])/\∃Ρ:List (Key×V),ps=Ρ.map (λkv=>(kV kv.1,kv.2))/\Ρ.length<=15/\Q (.ref p) (upd H2 p (.dK (iP [] Ρ)))
def MW{X:Cx}{pos:Pos}{keys:List (Option Expr)}{values:List Expr}{N4:List (TE×TE)}(h:V1 X pos keys values N4)(PB:keys.all (·.isSome)=true)(hl:keys.length=values.length)(h0:keys≠[])
  (h15:keys.length<=15):PE X (.Dict keys values pos) (VA N4):=by
 intro ζ s σ H Q I q;have hn:=I.bc.fresh (aaj s.heap.objs.size);have I1:=I.laid (a:=s.heap.objs.size) (o:=.dK []) (h':=s.heap.push {cls:=.type "dict",data:=.dict #[]}) (t':=s.toks) (λ_ _ q=>aal _ q) (aaj _) (AV s.heap I.big);refine wpAny_Dict_walk (knd:=bV X.prog X.w) PB hl h0 h15 (bW (h ζ _ σ _ _ I1 (q _ hn)) λws s2 xz=>?_);have⟨ps,H2,I2,rel,e,Ρ,ep,lk,q2⟩:=xz;subst ep;have⟨rs,c,rk⟩:=uu (P:=X.prog) (w:=X.w) rel;have⟨z,hd,vs0,r0,dd⟩:=Ec I2.bc e;cases r0;refine⟨rs,c,dd,λh' N0 hs=>⟨.ref s.heap.objs.size,_,?_,rfl,q2⟩⟩;have hz:(iP [] Ρ).length<=sizeLine:=by have h1:=iO Ρ [];rw[acf]at h1;rw[sizeLine_eq];omega
 have he:∃q,h'.get? s.heap.objs.size=some q:=let ⟨q,_,_,hq,_⟩:=N0;⟨q,hq⟩
 exact rq I2 (by rw[e];exact True.intro) hs he (rV hz hd (rk.merge .nil) N0)
structure M1(X:Cx)(o:Expr)(m:Str)(apos:Pos)(e:Expr)(dj:Pos):Prop where
 base:attributeBase o m X.env (eval o X.env)=eval o X.env
 S8:((backTo dj (starEach [e] X.env)).all (λx=> !x.1)&&(backToKw dj (keywordEach [] X.env)).all (λx=>x.1.isSome)
  &&decide (([e]:List Expr).length+([]:List Keyword).length+(if ([]:List Keyword).isEmpty then 0 else 1) < 30))=true
 line:(apos.endLine==dj.line)=true
 trees:backTo dj (starEach [e] X.env)=[(false,eval e X.env)]
def IsD(H:Hp)(a:Addr):Prop:=(∃Ρ,Rd H a (.dK Ρ))\/∃Ρ,Rd H a (.dT Ρ)
def Qp{X:Cx}{ζ:List (Addr×Obj)}{σ:St}{H:Hp}{s:Shared}{a:Addr}(I:Inv X ζ σ H s)(d:IsD H a):
  s.TypeIs (.ref a) "dict"/\(∀b,Value.ref a= .ref b->∃ob,s.heap.get? b=some ob/\ob.dict=none)/\(a==sysModules)=false:=by
 rcases d with ⟨Ρ,e⟩| ⟨Ρ,e⟩
 ·have⟨_,hd,vs,_,dd⟩:=om I.bc e;refine⟨dd.typeIs,λb q=>?_,hd⟩;cases q;have⟨ob,_,_,h1,h2,_⟩:=dd;exact⟨ob,h1,h2.2.1⟩
 ·have⟨_,hd,xs,_,dd⟩:=vT I.bc e;refine⟨dd.typeIs,λb q=>?_,hd⟩;cases q;have⟨ob,_,_,h1,h2,_⟩:=dd;exact⟨ob,h1,h2.2.1⟩
section
variable{X:Cx}{ζ:List (Addr×Obj)}{σ:St}{H:Hp}{s:Shared}{a:Addr}{Ρ:List (Key×V)}{A:Around}{E:Value->Shared->Prop}
def JX{Q:Value->Shared->Prop}(I:Inv X ζ σ H s)(e:Rd H a (.dK Ρ))(h:∀p s',H p=none->Inv X ζ σ (upd H p (.dK Ρ)) s'->Q (.ref p) s'):wpAny (model X.prog X.w) A (call (.type "dict") [.ref a]) Q E s:=by have⟨z,hd,vs,rel,dd⟩:=om I.bc e;refine kt_call_dict hd dd (by rw[<-rel.length];exact z) λh' N0 hs=>?_;refine h _ _ (I.bc.fresh (aaj _)) (I.laid (a:=s.heap.objs.size) (o:=.dK Ρ) (t':=s.toks) (λb q hq=>?_) (aaj _) (rV z (beq_eq_false_iff_ne.mpr (Ne.symm (aaU I.big))) rel N0));exact(hs.2 b (aaU (aaw hq))).trans (aal _ hq)
end
end L2
namespace Att
open PySem PySem.W PySem.Calls PyProof.Rows
end Att
namespace L2
open PySem PySem.Spec PyProof.Rows
end L2
/- THE YF NP (shape;LID,My.* are S2):
  My.Adr:a structure of NQ addresses Zv Xi Vv names (classes,Gq);My.Txt K t:a structure (Prop) of NQ equations qR K;
  My.BO:{K} {implicit addresses ..} (e1:nsIn K mainGlobals "law"=some (some (.ref f))) (e2:K.lookup f=some ⟨oc,od,.func (fnOf "law" "law" params body scope dV kV doc pm an aW ct),sl⟩) (e3:codeIn K aW "law"=true) .. :∃t,My.Txt K t
set_option maxRecDepth 100000 in
set_option maxHeartbeats 0 in
def PySem.Challenge.cw_LID_holds : PySem.Challenge.rw_LID.Holds := by
 w_on;o_law;k_head;(case hw=>w_witness2)
 k_fill
 refine L2.yM (l:=PySem.Challenge.rw_LID) (n:=63) (k:=40) (x:="script") (CX:=fun w=>..) (sp:=fun _=>My.RA) rfl @_ rfl ⟨rfl,@_,@_⟩ (fun w h Y=>PySem.W.kIn_of Y) ?F ?S ?C
 case F=>
  intro w mg fa h KX G MI;have T:∃t,My.Txt (L2.ZX KX) t:=by
   dsimp only[L2.ZX]
   refine' My.BO ?e1 ?e2 ?e3 ..
   (case e1=>PySem.W.k_is)
   (case e2=>PySem.W.k_is)
   ..
  have⟨t,T⟩:=T;have e0:=MI.symm.trans (PySem.W.mg_of KX G T.law);cases e0;exact⟨_,λs u=>.of_eq rfl,λbase kb nb=>My.CW T kb nb⟩
 case S=>exactλw H a ns hl hO hS=>..
 case C=>exact ..
(NQ tactic k_is has no namespace:write k_is) -/
namespace L2
open PySem PySem.Spec PyProof.Rows
section
variable{X:Cx}
def GO:eY X (.builtin "len") (λxs H Q=>∃a Ρ,xs=[V.ref a]/\H a=some (.dK Ρ)/\Q (.int Ρ.length) H):=by intro ζ s σ H xs us Q I r h;have⟨a,Ρ,rfl,ha,q⟩:=h;have⟨u,rfl,ru⟩:=lN r;cases ru;exact UB I (.inl ha) λt s' I'=>⟨.int Ρ.length,H,I',⟨t,rfl⟩,q⟩
end
variable{X:Cx}{G:Hp}{L:List Addr}{d:Dt}{v:V}{R:St->XK}{o i e tg:Expr}{ti te:DE}{pos apos:Pos}{p a f:Addr}{k':Nat}{x:Str}{M:Ms}{t:DA}{scope:Scope}{ys ps:List Str}{af:List Nat}{ks:List Key}{vs:List V}{ds:List Dt}{P:Program}{w:World}{Ρ:List (Key×V)}{ζ:List (Addr×Obj)}{st:Stmt}{its:Array Value}{fd:FuncData}
def Ds:Dt->Option Key
 | .int i=>some (.inl i)
 | .str z=>some (.inr z)
 | _=>none
def eO(ks:List Key)(ds:List Dt)(k:Key):Option Dt:=((ks.zip ds).find? λp=>decide (p.1=k)).map (·.2)
def lX{K:fI}{k:Key}(h:Ds d=some k)(n:Den K G L d v):v=kV k:=by
 cases d with
 | int i=>cases h;exact n
 | str z=>cases h;exact n
 | _=>cases h
def qj{K:fI}{G:Hp}{L:List Addr}{k:Key}:∀{ks:List Key} {ds:List Dt} {vs:List V} {d:Dt},Ω K G L ds vs->eO ks ds k=some d->∃v,ko (ks.zip vs) k=some v/\Den K G L d v
 | [],_,_,_,_,h=>by cases h
 | _::_,[],_,_,_,h=>by cases h
 | c::ks,d0::ds,_,d,⟨v0,vs,e,n0,n⟩,h=>by
  subst e;rw[abx];by_cases hc:c=k
  ·have h':eO (c::ks) (d0::ds) k=some d0:=by unfold eO;rw[List.zip_cons_cons,List.find?_cons_of_pos (by simpa using hc)];rfl
   rw[h']at h;cases h;exact⟨v0,fg hc,n0⟩
  ·have h':eO (c::ks) (d0::ds) k=eO ks ds k:=by unfold eO;rw[List.zip_cons_cons,List.find?_cons_of_neg (by simpa using hc)]
   rw[h']at h;have⟨v,h1,h2⟩:=qj n h;exact⟨v,by rw[fb hc];exact h1,h2⟩
def OA(to ti:DE):DE:=λρ M q x=>to ρ M (λd M1=>ti ρ M1 (λdi M2=>∃k ks ds key v,d= .loc k/\M2[k]? =some (.fU ks ds)/\Ds di=some key/\eO ks ds key=some v/\q v M2) x) x
def we:∀(more Θ:List (Key×V)),(∀p∈more,ko Θ p.1=none)->(more.map (·.1)).Nodup->iP Θ more=Θ++more
 | [],Θ,_,_=>by show Θ=Θ++[];rw[aa6]
 | p::more,Θ,h,nd=>by
  show iP (iT Θ p.1 p.2) more=_;rw[Ko p.2 (h p aad),we more _ (λq hq=>?_) (abS.mp nd).2]
  ·simp
  ·have e:=vL p.1 q.1 p.2 Θ (h p aad);rw[show(Θ++[(p.1,p.2)])=Θ++[(p.1,p.2)] from rfl,e,aaC]
   ·exact h q (aac _ hq)
   ·intro z;exact(abS.mp nd).1 (aai.mpr ⟨q,hq,z⟩)
section
variable{to:DE}{p:Pos}
def pj(hr:cF k' X.A)(ho:JE X R o to)(hi:JE X R i ti)(hs:DP i:=by intro _ _;rfl):JE X R (.Subscript o i pos) (OA to ti):=
 .of (Mq (EX hr) ho hi hs) λσ H G L ρ M q x rl n h hx=>by refine⟨G,L,ρ,M,_,x,rl,n,h,hx,λv H1 xz=>?_⟩;have⟨d1,G1,L1,M1,e1,r1,n1,h1⟩:=xz;refine⟨G1,L1,ρ,M1,_,x,r1,n.mono e1,h1,hx.on e1,λv2 H2 xz=>?_⟩;have⟨d2,G2,L2,M2,e2,r2,n2,k,ks,ds,key,y,ed,hm,hk,hg,h2⟩:=xz;subst ed;have⟨a,rfl,IL⟩:=n1;have QP:=e2.l.get IL;have⟨_,vs,hH,hl,dn⟩:=r2.hI k a _ QP hm;have⟨u,hu,du⟩:=qj dn hg;refine⟨a,u,rfl,.inl ⟨_,key,.inl hH,lX hk n2,hu.symm⟩,fin_same (e1.trans e2) r2 du h2⟩
end
structure R0(K:fI)(w:World)(mg:Str->Option Value)(x:Str)(tab:List (Str×Str)):Prop where
 ex:∃a es n,mg x=some (.ref a)/\K.lookup a=some ⟨.type "dict",none,.dict es n,#[]⟩/\PySem.W.KeysLit w.params es.toList/\∀z y,tab.lookup z=some y->∃tk,PySem.W.nsIn K a z=some (some (.str y tk))
def SQ(tab:List (Str×Str))(ti:DE):DE:=λρ M q x=>ti ρ M (λd M1=>∃z y,d= .str z/\tab.lookup z=some y/\q (.str y) M1) x
def Yx(tab:List (Str×Str))(ti:TE):TE:=λσ H Q=>ti σ H λv H1=>∃z y,v= .str z/\tab.lookup z=some y/\Q (.str y) H1
section
variable{p:Pos}{tab:List (Str×Str)}
def Rj{ti:TE}(T:R0 X.K X.w X.mg x tab)(hi:PE X i ti)(hs:DP i)(hg:Gl X x)(u9:(x==("__debug__":Str))=false):PE X (.Subscript (.Name x p) i pos) (Yx tab ti):=by have⟨a,es,n,hm,hl,hk,ht⟩:=T.ex;intro ζ s σ H Q I h;refine xU acr.lookup hs (rz I hg hm ?_ u9);refine bW (hi ζ s σ H _ I h) λiv s2 xz=>?_;have⟨v,H2,I2,rv,z,y,ev,hy,q2⟩:=xz;subst ev;have⟨t,rfl⟩:=rv;have⟨tk,hn⟩:=ht z y hy;have hM:=PySem.W.mapOf_K (prog:=X.prog) (w:=X.w) I2.C6 hl hk;exact⟨hM.typeIs,wpAny_getItem_of (strKind_is X.prog X.w z t) hM (PySem.W.find_K hl hn) ⟨.str y,H2,I2.tok _,⟨tk,rfl⟩,q2⟩⟩
def TX(T:R0 X.K X.w X.mg x tab)(hi:JE X R i ti)(hs:DP i:=by intro _ _;rfl)(hg:Gl X x:=by rfl)(u9:(x==("__debug__":Str))=false:=by decide):JE X R (.Subscript (.Name x p) i pos) (SQ tab ti):=
 .of (Rj T hi hs hg u9) λσ H G L ρ M q x rl n h hx=>by refine⟨G,L,ρ,M,_,x,rl,n,h,hx,λv H1 xz=>?_⟩;have⟨d1,G1,L1,M1,e1,r1,n1,z,y,ed,hy,h1⟩:=xz;subst ed;exact⟨z,y,n1,hy,cx e1 r1 h1⟩
end
def Ho(M:Ms):Dt->Option (List Dt)
 | .lst xs=>some xs
 | .ir ns=>some (ns.map .int)
 | .loc k=>match M[k]? with
  | some (.lst xs)=>some xs
  | _=>none
 | _=>none
def rD{K:fI}{H:Hp}{xs:List Dt}(r:Rl K G L M H)(n:Den K G L d v)(h:Ho M d=some xs):∃a vs,v= .ref a/\iS K H a vs/\Ω K G L xs vs:=by
 cases d with
 | lst ds=>cases h;have⟨a,vs,rfl,e,m⟩:=n;exact⟨a,vs,rfl,.of (r.sub _ _ e),m⟩
 | ir ns=>cases h;have⟨a,rfl,e⟩:=n;exact⟨a,_,rfl,r.sub.seq e,iW⟩
 | loc k=>
  have⟨a,rfl,e⟩:=n;have h:(match M[k]? with| some (.lst xs)=>some xs| _=>none)=some xs:=h;split at h
  ·rename_i ys hm;cases h;have⟨_,vs,e1,m1⟩:=r.hI k a _ e hm;exact⟨a,vs,rfl,.of e1,m1⟩
  ·cases h
 | _=>cases h
section
variable{a b l u:Expr}{ta tb tl tu:DE}{p p2:Pos}
def GF(xs:List V)(k:Nat):uO xs none (some (k:Int))=xs.take k:=by
 unfold uO;rw[HT.qT,HT.zN,acq,Nat.sub_zero];by_cases h:k<=xs.length
 ·rw[acD h]
 ·rw[Nat.min_eq_right (),abp (aaj _),abp ()]
def UK(te tl:DE):DE:=λρ M q x=>te ρ M (λd M1=>tl ρ M1 (λdi M2=>∃ds n,Ho M2 d=some ds/\di= .int (n:Nat)/\q (.loc M2.length) (M2++[.lst (ds.drop n)])) x) x
def qg(he:JE X R e te)(hl:JE X R l tl):JE X R (.Subscript e (.Slice (some l) none none p2) pos) (UK te tl):=
 .of (tP xD he (oh hl) Ef) λσ H G L ρ M q x rl n h hx=>by refine⟨G,L,ρ,M,_,x,rl,n,h,hx,λv H1 xz=>?_⟩;have⟨d1,G1,L1,M1,e1,r1,n1,h1⟩:=xz;refine⟨G1,L1,ρ,M1,_,x,r1,n.mono e1,h1,hx.on e1,λv2 H2 xz=>?_⟩;have⟨d2,G2,L2,M2,e2,r2,n2,ds,k,ed,ei,h2⟩:=xz;subst ei;have⟨a,vs,rfl,sq,m⟩:=rD r2 (Den.mono e2.g e2.l _ _ n1) ed;have n2:v2= .int k:=n2;subst n2;refine⟨k,rfl,a,vs,rfl,sq,λp hp=>?_⟩;rw[He];exact jG (e1.trans e2) r2 hp (Ω.of (uA k m.pair)) h2
end
open PySem PySem.SeqAt
def A9(M:Ms):Dt->Option (List Dt)
 | .lst xs=>some xs
 | .loc k=>match M[k]? with
  | some (.lst xs)=>some xs
  | _=>none
 | _=>none
def xI{K:fI}{H:Hp}{xs:List Dt}(r:Rl K G L M H)(n:Den K G L d v)(h:A9 M d=some xs):∃a vs,v= .ref a/\H a=some (.lst vs)/\Ω K G L xs vs:=by
 cases d with
 | lst ds=>cases h;have⟨a,vs,rfl,e,m⟩:=n;exact⟨a,vs,rfl,r.sub _ _ e,m⟩
 | loc k=>
  have⟨a,rfl,e⟩:=n;have h:(match M[k]? with| some (.lst xs)=>some xs| _=>none)=some xs:=h;split at h
  ·rename_i ys hm;cases h;have⟨_,vs,e1,m1⟩:=r.hI k a _ e hm;exact⟨a,vs,rfl,e1,m1⟩
  ·cases h
 | _=>cases h
def OD:Dt->Dt->Ms->DQ->Prop:=λd e M q=>∃xs ys,A9 M d=some xs/\A9 M e=some ys/\xs.length+ys.length<=sizeLine/\q (.lst (xs++ys)) M
def UW{K:fI}:qy K QI OD:=by intro G0 L0 H0 G L M H v1 v2 d1 d2 q e r n1 n2 ⟨xs,ys,h1,h2,hz,hq⟩;have⟨p1,w1,rfl,e1,m1⟩:=xI r n1 h1;have⟨p2,w2,rfl,e2,m2⟩:=xI r n2 h2;refine⟨p1,p2,w1,w2,rfl,rfl,e1,e2,by rw[<-m1.length,<-m2.length];exact hz,λp hp=>?_⟩;exact lZ e r hp (q_ r hp (m1.app m2)) hq
section
variable{a b:Expr}{ta tb:DE}
def nq(ja:JE X R a ta)(jb:JE X R b tb):JE X R (.BinOp a .Add b pos) (lT OD ta tb):=yW K2 UW ja jb
end
def qO(n:Nat):sliceRange ((n:Int) - 1) (-1) (-1)=(List.range n).reverse:=by
 have e:sliceRange ((n:Int) - 1) (-1) (-1)=(List.range n).map λk=>n - 1 - k:=by
  unfold sliceRange;have hc:(if (n:Int) - 1 > -1 then ((n:Int) - 1 - -1 - -1 - 1) / (- -1) else 0)=n:=by
   split
   ·have:((n:Int) - 1 - -1 - -1 - 1)=n:=()
    rw[this];show(n:Int) / 1=n;exact Int.ediv_one _
   ·omega
  simp only[show¬((-1:Int) > 0) by decide,if_false,hc,Int.toNat_natCast];apply abm;intro k hk;have:=abu.mp hk;omega
 rw[e];apply abv
 ·simp
 ·intro i h1 h2;simp
def uR(items:Array Value):slicePick items none none (some (-1))=items.toList.reverse.toArray:=by
 have e:slicePick items none none (some (-1))=((sliceRange ((items.size:Int) - 1) (-1) (-1)).filterMap (items[·]?)).toArray:=rfl;rw[e,qO,List.filterMap_reverse];have p:=pick_run items 0 items.size;rw[acq]at p;have e2:(List.range items.size).map (0+ ·)=List.range items.size:=by
  have:(λx:Nat=>0+x)=id:=by funext x;simp
  rw[this,List.map_id]
 rw[e2]at p;rw[p,abp (by rw[Array.length_toList];exact aaj _)]
def yT{α β:Type}{F:α->β->Prop}:∀{xs:List α} {ys:List β},Paired F xs ys->Paired F xs.reverse ys.reverse
 | _,_,.nil=>.nil
 | _,_,.cons r t=>by rw[List.reverse_cons,List.reverse_cons];exact rh (yT t) (.cons r .nil)
section
variable{l:Expr}{te tl:TE}{p2:Pos}
def Xr(K:fI)(te tl:TE):TE:=λσ H Q=>te σ H λx H1=>tl σ H1 λy H2=>∃i:Int,y= .int i/\some i=some (-1:Int)/\∃a xs,x= .ref a/\iS K H2 a xs/\∀p,H2 p=none->Q (.ref p) (upd H2 p (.lst xs.reverse))
def Pm(he:PE X e te)(hl:PE X l tl):PE X (.Subscript e (.Slice none none (some l) p2) pos) (Xr X.K te tl):=by
 intro ζ s σ H Q I h;refine Subscript_ (bW (he ζ s σ H _ I h) λv s1 xz=>?_);have⟨x,H1,I1,r1,q1⟩:=xz;refine wpAny_Slice ?_;simp only[evalPart_none];refine abf ?_;refine abf ?_;refine bW (oh hl ζ s1 σ H1 (λo H2=>o=some (-1)/\∃a xs,x= .ref a/\iS X.K H2 a xs/\∀p,H2 p=none->Q (.ref p) (upd H2 p (.lst xs.reverse))) I1 ?_) fun vs s2 ⟨o,H2,I2,ps,eo,a,xs,ex,hx,q⟩=>?_
 ·exact q1
 subst eo ex;cases r1;have⟨its,r,ht,hz⟩:=I2.list hx;have hlen:=r.length;have I4:Inv X ζ σ H2 {s2 with heap:=s2.heap.push {cls:=.type "slice",data:=.fields #[.none,.none,vs]}}:=I2.kept (t':=s2.toks) λb ob q=>aal _ q;have⟨its,r,ht,hz⟩:=I4.list hx;have hlen:=r.length;show wpAny (model X.prog X.w) X.A (subscriptTail e (.Slice none none (some l) p2) (.ref a) (.ref s2.heap.objs.size)) (EP X ζ σ Q) X.xe {s2 with heap:=s2.heap.push {cls:=.type "slice",data:=.fields #[.none,.none,vs]}};refine tail_any (ops:=[.ref a,.ref s2.heap.objs.size]) ht.isList.typeIs slot_list_getitem.lookup ?_ (by with_unfolding_all rfl);refine wpAny_getItem_list_slice ht.isList (Heap.IsSliceOf.new ..) .none .none ps @_ ?_ (by rw[abn] <;> omega);rw[uR];refine⟨.ref _,_,I4.laid (t':=s2.toks) (o:=.lst xs.reverse) (λb ob q=>aal _ q) (aaj _) ?_,rfl,q _ (I4.bc.fresh (aaj _))⟩;exact⟨by rw[List.length_reverse];exact hz,_,0,yT r,aaS _ rfl⟩
end
section
variable{l:Expr}{tl:DE}{p2:Pos}
def Ve(te tl:DE):DE:=λρ M q x=>te ρ M (λd M1=>tl ρ M1 (λdi M2=>∃ds,Ho M2 d=some ds/\di= .int (-1)/\q (.loc M2.length) (M2++[.lst ds.reverse])) x) x
def Q3(he:JE X R e te)(hl:JE X R l tl):JE X R (.Subscript e (.Slice none none (some l) p2) pos) (Ve te tl):=
 .of (Pm he hl) λσ H G L ρ M q x rl n h hx=>by refine⟨G,L,ρ,M,_,x,rl,n,h,hx,λv H1 xz=>?_⟩;have⟨d1,G1,L1,M1,e1,r1,n1,h1⟩:=xz;refine⟨G1,L1,ρ,M1,_,x,r1,n.mono e1,h1,hx.on e1,λv2 H2 xz=>?_⟩;have⟨d2,G2,L2,M2,e2,r2,n2,ds,ed,ei,h2⟩:=xz;subst ei;have⟨a,vs,rfl,sq,m⟩:=rD r2 (Den.mono e2.g e2.l _ _ n1) ed;have n2:v2= .int (-1):=n2;subst n2;refine⟨-1,rfl,rfl,a,vs,rfl,sq,λp hp=>?_⟩;exact jG (e1.trans e2) r2 hp (Ω.of (yT m.pair)) h2
def Pw(te tl:DE):DE:=λρ M q x=>te ρ M (λd M1=>tl ρ M1 (λdi M2=>∃ds n,Ho M2 d=some ds/\di= .int (n:Nat)/\q (.loc M2.length) (M2++[.lst (ds.take n)])) x) x
def D9(he:JE X R e te)(hl:JE X R l tl):JE X R (.Subscript e (.Slice none (some l) none p2) pos) (Pw te tl):=
 .of (tP xD he Ef (oh hl)) λσ H G L ρ M q x rl n h hx=>by refine⟨G,L,ρ,M,_,x,rl,n,h,hx,λv H1 xz=>?_⟩;have⟨d1,G1,L1,M1,e1,r1,n1,h1⟩:=xz;refine⟨G1,L1,ρ,M1,_,x,r1,n.mono e1,h1,hx.on e1,λv2 H2 xz=>?_⟩;have⟨d2,G2,L2,M2,e2,r2,n2,ds,k,ed,ei,h2⟩:=xz;subst ei;have⟨a,vs,rfl,sq,m⟩:=rD r2 (Den.mono e2.g e2.l _ _ n1) ed;have n2:v2= .int k:=n2;subst n2;refine⟨k,rfl,a,vs,rfl,sq,λp hp=>?_⟩;rw[GF];exact jG (e1.trans e2) r2 hp (Ω.of (sj k m.pair)) h2
end
def Av(g:Dt->En->(En->Prop)->Prop)(te:DE)(ρ0:En)(ok:Ms->Prop):List Dt->List Dt->Ms->(List Dt->Ms->Prop)->Prop
 | [],Θ,M,k=>ok M/\k Θ M
 | x::xs,Θ,M,k=>ok M/\g x ρ0 λρ'=>te ρ' M (λd M2=>Av g te ρ0 ok xs (Θ++[d]) M2 k) l_
def tG(n:Nat)(ti:DK)(g:Dt->En->(En->Prop)->Prop)(te:DE)(af:List Nat):DE:=λρ M q x=>ti ρ M (λxs ok M1=>xs.length<=sizeLine/\Av g te (List.replicate n none++qE af ρ) ok xs [] M1 (λys M2=>q (.lst ys) M2)) x
def yn{g:Dt->En->(En->Prop)->Prop}{te:DE}{cs:En}{ok:Ms->Prop}:∀xs,Av g te cs ok xs=i8 g se te cs ok xs
 | []=>rfl
 | x::xs=>funext λΘ=>funext λM=>funext λk=>by show(ok M/\g x cs λρ'=>te ρ' M (λd M1=>Av g te cs ok xs (Θ++[d]) M1 k) l_)=(ok M/\g x cs λρ'=>te ρ' M (λd M1=>i8 g se te cs ok xs (Θ++[d]) M1 k) l_);rw[yn xs]
section
variable{elt iter:Expr}{y:Str}{px py tp:Pos}{ti:DK}{kk:Nat}
def Nx(S:aG X scope [x,y] ys af)(hi:JK X R (.Tuple [.Name x px,.Name y py] kk tp) iter ti)(he:∀C s H fp,JE (Cx.comp X (x::y::ys) scope C s H fp) (λ_=>E0) elt te)(hc:X.calm=true:=by rfl)(hs:∀x,foldedSetIterable iter X.env x=pure x:=by intro _;rfl):JE X R (.ListComp elt [⟨.Tuple [.Name x px,.Name y py] kk tp,iter,[],0⟩] scope pos) (tG 2 ti (g2 0 1) te af):=UR false S hi (yd hc S) lG (pq (Nat.zero_lt_succ 1) (Nat.lt_succ_self 1)) (λ_ _ _ _=>lP) he hc hs λρ M q x h=>by unfold tG at h;simp only[yn]at h;exact h
end
def qc{g:Dt->En->(En->Prop)->Prop}{te:DE}{ρ0:En}{ok:Ms->Prop}{M:Ms}{k:List Dt->Ms->Prop}(ho:ok M)(f:Dt->Dt):∀(xs Θ:List Dt),(∀x∈xs,∀q:DQ,q (f x) M->g x ρ0 λρ'=>te ρ' M q l_)->k (Θ++xs.map f) M->Av g te ρ0 ok xs Θ M k
 | [],Θ,_,h=>⟨ho,by simpa using h⟩
 | x::xs,Θ,ht,h=>⟨ho,ht x List.mem_cons_self _ (qc ho f xs _ (λy hy=>ht y (List.mem_cons_of_mem _ hy)) (by simpa using h))⟩
def FO(xs:List V)(a b:Nat):uO xs (some (a:Int)) (some (b:Int))=(xs.drop a).take (b - a):=by
 unfold uO;rw[HT.qT,HT.qT];by_cases ha:a<=xs.length
 ·rw[acD ha];by_cases hb:b<=xs.length
  ·rw[acD hb]
  ·rw[Nat.min_eq_right (),abp (by rw[abW];omega),abp (by rw[abW];omega)]
 ·have h1:min a xs.length=xs.length:=Nat.min_eq_right ();rw[h1,List.drop_of_length_le (aaj xs.length),List.drop_of_length_le (show xs.length<=a by omega)];simp
section
variable{l u a b:Expr}{tl tu ta tb:DE}{p2:Pos}
def VC(te tl tu:DE):DE:=λρ M q x=>te ρ M (λd M1=>tl ρ M1 (λdi M2=>∃n:Nat,di= .int n/\tu ρ M2 (λdu M3=>∃ds m,Ho M3 d=some ds/\du= .int (m:Nat)/\q (.loc M3.length) (M3++[.lst ((ds.drop n).take (m - n))])) x) x) x
def G_(he:JE X R e te)(hl:JE X R l tl)(hu:JE X R u tu):JE X R (.Subscript e (.Slice (some l) (some u) none p2) pos) (VC te tl tu):=
 .of (tP xD he (oh hl) (oh hu)) λσ H G L ρ M q x rl n h hx=>by refine⟨G,L,ρ,M,_,x,rl,n,h,hx,λv H1 xz=>?_⟩;have⟨d1,G1,L1,M1,e1,r1,n1,h1⟩:=xz;refine⟨G1,L1,ρ,M1,_,x,r1,n.mono e1,h1,hx.on e1,λv2 H2 xz=>?_⟩;have⟨d2,G2,L2,M2,e2,r2,n2,k,ek,h2⟩:=xz;subst ek;have n2:v2= .int k:=n2;subst n2;refine⟨k,rfl,G2,L2,ρ,M2,_,x,r2,(n.mono e1).mono e2,h2,(hx.on e1).on e2,λv3 H3 xz=>?_⟩;have⟨d3,G3,L3,M3,e3,r3,n3,ds,m,ed,em,h3⟩:=xz;subst em;have MK:=e2.trans e3;have⟨a,vs,rfl,sq,dn⟩:=rD r3 (Den.mono MK.g MK.l _ _ n1) ed;have n3:v3= .int m:=n3;subst n3;refine⟨m,rfl,a,vs,rfl,sq,λp hp=>?_⟩;rw[FO];exact jG (e1.trans MK) r3 hp (Ω.of (sj (m - k) (uA k dn.pair))) h3
def OJ:Dt->Dt->Ms->DQ->Prop:=λd e M q=>∃xs k,A9 M d=some xs/\e= .int k/\ -(2 ^ 63)<=k/\k < 2 ^ 63/\xs.length * k.toNat<=sizeLine/\q (.loc M.length) (M++[.lst (List.replicate k.toNat xs).flatten])
def VE{K:fI}:qy K Pq OJ:=by intro G0 L0 H0 G L M H v1 v2 d1 d2 q e r n1 n2 ⟨xs,k,h1,h2,a,b,hz,hq⟩;have⟨p1,w1,rfl,e1,m1⟩:=xI r n1 h1;subst h2;have n2:v2= .int k:=n2;subst n2;refine⟨p1,k,w1,rfl,rfl,e1,a,b,by rw[<-m1.length];exact hz,λp hp=>?_⟩;exact jG e r hp (Ω.of (xJ m1.pair k.toNat)) hq
def B8(ja:JE X R a ta)(jb:JE X R b tb):JE X R (.BinOp a .Mult b pos) (lT OJ ta tb):=yW Jb VE ja jb
end
def LX(ks:List Key)(k:Key):Bool:=ks.any λc=>decide (c=k)
def oC{k:Key}:∀{ks:List Key} {vs:List V},ks.length=vs.length->(ko (ks.zip vs) k).isSome=LX ks k
 | [],[],_=>rfl
 | c::ks,v::vs,h=>by
  have h:ks.length=vs.length:=by simpa using h
  rw[abx];by_cases e:c=k
  ·rw[fg e];subst e;simp[LX]
  ·rw[fb e,oC h];unfold LX;rw[ab7,aaG e,Bool.false_or]
section
variable{a b:Expr}{to ta tb:DE}{p:Pos}
def CL:JE X R (.Dict [] [] pos) (λ_ M q _=>q (.loc M.length) (M++[.fU [] []])):=
 .of KC λσ H G L ρ M q x rl n h hx=>by intro p hp;exact⟨.loc M.length,G,L++[p],_,rl.Wz hp,rl.NF (m:=.fU [] []) hp ⟨[],az,rfl,rfl⟩,⟨p,rfl,by rw[<-rl.len,List.getElem?_append_right (Nat.le_refl _)];simp⟩,h⟩
def Vk:Dt->Dt->Ms->DQ->Prop:=λdi d M q=>∃k ks ds key,d= .loc k/\M[k]? =some (.fU ks ds)/\Ds di=some key/\q (.bl (LX ks key)) M
def RB(hu:X.A.units+1 < cLine):ky X (compareOp .In) (λy x H Q=>∃a o,x=V.ref a/\wY H a y o/\Q (.bl o.isSome) H):=by intro ζ s σ H x y u v Q I rx ry ⟨a,o,ex,g,q⟩;subst ex;obtain rfl:v=Value.ref a:=ry;exact Xz hu I g rx λs3 I3=>⟨.bl o.isSome,H,I3,rfl,q⟩
def X8{K:fI}:qy K (λy x H Q=>∃a o,x=V.ref a/\wY H a y o/\Q (.bl o.isSome) H) Vk:=by intro G0 L0 H0 G L M H v1 v2 d1 d2 q e r n1 n2 ⟨k,ks,ds,key,ed,hm,hk,h⟩;subst ed;have⟨a,rfl,IL⟩:=n2;have⟨_,vs,hH,hl,dn⟩:=r.hI k a _ IL hm;refine⟨a,_,rfl,.inl ⟨_,key,.inl hH,lX hk n1,rfl⟩,?_⟩;have Hn:ks.length=vs.length:=hl.trans dn.length;rw[oC Hn];exact cx e r h
def UM(hr:cF k' X.A)(ja:JE X R a ta)(jb:JE X R b tb)(hm:behindInMarks .In b=false:=by rfl):JE X R (.Compare a [.In] [b] pos) (lT Vk ta tb):=A8 (RB (EX hr)) X8 ja jb hm
end
def ia(ks:List Key)(k:Key):List Key:=if LX ks k=true then ks else ks++[k]
def mq{α:Type}(k:Key)(v:α):List Key->List α->List α
 | c::ks,x::xs=>(if c=k then v else x)::mq k v ks xs
 | _,_=>[]
def fq{α:Type}(ks:List Key)(k:Key)(xs:List α)(v:α):List α:=if LX ks k=true then mq k v ks xs else xs++[v]
def pD{α:Type}{k:Key}{v:α}:∀{ks:List Key} {xs:List α},ks.length=xs.length->(mq k v ks xs).length=ks.length
 | [],[],_=>rfl
 | _::ks,_::xs,h=>by
  have h:ks.length=xs.length:=by simpa using h
  show(mq k v ks xs).length+1=ks.length+1;rw[pD h]
def vX{k:Key}{v:V}:∀{ks:List Key} {vs:List V},ks.length=vs.length->(ks.zip vs).map (λkv=>if kv.1=k then (kv.1,v) else kv)=ks.zip (mq k v ks vs)
 | [],[],_=>rfl
 | c::ks,x::vs,h=>by
  have h:ks.length=vs.length:=by simpa using h
  rw[abx,aaQ,vX h];show _=(c,if c=k then v else x)::ks.zip (mq k v ks vs)
  congr 1
  show(if c=k then (c,v) else (c,x))=_;split <;> rfl
def oU{K:fI}{G:Hp}{L:List Addr}{k:Key}{d:Dt}{v:V}(n:Den K G L d v):∀{ks:List Key} {ds:List Dt} {vs:List V},Ω K G L ds vs->ks.length=ds.length->Ω K G L (mq k d ks ds) (mq k v ks vs)
 | [],[],_,h,_=>by cases h;rfl
 | c::ks,x::ds,_,⟨y,vs,e,n0,ns⟩,hl=>by
  subst e;have hl:ks.length=ds.length:=by simpa using hl
  refine⟨_,_,rfl,?_,oU n ns hl⟩;show Den K G L (if c=k then d else x) (if c=k then v else y);split
  ·exact n
  ·exact n0
def Lw{k:Key}(h:ks.length=vs.length):iT (ks.zip vs) k v=(ia ks k).zip (fq ks k vs v):=by
 unfold iT ia fq;rw[nV,oC h];split
 ·exact vX h
 ·rw[List.zip_append h];rfl
def xl(to ti tv:DE):DS:=λDn ρ M=>tv ρ M (λy M1=>to ρ M1 (λd M2=>ti ρ M2 (λdi M3=>∃k ks ds key,d= .loc k/\M3[k]? =some (.fU ks ds)/\Ds di=some key/\ks.length < 1000/\Dn.nx ρ (M3.set k (.fU (ia ks key) (fq ks key ds y)))) Dn.x) Dn.x) Dn.x
section
variable{value:Expr}{to tv:DE}{pos':Pos}
def yb(hr:cF k' X.A)(ho:JE X R o to)(hi:JE X R i ti)(hv:JE X R value tv)(hs:swapsWith value (some (.Subscript o i pos')) pos.line X.env=pure false:=by rfl):JS X R (.Assign [.Subscript o i pos'] value pos) (xl to ti tv):=
 .of (Ma (EX hr) ho hi hv hs) λσ H G L ρ M Dn rl n h hx=>by
  refine⟨G,L,ρ,M,_,_,rl,n,h,hx,λv H1 xz=>?_⟩;have⟨dv,G1,L1,M1,e1,r1,n1,h1⟩:=xz;refine⟨G1,L1,ρ,M1,_,_,r1,n.mono e1,h1,hx.on e1,λov H2 xz=>?_⟩;have⟨d,G2,L2,M2,e2,r2,n2,h2⟩:=xz;refine⟨G2,L2,ρ,M2,_,_,r2,(n.mono e1).mono e2,h2,(hx.on e1).on e2,λiv H3 xz=>?_⟩;have⟨di,G3,L3,M3,e3,r3,n3,k,ks,ds,key,ed,hm,hk,hlen,h3⟩:=xz;subst ed;have⟨a,rfl,Io⟩:=n2;have BC:=e3.l.get Io;have⟨_,vs,hH,hl,dn⟩:=r3.hI k a _ BC hm;have MK:=e2.trans e3;have V5:=Den.mono MK.g MK.l _ _ n1;have Hn:ks.length=vs.length:=hl.trans dn.length;obtain rfl:iv=kV key:=lX hk n3;have z:(ks.zip vs).length < sizeLine:=by rw[abF];exact aa3 (Nat.min_le_left _ _) (Nat.lt_trans hlen @_)
  refine⟨a,_,rfl,IE.k hH z,ρ,G3,L3,_,((e1.trans e2).trans e3).trans (r3.Iv BC),r3.setM (m:=.fU (ia ks key) (fq ks key ds dv)) BC ⟨fq ks key vs v,by rw[az,Lw Hn],?_,?_⟩,(((n.mono e1).mono e2).mono e3).mono (r3.Iv (o:=.own a) BC),h3⟩
  ·unfold ia fq;split
   ·rw[pD hl]
   ·rw[aah,aah,hl];rfl
  ·unfold fq;split
   ·exact oU V5 dn hl
   ·exact dn.app ⟨_,_,rfl,V5,rfl⟩
end
section
variable{f a b v1 v2:Expr}{to ta tb tx t1 t2:DE}{p dj:Pos}
def EZ:Dt->Dt->Ms->DQ->Prop:=λdi d M q=>∃k ks ds key,d= .loc k/\M[k]? =some (.fU ks ds)/\Ds di=some key/\q (.bl (!LX ks key)) M
def HB(hu:X.A.units+1 < cLine):ky X (compareOp .NotIn) (λy x H Q=>∃a o,x=V.ref a/\wY H a y o/\Q (.bl (!o.isSome)) H):=by intro ζ s σ H x y u v Q I rx ry ⟨a,o,ex,g,q⟩;subst ex;obtain rfl:v=Value.ref a:=ry;exact L_ hu I g rx λs3 I3=>⟨.bl (!o.isSome),H,I3,rfl,q⟩
def MP{K:fI}:qy K (λy x H Q=>∃a o,x=V.ref a/\wY H a y o/\Q (.bl (!o.isSome)) H) EZ:=by intro G0 L0 H0 G L M H v1 v2 d1 d2 q e r n1 n2 ⟨k,ks,ds,key,ed,hm,hk,h⟩;subst ed;have⟨a,rfl,IL⟩:=n2;have⟨_,vs,hH,hl,dn⟩:=r.hI k a _ IL hm;refine⟨a,_,rfl,.inl ⟨_,key,.inl hH,lX hk n1,rfl⟩,?_⟩;have Hn:ks.length=vs.length:=hl.trans dn.length;rw[oC Hn];exact cx e r h
def GW(hr:cF k' X.A)(ja:JE X R a ta)(jb:JE X R b tb)(hm:behindInMarks .NotIn b=false:=by rfl):JT X R (.Compare a [.NotIn] [b] pos) (nO (lT EZ ta tb)):=iK (HB (EX hr)) MP ja jb hm
def yt:eY X (.type "dict") (λxs H Q=>∃a Ρ,xs=[V.ref a]/\Rd H a (.dK Ρ)/\∀p,H p=none->Q (.ref p) (upd H p (.dK Ρ))):=by
 intro ζ s σ H xs us Q I r ⟨a,Ρ,ex,e,q⟩;subst ex;cases r with
 | cons r1 r2=>
  cases r2;cases r1;exact JX I e λp s' hp I'=>⟨.ref p,_,I',rfl,q p hp⟩
def JM:List Dt->Ms->DQ->Prop
 | [d],M,q=>∃k ks ds,d= .loc k/\M[k]? =some (.fU ks ds)/\q (.loc M.length) (M++[.fU ks ds])
 | _,_,_=>False
def Vh{K:fI}:GQ K (λxs H Q=>∃a Ρ,xs=[V.ref a]/\Rd H a (.dK Ρ)/\∀p,H p=none->Q (.ref p) (upd H p (.dK Ρ))) JM:=by
 intro G0 L0 H0 G L M H vs ds q e r n h;unfold JM at h;split at h
 ·rename_i d;have⟨v,rfl,n1⟩:=bH n;have⟨k,ks,ds,ed,hm,h⟩:=h;subst ed;have⟨a,rfl,hk⟩:=n1;have⟨_,vs,hH,hl,dn⟩:=r.hI k a _ hk hm;refine⟨a,_,rfl,.inl hH,λp hp=>?_⟩;exact⟨.loc M.length,G,L++[p],_,e.trans (r.Wz hp),r.NF (m:=.fU ks ds) hp ⟨vs,az,hl,Ω.mono (.refl _) ⟨[p],rfl⟩ _ _ dn⟩,⟨p,rfl,by rw[<-r.len,List.getElem?_append_right (Nat.le_refl _)];simp⟩,h⟩
 ·exact h.elim
def CH:bootBuiltins "dict"=some (.type "dict"):=by decide+kernel
def K0(hm:X.mg "dict"=none)(ha:JA X R [e] t)(hg:Gl X "dict":=by rfl)(he:starEach [e] X.env=(false,eval e X.env)::starEach [] X.env:=by rfl)(hU:(backTo pos (starEach [] X.env)).any (·.1)=false:=by rfl):JE X R (.Call (.Name "dict" p) [e] [] pos) (D3 JM t):=
 sZ yt Vh hm CH ha hg @_ @_ he hU
end
section
variable{f v1 v2:Expr}{to tx t1 t2:DE}{dj:Pos}
def M_{K:fI}{G1:Hp}{L1:List Addr}{H1:Hp}{H:Hp}{q:DQ}(e:Ex G1 L1 H1 G L H)(r:Rl K G L M H)(Ov:H1 p=none)(hg:G p=none)(hl:p∉L)(h:H p=some (.dK (ks.zip vs)))(hk:ks.length=ds.length)(n:Ω K G L ds vs)(k:q (.loc M.length) (M++[.fU ks ds])):Fin K G1 L1 H1 q (.ref p) H:=by
 refine⟨.loc M.length,G,L++[p],M++[.fU ks ds],⟨e.g,e.l.trans ⟨[p],rfl⟩,e.fr,e.out,λb hb=>?_,e.ED⟩,⟨r.sub,by rw[List.length_append,List.length_append,r.len];rfl,List.nodup_append.mpr ⟨r.nd,by simp,λa ha b hb=>?_⟩,λk a m h1 h2=>?_⟩,⟨p,rfl,by rw[<-r.len,List.getElem?_append_right (Nat.le_refl _)];simp⟩,k⟩
 ·rcases aaV.mp hb with z| z
  ·exact e.new b z
  ·have e:b=p:=by simpa using z
   right;rw[e];exact Ov
 ·have e:b=p:=by simpa using hb
  rw[e];exactλz=>hl (z▸ha)
 ·by_cases A7:k < L.length
  ·rw[aas A7]at h1;rw[aas (by rw[<-r.len];exact A7)]at h2;have⟨q1,q2⟩:=r.hI k a m h1 h2;exact⟨q1,q2.mono (.refl _) ⟨[p],rfl⟩ rfl⟩
  ·have e:k=L.length:=by have:=(aaf.mp h1).1;rw[aah]at this;simp at this;omega
   rw[e,aan (aaj _)]at h1;rw[e,r.len,aan (aaj _)]at h2;simp at h1 h2;subst h1 h2;exact⟨hg,vs,h,hk,Ω.mono (.refl _) ⟨[p],rfl⟩ _ _ n⟩
end
def Lz{α β:Type}{F:α->β->Prop}:∀{xs:List α} {ys:List β},Paired F xs ys->∀{i:Nat} {x:α},xs[i]? =some x->∃y,ys[i]? =some y/\F x y
 | _,_,.nil,i,x,h=>by simp at h
 | _,_,.cons r t,0,x,h=>by obtain rfl:=aaJ h;exact⟨_,rfl,r⟩
 | _,_,.cons r t,i+1,x,h=>by have⟨y,e,f⟩:=Lz t (show _=some x by simpa using h);exact⟨y,by simpa using e,f⟩
def T_(td te:TE):TE:=λσ H Q=>td σ H λx H1=>∃a,x= .ref a/\IsD H1 a/\te σ H1 λy H2=>∃b Ρ more,y= .ref b/\a≠b/\H2 a=some (.dK Ρ)/\Rd H2 b (.dK more)/\Ρ.length+more.length<=sizeLine/\Q .bU (upd H2 a (.dK (iP Ρ more)))
section
variable{dj:Pos}{td te:TE}
def N1(ho:PE X o td)(he:PE X e te)(m:M1 X o "update" apos e dj):PE X (.Call (.Attribute o "update" apos) [e] [] dj) (T_ td te):=by
 intro ζ s σ H Q I h;refine wpAny_Call_method m.base m.S8 m.line PySem.F.plainAttrs_dict PySem.F.slot_dict_update PySem.F.type_dict_update (bW (ho ζ s σ H _ I h) λu s1 xz=>?_);have⟨x,H1,I1,rx,a,ex,d,q1⟩:=xz;subst ex;obtain rfl:u=Value.ref a:=rx;have⟨t1,t2,_⟩:=Qp I1 d;refine⟨t1,t2,?_⟩;rw[m.trees];refine Calls.callWith_builtin rfl (Calls.evalArgs_plain (Calls.spliced_cons (bW (he ζ s1 σ H1 _ I1 q1) fun iv s2 ⟨y,H2,I2,ry,b,Ρ,more,ey,my,hA,hB,hz,q2⟩=>Calls.spliced_nil ?_)));subst ey;obtain rfl:iv=Value.ref b:=ry;have⟨z1,d1,vs,r1,dd1⟩:=Ec I2.bc hA;have⟨z2,d2,rs,r2,Ws⟩:=om I2.bc hB;refine call_meetsIn PySem.F.slot_dict_update dd1.typeIs PySem.F.entry_dict_update (PySem.F.args_dict_update_2 _ _) (meets_dict_update (bV X.prog X.w) a b my d2) ⟨vs,rs,dd1,Ws,by rw[<-r1.length,<-r2.length];exact hz,λh' hm _ hs=>?_⟩;have hex:∃q,h'.get? a=some q:=let ⟨q,_,_,hq,_⟩:=hm;⟨q,hq⟩
 exact⟨.bU,_,rq (t':=s2.toks) I2 (by rw[hA];exact True.intro) hs hex (rV (aax (iO more Ρ) hz) d1 (KV.merge r2 r1) hm),rfl,q2⟩
end
section
variable{l k a b:Expr}{to tl tk ta tb:DE}{p2 dj:Pos}
def qu(ks:List Key):List Key->List Key
 | []=>ks
 | k::r=>qu (ia ks k) r
def tm(ks:List Key)(ds:List Dt):List Key->List Dt->List Dt
 | k::r,d::Bl=>tm (ia ks k) (fq ks k ds d) r Bl
 | _,_=>ds
def QX{α:Type}{k:Key}{xs:List α}{v:α}(h:ks.length=xs.length):(ia ks k).length=(fq ks k xs v).length:=by
 unfold ia fq;split
 ·rw[pD h]
 ·rw[aah,aah,h];rfl
def RI{K:fI}{k:Key}(n:Den K G L d v)(h:Ω K G L ds vs)(hl:ks.length=ds.length):Ω K G L (fq ks k ds d) (fq ks k vs v):=by
 unfold fq;split
 ·exact oU n h hl
 ·exact h.app ⟨_,_,rfl,n,rfl⟩
def DU{K:fI}{G:Hp}{L:List Addr}:∀{wq:List Key} {Bl:List Dt} {LU:List V} {ks:List Key} {ds:List Dt} {vs:List V},wq.length=Bl.length->Ω K G L Bl LU->ks.length=ds.length->Ω K G L ds vs->
  ∃us,iP (ks.zip vs) (wq.zip LU)=(qu ks wq).zip us/\(qu ks wq).length=(tm ks ds wq Bl).length/\Ω K G L (tm ks ds wq Bl) us
 | [],[],_,ks,ds,vs,_,h2,hl,h=>by cases h2;exact⟨vs,rfl,hl,h⟩
 | k::wq,d::Bl,_,ks,ds,vs,Hn,⟨v,LU,e,n0,ns⟩,hl,h=>by
  subst e;have Hn:wq.length=Bl.length:=by simpa using Hn
  have⟨us,e1,e2,e3⟩:=DU (ks:=ia ks k) (ds:=fq ks k ds d) (vs:=fq ks k vs v) Hn ns (QX hl) (RI n0 h hl);refine⟨us,?_,e2,e3⟩;rw[abx];show iP (iT (ks.zip vs) k v) (wq.zip LU)=(qu (ia ks k) wq).zip us;rw[Lw (hl.trans h.length),e1]
def EF(to te:DE):DE:=λρ M q x=>to ρ M (λd M1=>(∃k ks ds,d= .loc k/\M1[k]? =some (.fU ks ds))/\te ρ M1 (λd2 M2=>∃k k2 ks ds wq Bl,d= .loc k/\d2= .loc k2/\k≠k2/\M2[k]? =some (.fU ks ds)/\M2[k2]? =some (.fU wq Bl)/\ks.length+wq.length<=1000/\q .bU (M2.set k (.fU (qu ks wq) (tm ks ds wq Bl)))) x) x
def CN(ho:JE X R o to)(he:JE X R e te)(m:M1 X o "update" apos e dj:=by exact⟨rfl,rfl,rfl,rfl⟩):JE X R (.Call (.Attribute o "update" apos) [e] [] dj) (EF to te):=
 .of (N1 ho he m) λσ H G L ρ M q x rl n h hx=>by
  refine⟨G,L,ρ,M,_,x,rl,n,h,hx,λv H1 xz=>?_⟩;have⟨d1,G1,L1,M1,e1,r1,n1,⟨k0,ks0,ds0,ed0,Xx⟩,h1⟩:=xz;subst ed0;have⟨a,rfl,hk⟩:=n1;have⟨_,vs0,hH0,_,_⟩:=r1.hI k0 a _ hk Xx;refine⟨a,rfl,.inl ⟨_,.inl hH0⟩,G1,L1,ρ,M1,_,x,r1,n.mono e1,h1,hx.on e1,λv2 H2 xz=>?_⟩;have⟨d2,G2,L2,M2,e2,r2,n2,k,k2,ks,ds,wq,Bl,ed,ed2,my,hm,RU,hz,h3⟩:=xz;cases ed;subst ed2;have BC:=e2.l.get hk;have⟨b,rfl,Vq⟩:=n2;have⟨_,vs,hH,hl,dn⟩:=r2.hI k0 a _ BC hm;have⟨_,LU,Wf,Hn,R_⟩:=r2.hI k2 b _ Vq RU;have z1:(ks.zip vs).length<=ks.length:=by rw[abF];exact Nat.min_le_left _ _
  have z2:(wq.zip LU).length<=wq.length:=by rw[abF];exact Nat.min_le_left _ _
  have sz:(1000:Nat)<=sizeLine:=@_
  have⟨us,u1,u2,u3⟩:=DU Hn R_ hl dn;have ab:a≠b:=λz=>by subst z;have i1:=(aaf.mp BC).1;have:=(List.getElem?_inj (l:=L2) i1 r2.nd).mp (BC.trans Vq.symm);exact my this
  refine⟨b,_,_,rfl,ab,hH,.inl Wf,(),?_⟩;exact⟨.bU,G2,L2,_,(e1.trans e2).trans (r2.Iv BC),r2.setM (m:=.fU (qu ks wq) (tm ks ds wq Bl)) BC ⟨us,by rw[az,u1],u2,u3⟩,rfl,h3⟩
end
def Kr(P:Program)(w:World)(a:Addr)(Ρ:List (Key×V))(ep:Nat)(h:Heap):Prop:=Ρ.length<=sizeLine/\(a==sysModules)=false/\∃vs,KV Ρ vs/\h.DictAt (bV P w) a vs ep
def CP(P:Program)(w:World)(a:Addr)(Ρ:List (Key×V))(ep:Nat):HO:=.ext (Kr P w a Ρ ep)
section
variable{P':Program}{w':World}{H:Hp}{h:Heap}{ep:Nat}
def Fq(ok:me P w H h)(e:H a=some (CP P' w' a Ρ ep)):Kr P' w' a Ρ ep h:=(ok a _ e).1
def Rb(x:Kr P' w' a Ρ ep h):dE P w H h a (CP P' w' a Ρ ep):=by
 refine⟨x,?_,λh1 h2 y k=>?_⟩
 ·have⟨_,_,vs,_,o,es,e,_⟩:=x;exact⟨o,e⟩
 ·have⟨z,hd,vs,r,o,es,e,c⟩:=y;exact⟨z,hd,vs,r,o,es,k _ e,c⟩
end
section
variable{σ:St}{H:Hp}{s:Shared}{ep:Nat}
def Inv.RV(I:Inv X ζ σ H s)(mu:R9 (H a))(x:Kr X.prog X.w a Ρ ep s.heap):Inv X ζ σ (upd H a (CP X.prog X.w a Ρ ep)) s:=by
 have he:∃u,s.heap.get? a=some u:=let ⟨_,_,_,_,o,_,e,_⟩:=x;⟨o,e⟩
 exact I.write (x:=a) (e:=a) (h':=s.heap) (t':=s.toks) mu (.inl rfl) (λb u _ q=>q) he (Rb x)
def Inv.walkOut(I:Inv X ζ σ H s)(e:H a=some (CP X.prog X.w a Ρ ep)):Inv X ζ σ (upd H a (.dK Ρ)) s:=by
 have⟨z,hd,vs,r,dd⟩:=Fq I.bc e;have he:∃u,s.heap.get? a=some u:=let ⟨o,_,e,_⟩:=dd;⟨o,e⟩
 exact I.write (x:=a) (e:=a) (h':=s.heap) (t':=s.toks) (by rw[e];exact True.intro) (.inl rfl) (λb u _ q=>q) he (rV z hd r dd.dictOf)
def UH{k:Key}{u:Value}(h:(bV P w).is k u=true):aS (kV k) u:=by
 rcases bO h with ⟨i,t,rfl,rfl⟩| ⟨x,t,rfl,rfl⟩
 ·exact⟨t,rfl⟩
 ·exact⟨t,rfl⟩
end
def XX(P:Program)(w:World)(a:Addr)(Ρ:List (Key×V))(ep:Nat):It:=
 ⟨λi H=>H a=some (CP P w a Ρ ep)/\i < Ρ.length,λi H x H'=>H'=H/\∃kv,Ρ[i]? =some kv/\x=kV kv.1,λi H=>H a=some (CP P w a Ρ ep)/\Ρ.length<=i⟩
def GP{K:fI}(a it:Addr)(Ρ:List (Key×V))(ep:Nat):Turn P w K tg (XX P w a Ρ ep) [it] it (λi h=>h.IsKeyIter it a i Ρ.length ep) where
 mem:=by simp
 obj:=λi h st b hb=>by
  have e:b=it:=by simpa using hb
  subst e;have⟨o,e,c,d⟩:=st;exact⟨o,e,λv z=>by rw[d]at z;cases z⟩
 keep:=λi h h' st k=>by have⟨o,e,r⟩:=st;exact⟨o,k it (by simp) o e,r⟩
 item:=by
  intro X hP hw hK hc i ζ s σ H E I hf st hg;subst hP hw hK;have⟨hq,hi⟩:=hg;have⟨z,hd,vs,rel,dd⟩:=Fq I.bc hq;have⟨f0,f1,f2,f3,f4,f5⟩:=hf it (by simp);have hx:Ρ[i]? =some Ρ[i]:=aaa hi;have⟨q,Sf,r1,r2⟩:=Lz rel hx;have⟨k,v⟩:=q;have Z4:s.heap.IsKeyIter it a i vs.length ep:=by rw[<-rel.length];exact st
  refine wpAny_pyNext_dict_item Z4 dd Sf λkey h' hk xM sb=>?_;have xM:h'.IsKeyIter it a (i+1) Ρ.length ep:=by rw[rel.length];exact xM
  have I1:Inv X ζ σ H {s with heap:=h'}:=I.turned (t':=s.toks) (λb o hb e=>(sb.2 b hb).trans e) f0 f1 f3 f4 f5;have⟨o,e,c,d⟩:=id xM;exact⟨key,rfl,vF (s:={s with heap:=h'}) e c d @_ ⟨kV k,H,I1,UH hk,⟨rfl,Ρ[i],hx,by rw[r1]⟩,xM,λb hb=>(hf b hb).1⟩⟩
 done:=by
  intro X hP hw hK hc i ζ s σ H E I hf st hg;subst hP hw hK;have⟨hq,hi⟩:=hg;have⟨z,hd,vs,rel,dd⟩:=Fq I.bc hq;have⟨f0,f1,f2,f3,f4,f5⟩:=hf it (by simp);have Z4:s.heap.IsKeyIter it a i vs.length ep:=by rw[<-rel.length];exact st
  exact wpAny_pyNext_dict_end (I.ok.hd hc) Z4 dd (abL (by rw[<-rel.length];exact hi)) λh' eb=>⟨rfl,I.turned (t':=s.toks) (λb o hb e=>eb b o hb e) f0 f1 f3 f4 f5⟩
 self:=λ_ _ _ _ _ st h=>wpAny_pyIter_keyiter st h
section
variable{σ:St}{H:Hp}{s:Shared}{Q:It->Hp->Prop}{E:Value->Shared->Prop}
def Me(I:Inv X ζ σ H s)(e:H a=some (.dK Ρ))(q:∀ep,Q (XX X.prog X.w a Ρ ep) (upd H a (CP X.prog X.w a Ρ ep))):wpAny (model X.prog X.w) X.A (pyIter (.ref a)) (LW X ζ σ tg Q) E s:=by
 have⟨z,hd,vs,rel,dd⟩:=Ec I.bc e;have⟨ep,dd⟩:=dd.dictAt;refine wpAny_pyIter_dict hd dd ?_;have I1:=I.RV (by rw[e];exact True.intro) (show Kr X.prog X.w a Ρ ep s.heap from⟨z,hd,vs,rel,dd⟩);refine⟨s.heap.objs.size,[s.heap.objs.size],_,_,_,rfl,I1.kept (t':=s.toks) λb o e=>aal _ e,GP a _ Ρ ep,⟨_,aaS _ rfl,rfl,by rw[rel.length];rfl⟩,λb hb=>?_,q ep⟩;have e:b=s.heap.objs.size:=by simpa using hb
 subst e;exact I1.DL (aaj _) (I1.bc.fresh (aaj _))
end
def NxW(P:Program)(w:World)(D:y6):St->Hp->Prop:=λσ H=>∃a Ρ ep,H a=some (CP P w a Ρ ep)/\D.nx σ (upd H a (.dK Ρ))
section
variable{t:TS}{td ty:TE}
def HI(h:PS X st t):PS X st (λD σ H=>t {D with nx:=NxW X.prog X.w D} σ H):=by
 intro ζ s σ H D I h';refine bW (h ζ s σ H _ I h') λf s' sp=>?_;cases f with
 | next=>
  have⟨σ',H',I',a,Ρ,ep,e,q⟩:=sp;exact⟨σ',_,I'.walkOut e,q⟩
 | brk=>exact sp
 | cont=>exact sp
 | ret u=>exact sp
def Pp(P:Program)(w:World)(td ty:TE):TE:=λσ H Q=>td σ H λx H1=>ty σ H1 λy H2=>∃a Ρ ep k v,x= .ref a/\H2 a=some (CP P w a Ρ ep)/\y=kV k/\ko Ρ k=some v/\Q v H2
def Iw(ho:PE X o td)(hi:PE X i ty)(hs:DP i):PE X (.Subscript o i pos) (Pp X.prog X.w td ty):=by intro ζ s σ H Q I h;refine xU acr.lookup hs (bW (ho ζ s σ H _ I h) fun u s1 ⟨x,H1,I1,rx,q1⟩=>bW (hi ζ s1 σ H1 _ I1 q1) λiv s2 xz=>?_);have⟨y,H2,I2,ry,a,Ρ,ep,k,v,ex,e,ey,l,q2⟩:=xz;subst ex ey;obtain rfl:u=Value.ref a:=rx;have⟨z,hd,vs,rel,dd⟩:=Fq I2.bc e;have dd:=dd.dictOf;have⟨w',hw,HM⟩:=lj.some_of (v:=v) (o:=valueAt vs k) (by rw[<-l];exact rel.val k);exact⟨dd.typeIs,wpAny_getItem_of (ud ry) dd.mapOf hw ⟨v,H2,I2.tok _,HM,q2⟩⟩
end
def Ku:Key->Dt
 | .inl i=>.int i
 | .inr x=>.str x
def NU{K:fI}{G:Hp}{L:List Addr}:∀k:Key,Den K G L (Ku k) (kV k)
 | .inl _=>rfl
 | .inr _=>rfl
def rO{K:fI}{G:Hp}{L:List Addr}:∀is:List Int,Ω K G L (is.map Dt.int) (is.map V.int)
 | []=>rfl
 | _::is=>⟨_,_,rfl,rfl,rO is⟩
def As{K:fI}{G:Hp}{L:List Addr}:∀{is:List Int} {vs:List V},Ω K G L (is.map Dt.int) vs->vs=is.map V.int
 | [],vs,h=>h
 | i::is,vs,h=>by have⟨v,r,rfl,h1,h2⟩:=h;have h1:v= .int i:=h1;rw[h1,As h2];rfl
def Ow(P:Program)(w:World)(ks:List Key)(is:List Int)(ep:Nat):Addr->HO:=λa=>CP P w a (ks.zip (is.map V.int)) ep
def uZ(g:Dt->En->(En->Prop)->Prop)(tb:DS)(Dn:k_)(k:Nat)(u:Addr->HO)(m:MO):List Key->En->Ms->Prop
 | [],ρ,M=>M[k]? =some (.raw u)/\Dn.nx ρ (M.set k m)
 | x::xs,ρ,M=>M[k]? =some (.raw u)/\g (Ku x) ρ λρ'=>tb {Dn with nx:=uZ g tb Dn k u m xs,ct:=uZ g tb Dn k u m xs,bk:=λρ M=>M[k]? =some (.raw u)/\Dn.nx ρ (M.set k m)} ρ' M
def TM(P:Program)(w:World)(te:DE)(g:Dt->En->(En->Prop)->Prop)(tb:DS):DS:=λDn ρ M=>te ρ M (λd M1=>∃k ks is,d= .loc k/\M1[k]? =some (.fU ks (is.map Dt.int))/\∀ep,uZ g tb Dn k (Ow P w ks is ep) (.fU ks (is.map Dt.int)) ks ρ (M1.set k (.raw (Ow P w ks is ep)))) Dn.x
def RP(P:Program)(w:World)(t:TE):TI:=λσ H R=>t σ H λv H1=>∃a Ρ,v= .ref a/\H1 a=some (.dK Ρ)/\∀ep,R (XX P w a Ρ ep) (upd H1 a (CP P w a Ρ ep))
def NA{t:TE}(h:PE X e t):PI X tg e (RP X.prog X.w t):=by intro ζ s σ H R I ht;refine bW (h ζ s σ H _ I ht) λu s1 xz=>?_;have⟨v,H1,I1,rv,a,Ρ,ev,ha,q⟩:=xz;subst ev;obtain rfl:u=Value.ref a:=rv;exact Me I1 ha q
section
variable{iter:Expr}{body:List Stmt}{to:DE}{gg:TG}{g:Dt->En->(En->Prop)->Prop}{tb:DS}
def Nt(hi:JE X R iter te)(hg:PG X tg gg)(gd:GD X.K gg g)(hb:CC X R body tb)(hp:PassesOwn (model X.prog X.w) X.A X.env X.xe:=by first| exact PassesOwn.never| exact PassesOwn.leaving)(hc:X.calm=true:=by rfl)(hs:∀x,foldedSetIterable iter X.env x=pure x:=by intro _;rfl):
  JS X R (.For tg iter body [] pos) (TM X.prog X.w te g tb):=.of (HI (CS hp hc (NA hi) hg hb hs)) λσ H G L ρ M Dn rl n h hx=>by
 refine⟨G,L,ρ,M,_,_,rl,n,h,hx,λv H1 xz=>?_⟩;have⟨d,G1,L1,M1,e1,r1,n1,k,ks,is,ed,hk,h1⟩:=xz;subst ed;have⟨a,rfl,Io⟩:=n1;have⟨hGa,vs,hH,hl,dn⟩:=r1.hI k a _ Io hk;have hvs:=As dn;subst hvs;rw[aae]at hl;refine⟨a,_,rfl,hH,λep=>?_⟩;have h1:=h1 ep;generalize hu:Ow X.prog X.w ks is ep=u at h1;have VX:CP X.prog X.w a (ks.zip (is.map V.int)) ep=u a:=by rw[<-hu];rfl
 have r2:Rl X.K G1 L1 (M1.set k (.raw u)) (upd H1 a (CP X.prog X.w a (ks.zip (is.map V.int)) ep)):=r1.setM (m:=.raw u) Io (show upd H1 a _ a=some (u a) by rw[az,VX]);have e2:Ex G1 L1 H1 G1 L1 (upd H1 a (CP X.prog X.w a (ks.zip (is.map V.int)) ep)):=r1.Iv Io;have zl:(ks.zip (is.map V.int)).length=ks.length:=by rw[abF,aae];omega
 generalize Wf:upd H1 a (CP X.prog X.w a (ks.zip (is.map V.int)) ep)=H2 at r2 e2;have KD:=e1.trans e2;have out:∀{G':Hp} {L':List Addr} {H':Hp} {M':Ms} {ρ':En} {σ':St},Ex G1 L1 H2 G' L' H'->Rl X.K G' L' M' H'->mv X.K G' L' ρ' σ'->M'[k]? =some (.raw u)->Dn.nx ρ' (M'.set k (.fU ks (is.map Dt.int)))->NxW X.prog X.w (uJ X.K G L H Dn) σ' H':=λ{G' L' H' M' ρ' σ'} e' r' n' hm HR=>by have CQ:=e'.l.get Io;have Tf:H' a=some (u a):=(r'.hI k a _ CQ hm).2;refine⟨a,ks.zip (is.map V.int),ep,by rw[VX];exact Tf,ρ',G',L',_,(KD.trans e').trans (r'.Iv CQ),r'.setM (m:=.fU ks (is.map Dt.int)) CQ ⟨is.map V.int,az,by rw[aae];exact hl,rO is⟩,n'.mono (r'.Iv (o:=.own a) CQ),HR⟩
 refine⟨λi m σ' H'=>m+i=ks.length/\fk X.K G1 L1 H2 (λρ' M'=>uZ g tb Dn k u (.fU ks (is.map Dt.int)) (ks.drop i) ρ' M') σ' H',⟨ks.length,rfl,ρ,G1,L1,_,.refl _ _ _,r2,n.mono e1,by rw[acq];exact h1⟩,?_⟩;rintro i m σ' H' ⟨hm,ρ',G',L',M',e',r',n',h'⟩;have CQ:=e'.l.get Io;by_cases hi:i < ks.length
 ·right;rw[aby hi]at h';have⟨MD,h'⟩:=h';have Tf:H' a=some (u a):=(r'.hI k a _ CQ MD).2;refine⟨⟨by rw[VX];exact Tf,()⟩,fk X.K G1 L1 H2 (λρ' M'=>uZ g tb Dn k u (.fU ks (is.map Dt.int)) (ks.drop (i+1)) ρ' M'),λσ2 H3 f=>⟨m - 1,(),(),f⟩,λv H3 hy=>?_⟩;have⟨rfl,kv,hkv,rfl⟩:=hy;have IL:kv.1=ks[i]:=by rw[List.getElem?_zip_eq_some]at hkv;have:=hkv.1;rw[aaa hi]at this;exact(aaJ this).symm
  rw[IL];refine gd G' L' M' H3 _ _ ρ' σ' _ _ r' (NU _) n' h' λρ3 σ3 n3 h3=>?_;refine⟨G',L',ρ3,M',_,r',n3,h3,hx.on (KD.trans e'),⟨λ_ _ f=>fk.back e' f,λ_ _ f=>Fin.back (KD.trans e') f,λσ4 H4 f=>?_,λ_ _ f=>fk.back e' f⟩⟩;have⟨ρ4,G4,L4,M4,e4,r4,n4,hm4,h4⟩:=f;exact out (e'.trans e4) r4 n4 hm4 h4
 ·left;rw[ace ()]at h';have Tf:H' a=some (u a):=(r'.hI k a _ CQ h'.1).2;exact⟨⟨by rw[VX];exact Tf,()⟩,out e' r' n' h'.1 h'.2⟩
def Rf(P:Program)(w:World)(to ti:DE):DE:=λρ M q x=>to ρ M (λd M1=>ti ρ M1 (λdi M2=>∃k ks is ep key j,d= .loc k/\M2[k]? =some (.raw (Ow P w ks is ep))/\Ds di=some key/\eO ks (is.map Dt.int) key=some (.int j)/\q (.int j) M2) x) x
def Mi(ho:JE X R o to)(hi:JE X R i ti)(hs:DP i:=by intro _ _;rfl):JE X R (.Subscript o i pos) (Rf X.prog X.w to ti):=
 .of (Iw ho hi hs) λσ H G L ρ M q x rl n h hx=>by refine⟨G,L,ρ,M,_,x,rl,n,h,hx,λv H1 xz=>?_⟩;have⟨d1,G1,L1,M1,e1,r1,n1,h1⟩:=xz;refine⟨G1,L1,ρ,M1,_,x,r1,n.mono e1,h1,hx.on e1,λv2 H2 xz=>?_⟩;have⟨d2,G2,L2,M2,e2,r2,n2,k,ks,is,ep,key,j,ed,hm,hk,hg,h2⟩:=xz;subst ed;have⟨a,rfl,IL⟩:=n1;have QP:=e2.l.get IL;have hH:H2 a=some (Ow X.prog X.w ks is ep a):=(r2.hI k a _ QP hm).2;obtain rfl:v2=kV key:=lX hk n2;have⟨v,hv,dv⟩:=qj (K:=X.K) (G:=G2) (L:=L2) (rO is) hg;exact⟨a,_,ep,key,v,rfl,hH,rfl,hv,_,G2,L2,M2,e1.trans e2,r2,dv,h2⟩
end
section
variable{k1 v1 k2 v2:Expr}{s1 t1 s2 t2:DE}
structure Ie(K:fI)(G0:Hp)(L0:List Addr)(H0:Hp)(p:Addr)(G:Hp)(L:List Addr)(M:Ms)(H:Hp):Prop where
 ex:Ex G0 L0 (upd H0 p (.dK [])) G L H
 rl:Rl K G L M H
 at_:H p=some (.dK [])
 g:G p=none
 l:p∉L
def Ie.on{K:fI}{G0:Hp}{L0:List Addr}{H0:Hp}{H:Hp}(a:Ie K G0 L0 H0 p G L M H){G':Hp}{L':List Addr}{M':Ms}{H':Hp}(e:Ex G L H G' L' H')(r:Rl K G' L' M' H'):Ie K G0 L0 H0 p G' L' M' H':=
 ⟨a.ex.trans e,r,e.out _ _ a.at_ a.l,e.fr _ a.g (by rw[a.at_];simp),λz=>(e.new _ z).elim a.l λq=>by rw[a.at_]at q;cases q⟩
def Th{K:fI}{H:Hp}(rl:Rl K G L M H)(hp:H p=none):Ex G L H G L (upd H p (.dK []))/\Ie K G L H p G L M (upd H p (.dK [])):=by
 have gn:G p=none:=rl.sub.free hp;have ln:p∉L:=rl.PV hp;have e0:Ex G L H G L (upd H p (.dK [])):=⟨.refl _,.refl _,λ_ h _=>h,λb u h1 _=>by rw[Μ (λz=>by rw[z,hp]at h1;cases h1)];exact h1,λ_ h=>.inl h,λb h=>by rw[Μ (λz=>h (by rw[z];exact hp))];exact h⟩
 have r0:Rl K G L M (upd H p (.dK [])):=⟨λb u e=>by rw[Μ (λz=>by rw[z,gn]at e;cases e)];exact rl.sub b u e,rl.len,rl.nd,λi a m h1 h2=>by
  have⟨q1,q2⟩:=rl.hI i a m h1 h2
  exact⟨q1,q2.mono (.refl _) (.refl _) (Μ λz=>q2.there (by rw[z];exact hp))⟩⟩
 exact⟨e0,.refl _ _ _,r0,az,gn,ln⟩
def Ie.fin{K:fI}{G0:Hp}{L0:List Addr}{H0:Hp}{H:Hp}{q:DQ}(a:Ie K G0 L0 H0 p G L M H)(e0:Ex G0 L0 H0 G0 L0 (upd H0 p (.dK [])))(hp:H0 p=none)(hk:ks.length=ds.length)(n:Ω K G L ds vs)(k:q (.loc M.length) (M++[.fU ks ds])):Fin K G0 L0 H0 q (.ref p) (upd H p (.dK (ks.zip vs))):=by
 have e:=e0.trans a.ex;have gne:∀{b:Addr} {w:HO},G b=some w->b≠p:=λe z=>by rw[z,a.g]at e;cases e
 refine M_ (G:=G) (L:=L) (M:=M) (ks:=ks) (ds:=ds) (vs:=vs) ⟨e.g,e.l,e.fr,λb w h1 h2=>?_,e.new,λb h=>?_⟩ ⟨λb w e=>?_,a.rl.len,a.rl.nd,λi c m h1 h2=>?_⟩ hp a.g a.l az hk n k
 ·rw[Μ (λz=>by rw[z,hp]at h1;cases h1)];exact e.out b w h1 h2
 ·by_cases hb:b=p
  ·rw[hb,az];simp
  ·rw[Μ hb];exact e.ED b h
 ·rw[Μ (gne e)];exact a.rl.sub b w e
 ·have⟨q1,q2⟩:=a.rl.hI i c m h1 h2;exact⟨q1,q2.mono (.refl _) (.refl _) (Μ λz=>a.l (by rw[<-z];exact aak h1))⟩
def Lh(s1 t1:DE):DE:=λρ M q x=>s1 ρ M (λc1 M1=>t1 ρ M1 (λd1 M2=>∃y1,Ds c1=some y1/\q (.loc M2.length) (M2++[.fU [y1] [d1]])) x) x
def IJ(IL:JE X R k1 s1)(hv1:JE X R v1 t1):JE X R (.Dict [some k1] [v1] pos) (Lh s1 t1):=
 .of (MW (JH IL hv1 NC) rfl rfl (by simp) (by show 1<=15;decide)) λσ H G L ρ M q x rl n h hx=>by intro p hp;have⟨e0,a0⟩:=Th rl hp;refine⟨G,L,ρ,M,_,x,a0.rl,n,h,hx.on e0,λu1 H1 xz=>?_⟩;have⟨d1,G1,L1,M1,e1,r1,n1,h1⟩:=xz;have a1:=a0.on e1 r1;refine⟨G1,L1,ρ,M1,_,x,r1,n.mono (e0.trans e1),h1,hx.on (e0.trans e1),λu2 H2 xz=>?_⟩;have⟨d2,G2,L2,M2,e2,r2,n2,y1,hy,h2⟩:=xz;have a2:=a1.on e2 r2;obtain rfl:u1=kV y1:=lX hy n1;refine⟨a2.at_,[(y1,u2)],rfl,by show 1<=15;decide,?_⟩;rw[we _ [] (λ_ _=>rfl) (by simp),List.nil_append];exact a2.fin (ks:=[y1]) (ds:=[d2]) (vs:=[u2]) e0 hp rfl ⟨_,_,rfl,n2,rfl⟩ h2
end
def I_:List Dt->Ms->DQ->Prop
 | [d],M,q=>∃k ks ds,d= .loc k/\M[k]? =some (.fU ks ds)/\q (.int ks.length) M
 | _,_,_=>False
def U_{K:fI}:GQ K (λxs H Q=>∃a Ρ,xs=[V.ref a]/\H a=some (.dK Ρ)/\Q (.int Ρ.length) H) I_:=by
 intro G0 L0 H0 G L M H vs ds q e r n h;unfold I_ at h;split at h
 ·have⟨k,ks,ds,rfl,hm,h⟩:=h;have⟨v,rfl,n1⟩:=bH n;have⟨a,rfl,hk⟩:=n1;have⟨_,vs,hH,hl,dn⟩:=r.hI k a _ hk hm;refine⟨a,_,rfl,hH,.int ks.length,G,L,M,e,r,?_,h⟩;show V.int _=V.int _;rw[abF,<-dn.length,<-hl,Nat.min_self]
 ·exact h.elim
section
variable{p:Pos}
def IT(hm:X.mg "len"=none)(ha:JA X R [e] t)(hg:Gl X "len":=by rfl)(he:starEach [e] X.env=(false,eval e X.env)::starEach [] X.env:=by rfl)(hU:(backTo pos (starEach [] X.env)).any (·.1)=false:=by rfl):JE X R (.Call (.Name "len" p) [e] [] pos) (D3 I_ t):=
 jH GO U_ hm PySem.boot_len ha hg @_ @_ he hU
end
structure Gg(K:fI)(x:Str)(st:Stmt)(T:Addr)(its:Array Value)(f:Addr)(fd:FuncData):Prop where
 ex:∃(oc:Value) (od:Option Addr) (kV doc pm:Value) (an:Option Addr) (aW ct:Value) (Bu:Array (Option Value)),
  fd=PySem.W.fnOf x x (gH st) (eD st) (χ st) (.ref T) kV doc pm an aW ct/\K.lookup f=some ⟨oc,od,.func fd,Bu⟩/\PySem.W.codeIn K aW x=true
 tup:∃o n,K.lookup T=some o/\o.data= .seq its n
 kp:PySem.W.keepIn K (.ref f)=true
section
variable{K:fI}{mg:Str->Option Value}{base:Heap}
def Gg.dW{U:Addr}{N:List Str}{k:Nat}{T:DF}(F:Gg K x st U its f fd)(S:Ε N ps (χ st))(len:∀ds M q x,T ds M q x->ds.length=ps.length)
  (tJ:∀(aW:Value) (A:Around) (outer:List Env) (s:Shared) (H:Hp) (E:XK),cF k (A.deeper (envOfC x (χ st) s.heap.objs.size f aW))->
   ∃t,CC (uQ (cw P w) P w K mg base N x (χ st) f aW A outer s H E) (λ_=>E) (eD st) t/\∀ds M q x,T ds M q x->t {nx:=λ_ M'=>q .bU M',rt:=q,x:=λ_=>x} (k9 N ds) M):
  aw P w K mg base (cw P w) (k+1) f fd ps (c7 K T):=by
 have⟨oc,od,kV,doc,pm,an,aW,ct,Bu,rfl,lk,D1⟩:=F.ex;refine OC lk D1 S (λvs H Q E h=>?_) λA outer s H vs Q E hr h=>?_
 ·have⟨G,L,ds,M,q,x,rl,n,hT,_⟩:=h;rw[<-n.length];exact len _ _ _ _ hT
 ·have⟨t,j,ht⟩:=tJ aW A outer s H E hr;have⟨G,L,ds,M,q,x,rl,n,hT,hQ,hE⟩:=h;refine⟨_,j,G,L,k9 N ds,M,_,rl,AE n,ht ds M q x hT,λσ ρ C fs M' G' L' H' od hx e r _ y=>hE C fs M' G' L' H' od hx e r y,⟨λσ' H' ⟨ρ',G',L',M',e,r,_,h⟩=>hQ _ _ ⟨.bU,G',L',M',e,r,rfl,h⟩,λv H' f=>hQ v H' f,λ_ _ ⟨_,_,_,_,_,_,_,h⟩=>h.elim,λ_ _ ⟨_,_,_,_,_,_,_,h⟩=>h.elim⟩⟩
def Gg.binds{U:Addr}{ds:List Value}(F:Gg K x st U its f fd)
  (h:∀(kV doc pm:Value) (an:Option Addr) (aW ct:Value) (us:List Value),(us++ds).length=ps.length->∃k,bindArgs (PySem.W.fnOf x x (gH st) (eD st) (χ st) (.ref U) kV doc pm an aW ct) ⟨us,[]⟩=(seqItems? (.ref U) >>= k)/\k (some its)=pure (ps.zip (us++ds))):iE K fd ps ds:=by
 have⟨oc,od,kV,doc,pm,an,aW,ct,Bu,rfl,lk,D1⟩:=F.ex;have⟨o,n,l,e⟩:=F.tup;intro s us hK hl;have⟨k,h1,h2⟩:=h kV doc pm an aW ct us hl;exact BindsTo.of_defaults rfl (hK _ _ l) e h1 h2
structure RS(P:Program)(w:World)(K:fI)(mg:Str->Option Value)(base:Heap)(k:Nat)(x:Str)(ps:List Str)(T:DF)(RQ:List Dt)(f:Addr)(fd:FuncData):Prop where
 ok:aw P w K mg base (cw P w) k f fd ps (c7 K T)
 b:∃(oP:List V) (ds:List Value),iE K fd ps ds/\aH oP ds/\∀G L,Ω K G L RQ oP
 m:mg x=some (.ref f)
 kp:PySem.W.keepIn K (.ref f)=true
end
def A'{K:fI}{G:Hp}{L:List Addr}:∀{ds es:List Dt} {vs us:List V},Ω K G L ds vs->Ω K G L es us->Ω K G L (ds++es) (vs++us)
 | [],_,vs,us,h,k=>by obtain rfl:vs=[]:=h;exact k
 | _::_,_,_,_,⟨v,r,e,a,b⟩,h=>by subst e;exact⟨v,_,rfl,a,A' b h⟩
def QL(T:DF)(RQ:List Dt)(t:DA):DE:=λρ M q x=>t ρ M (λds M1=>T (ds++RQ) M1 q (λC fs M'=>x ρ C fs M')) x
section
variable{T:DF}{k:Nat}{RQ:List Dt}{p:Pos}{es:List Expr}
def Vm(C:RS X.prog X.w X.K X.mg X.base k x ps T RQ f fd)(hr:cF k' X.A)(hx:dM (cw X.prog X.w) X R)(ha:JA X R (e::es) t)(hk:k<=k':=by decide)(hg:Gl X x:=by rfl)(u9:(x==("__debug__":Str))=false:=by decide)
  (he:starEach (e::es) X.env=(false,eval e X.env)::starEach es X.env:=by rfl) (hU:(backTo pos (starEach es X.env)).any (·.1)=false:=by rfl):JE X R (.Call (.Name x p) (e::es) [] pos) (QL T RQ t):=by
 have⟨oP,ds,hb,hv,hd⟩:=C.b;refine .of (AH C.ok (hr.mono hk) hg C.m C.kp hb hv hx ha u9 he hU) λσ H G L ρ M q x rl n h hx=>?_;refine⟨G,L,ρ,M,_,x,rl,n,h,hx,λvs H1 xz=>?_⟩;have⟨ds,G1,L1,M1,e1,r1,n1,h1⟩:=xz;exact⟨G1,L1,ds++RQ,M1,q,_,r1,A' n1 (hd G1 L1),h1,λv H' f=>Fin.back e1 f,λC fs M' G' L' H' od hq e' r' y=>hx σ ρ C fs M' G' L' H' od hq (e1.trans e') r' (n.mono (e1.trans e')) y⟩
end
section
variable{elt iter:Expr}{z:Str}{px pz tp:Pos}{ti:DK}{kk:Nat}
def zD{i:Nat}{y:Str}{py oN:Pos}(hN:X.N.Nodup)(NZ:X.N[i]? =some y)(hy:Loc X.env.scope y)(S:aG X scope [x,z] ys af)(hi:JK X R (.Tuple [.Name x px,.Name z pz] kk tp) iter ti)(he:∀C s H fp,JE (Cx.comp X (x::z::ys) scope C s H fp) (λ_=>E0) elt te)(hc:X.calm=true:=by rfl)(Mr:swapsWith (.ListComp elt [⟨.Tuple [.Name x px,.Name z pz] kk tp,iter,[],0⟩] scope pos) (some (.Name y py)) oN.line X.env=pure true:=by rfl)(hs:∀x,foldedSetIterable iter X.env x=pure x:=by intro _;rfl)(hf:X.fn y=true\/X.env.scope.names.lookup y=some .local:=by first| exact .inl rfl| exact .inr rfl| assumption):JS X R (.Assign [.Name y py] (.ListComp elt [⟨.Tuple [.Name x px,.Name z pz] kk tp,iter,[],0⟩] scope pos) oN) (Hq i (tG 2 ti (g2 0 1) te af)):=XU false S hi (yd hc S) lG (pq (Nat.zero_lt_succ 1) (Nat.lt_succ_self 1)) (λ_ _ _ _=>lP) he hc hs hN NZ hy Mr hf λρ M q x h=>by unfold tG at h;simp only[yn]at h;exact h
end
end L2
namespace Fr0
variable{b t:Int}
def g(a b:Int):Int:=(Int.gcd a b:Nat)
def zf{a:Int}(h:b≠0):0 < g a b:=by have:=Int.gcd_pos_of_ne_zero_right a h;unfold g;omega
def Lk{a:Int}(h:0<=a):g a 0=a:=by unfold g;rw[Int.gcd_zero_right];omega
def K4{a:Int}(hb:0 < b):g b (a.fmod b)=g a b:=by
 unfold g;rw[abV a (aag hb),Int.gcd_comm a b]
 congr 1
 refine Int.gcd_right_eq_iff.mpr λc hc=>?_;rw[Int.emod_def];constructor
 ·intro h;have:=Int.dvd_add h (Int.dvd_mul_of_dvd_left (c:=a / b) hc);rwa[Int.sub_add_cancel]at this
 ·intro h;exact Int.dvd_sub h (Int.dvd_mul_of_dvd_left (c:=a / b) hc)
def OO(a b:Int):g (if a < 0 then -a else a) (if b < 0 then -b else b)=g a b:=by unfold g;split <;> split <;> simp
def dv(t b:Int):Int:=if b < 0 then -(g t b) else g t b
def aD(t b:Int):Int×Int:=(t.fdiv (dv t b),b.fdiv (dv t b))
def EJ(h:b≠0):dv t b≠0:=by have:=zf (a:=t) h;unfold dv;split <;> omega
def zv{k p:Int}(h:k≠0):(k * p).fdiv k=p:=by rw[aa0];exact Int.mul_fdiv_cancel p h
def J7(h:b≠0):∃p q:Int,t=dv t b * p/\b=dv t b * q/\0 < q/\Int.gcd p q=1:=by
 have hg:=zf (a:=t) h;have h0:0 < Int.gcd t b:=Int.gcd_pos_of_ne_zero_right t h;have⟨p,hp⟩:=Int.gcd_dvd_left t b;have⟨q,hq⟩:=Int.gcd_dvd_right t b;have hc:Int.gcd p q=1:=by
  have e:=Int.gcd_ediv_gcd_ediv_gcd h0;have n0:(Int.gcd t b:Int)≠0:=()
  have e1:t / (Int.gcd t b:Int)=p:=by
   conv=>lhs;arg 1;rw[hp]
   exact abC p n0
  have e2:b / (Int.gcd t b:Int)=q:=by
   conv=>lhs;arg 1;rw[hq]
   exact abC q n0
  rwa[e1,e2]at e
 have D8:t=g t b * p:=hp;have nZ:b=g t b * q:=hq;by_cases hb:b < 0
 ·have hd:dv t b= -(g t b):=by unfold dv;rw[if_pos hb]
  refine⟨-p,-q,?_,?_,?_,?_⟩
  ·rw[hd,Int.neg_mul_neg];exact D8
  ·rw[hd,Int.neg_mul_neg];exact nZ
  ·have:g t b * q < 0:=by rw[<-nZ];exact hb
   by_cases q0:0<=q
   ·exact aaP (aba (aag hg) q0) ()
   ·omega
  ·simpa using hc
 ·have hd:dv t b=g t b:=by unfold dv;rw[if_neg hb]
  refine⟨p,q,by rw[hd];exact D8,by rw[hd];exact nZ,?_,hc⟩;have:0 < g t b * q:=by rw[<-nZ];omega
  exact Int.pos_of_mul_pos_right this hg
def gQ  (h : b ≠ 0) : ∃p q : Int,aD t b = (p,q) /\ 0 < q /\ Int.gcd p q = 1 /\ t = dv t b * p /\ b = dv t b * q :=by
  obtain⟨p,q,hp,hq,h0,hc⟩ :=J7 (t :=t) h;have n0 :=EJ (t :=t) h;refine⟨p,q,?_,h0,hc,hp,hq⟩;unfold aD
  have e1 : t.fdiv (dv t b) = p := by conv => lhs; arg 1; rw [hp]
                                      exact zv n0
  have e2 : b.fdiv (dv t b) = q := by conv => lhs; arg 1; rw [hq]
                                      exact zv n0
  rw[e1,e2]
def cQ(h:b≠0):t * (aD t b).2=b * (aD t b).1:=by
 have⟨p,q,e,_,_,hp,hq⟩:=gQ (t:=t) h;rw[e];show t * q=b * p
 calc t * q=dv t b * p * q:=by rw[<-hp]
  _=dv t b * q * p:=by rw[ack,aa0 p q,<-ack]
  _=b * p:=by rw[<-hq]
def bJ(h:b≠0):0 < (aD t b).2:=by have⟨p,q,e,h0,_⟩:=gQ (t:=t) h;rw[e];exact h0
def ze(h:b≠0):Int.gcd (aD t b).1 (aD t b).2=1:=by have⟨p,q,e,_,hc,_⟩:=gQ (t:=t) h;rw[e];exact hc
def qB{k m n:Int}(h:k∣m * n)(hc:Int.gcd k m=1):k∣n:=by have:=(Int.dvd_gcd_mul_iff_dvd_mul (k:=k) (n:=m) (m:=n)).mpr h;rw[hc]at this;simpa using this
def CF{p q p' q':Int}(hq:0 < q)(nZ:0 < q')(h:Int.gcd p q=1)(h':Int.gcd p' q'=1)(e:p * q'=p' * q):p=p'/\q=q':=by
 have d1:q∣q':=by have:q∣p * q':=⟨p',by rw[e,aa0]⟩;exact qB this (by rw[Int.gcd_comm];exact h)
 have d2:q'∣q:=by have:q'∣p' * q:=⟨p,by rw[<-e,aa0]⟩;exact qB this (by rw[Int.gcd_comm];exact h')
 have eq:q=q':=Int.le_antisymm (abY nZ d1) (abY hq d2);subst eq;exact⟨Int.eq_of_mul_eq_mul_right () e,rfl⟩
def yH{p q:Int}(h:b≠0)(hq:0 < q)(hc:Int.gcd p q=1)(e:t * q=b * p):aD t b=(p,q):=by
 have h1:=cQ (t:=t) h;have h2:=bJ (t:=t) h;have h3:=ze (t:=t) h;have h4:(aD t b).1 * q=p * (aD t b).2:=by
  have:b * ((aD t b).1 * q)=b * (p * (aD t b).2):=by rw[<-ack,<-h1,Int.mul_right_comm,e,ack]
  exact aaX h this
 have:=CF h2 hq h3 hc h4;exact Prod.ext this.1 this.2
def H_{p q:Int}(hq:0 < q)(hc:Int.gcd p q=1):aD p q=(p,q):=yH () hq hc (aa0 _ _)
def yh(h:b≠0):(dv t b).natAbs<=b.natAbs:=by
 have e:(dv t b).natAbs=Int.gcd t b:=by unfold dv g;split <;> omega
 rw[e];exact Int.gcd_le_natAbs_right t h
def uq  (h : b ≠ 0) : (aD t b).1.natAbs <= t.natAbs :=by
  obtain⟨p,q,e,_,_,hp,_⟩ :=gQ (t :=t) h;have n0 :=EJ (t :=t) h;rw[e];show p.natAbs <= t.natAbs
  have : t.natAbs = (dv t b).natAbs * p.natAbs := by conv => lhs; rw [hp]
                                                     exact abi _ _
  rw[this];exact Nat.le_mul_of_pos_left _ ()
def i7  (h : b ≠ 0) : (aD t b).2.natAbs <= b.natAbs :=by
  obtain⟨p,q,e,_,_,_,hq⟩ :=gQ (t :=t) h;have n0 :=EJ (t :=t) h;rw[e];show q.natAbs <= b.natAbs
  have : b.natAbs = (dv t b).natAbs * q.natAbs := by conv => lhs; rw [hq]
                                                     exact abi _ _
  rw[this];exact Nat.le_mul_of_pos_left _ ()
def MT(h:0 < b):aD t b=(t.fdiv (g t b),b.fdiv (g t b)):=by unfold aD dv;rw[aaC ()]
end Fr0
namespace Tx
open PySem PySem.NumText
end Tx
namespace Bz
variable{f:Nat->Int}{n i a m:Nat}{ξ ρ:List Nat}{d B:Int}
abbrev Row:=Nat->Int
variable{γ:List Row}{A W:Nat->Row}{w:Row}
abbrev Fn:=List Nat->Int
def Lx(x:Row):Fn->Fn
 | _,[]=>0
 | F,c::cs=>x c * F cs - Lx x (λt=>F (c::t)) cs
def Dm(x:Row):∀(cs:List Nat) (F G:Fn),Lx x (λt=>F t+G t) cs=Lx x F cs+Lx x G cs
 | [],F,G=>by simp[Lx]
 | c::cs,F,G=>by have:=Dm x cs (λt=>F (c::t)) (λt=>G (c::t));simp only[Lx];rw[this];grind
def nK(x:Row)(k:Int):∀(cs:List Nat) (F:Fn),Lx x (λt=>k * F t) cs=k * Lx x F cs
 | [],F=>by simp[Lx]
 | c::cs,F=>by have:=nK x k cs (λt=>F (c::t));simp only[Lx];rw[this];grind
def LK(x:Row)(cs:List Nat)(F G:Fn):Lx x (λt=>F t - G t) cs=Lx x F cs - Lx x G cs:=by
 have h1:=Dm x cs F (λt=>(-1) * G t);have h2:=nK x (-1) cs G;have e:(λt=>F t - G t)=λt=>F t+(-1) * G t:=by funext t;grind
 rw[e,h1,h2];grind
def Et(x:Row):∀(cs:List Nat),Lx x (λ_=>0) cs=0
 | []=>rfl
 | c::cs=>by simp only[Lx];rw[Et x cs];simp
def xG(x y:Row):∀(cs:List Nat) (F:Fn),Lx x (Lx y F) cs= - Lx y (Lx x F) cs
 | [],F=>rfl
 | c::cs,F=>by have ih:=xG x y cs (λt=>F (c::t));have e1:(λt=>Lx y F (c::t))=λt=>y c * F t - Lx y (λu=>F (c::u)) t:=rfl;have e2:(λt=>Lx x F (c::t))=λt=>x c * F t - Lx x (λu=>F (c::u)) t:=rfl;show x c * Lx y F cs - Lx x (λt=>Lx y F (c::t)) cs= -(y c * Lx x F cs - Lx y (λt=>Lx x F (c::t)) cs);rw[e1,e2,LK,LK,nK,nK,ih];grind
def Mz(x:Row)(cs:List Nat)(F:Fn):Lx x (Lx x F) cs=0:=by have:=xG x x cs F;omega
def yX(x:Row)(d:Nat):∀(cs:List Nat) (F:Fn),Lx x F (cs++[d])=Lx x (λt=>F (t++[d])) cs+(-1) ^ cs.length * (x d * F cs)
 | [],F=>by simp[Lx]
 | c::cs,F=>by have:=yX x d cs (λt=>F (c::t));show x c * F (cs++[d]) - Lx x (λt=>F (c::t)) (cs++[d])=_;rw[this];show _=(x c * F (cs++[d]) - Lx x (λt=>F (c::(t++[d]))) cs)+(-1) ^ (cs.length+1) * (x d * F (c::cs));have e:(λt=>F (c::(t++[d])))=λt=>(λu=>F (c::u)) (t++[d]):=rfl;rw[e,abD];grind
def Ac(x:Row){F G:Fn}{n:Nat}:∀(cs:List Nat),(∀t,t.length+1=cs.length->F t=G t)->Lx x F cs=Lx x G cs:=by
 intro cs
 induction cs generalizing F G with
 | nil=>intro _;rfl
 | cons c cs ih=>
  intro h;simp only[Lx];rw[h cs (by simp),ih (F:=λt=>F (c::t)) (G:=λt=>G (c::t)) λt ht=>h (c::t) (by simp;omega)]
def Δ(f:Nat->Int):Nat->Int
 | 0=>0
 | n+1=>Δ f n+f n
def h_(f g:Nat->Int):∀n,Δ (λi=>f i+g i) n=Δ f n+Δ g n
 | 0=>rfl
 | n+1=>by simp only[Δ];rw[h_ f g n];omega
def Χ(k:Int)(f:Nat->Int):∀n,Δ (λi=>k * f i) n=k * Δ f n
 | 0=>by simp[Δ]
 | n+1=>by simp only[Δ];rw[Χ k f n,Int.mul_add]
def Α{f g:Nat->Int}:∀{n:Nat},(∀i,i < n->f i=g i)->Δ f n=Δ g n
 | 0,_=>rfl
 | n+1,h=>by simp only[Δ];rw[Α λi hi=>h i (),h n ()]
def jf(h:∀i,i < n->f i=0):Δ f n=0:=by
 rw[Α h];clear h
 induction n with
 | zero=>rfl
 | succ n ih=>simp only[Δ];rw[ih];rfl
def i9{j:Nat}(hj:j < n)(h:∀i,i < n->i≠j->f i=0):Δ f n=f j:=by
 induction n with
 | zero=>omega
 | succ n ih=>
  simp only[Δ];by_cases e:j=n
  ·subst e;rw[jf λi hi=>h i () ()];omega
  ·rw[ih () λi hi my=>h i () my,h n () ()];omega
def ny(f:Nat->Int):∀n,Δ f (n+1)=f 0+Δ (λi=>f (i+1)) n
 | 0=>by simp[Δ]
 | n+1=>by have:=ny f n;rw[show Δ f (n+1+1)=Δ f (n+1)+f (n+1) from rfl,this];simp only[Δ];omega
def dI(f:Nat->Nat->Int)(m:Nat):∀n,Δ (λi=>Δ (f i) m) n=Δ (λj=>Δ (λi=>f i j) n) m
 | 0=>by rw[show Δ (λi=>Δ (f i) m) 0=0 from rfl];exact(jf λ_ _=>rfl).symm
 | n+1=>by rw[show Δ (λi=>Δ (f i) m) (n+1)=Δ (λi=>Δ (f i) m) n+Δ (f n) m from rfl,dI f m n,<-h_];rfl
def xP(x:Row):∀(cs:List Nat) (F:Fn),Lx x F cs=Δ (λp=>(-1) ^ p * (x (cs.getD p 0) * F (cs.eraseIdx p))) cs.length
 | [],F=>rfl
 | c::cs,F=>by
  have ih:=xP x cs (λt=>F (c::t));show x c * F cs - Lx x (λt=>F (c::t)) cs=_;rw[aau,ny,ih];have e:Δ (λp=>(-1) ^ (p+1) * (x ((c::cs).getD (p+1) 0) * F ((c::cs).eraseIdx (p+1)))) cs.length= -1 * Δ (λp=>(-1) ^ p * (x (cs.getD p 0) * F (c::cs.eraseIdx p))) cs.length:=by rw[<-Χ];refine Α λp _=>?_;simp only[List.getD_cons_succ,List.eraseIdx_cons_succ];rw[Int.pow_succ];grind
  rw[e];simp only[List.getD_cons_zero,List.eraseIdx_cons_zero,Int.pow_zero];omega
def F0:Fn:=λcs=>if cs=[] then 1 else 0
def D:List Row->Fn
 | []=>F0
 | x::xs=>Lx x (D xs)
def oi(y:Row):∀(xs ys:List Row) (cs:List Nat),D (xs++y::ys) cs=(-1) ^ xs.length * D (y::(xs++ys)) cs
 | [],ys,cs=>by simp
 | x::xs,ys,cs=>by
  show Lx x (D (xs++y::ys)) cs=_;have e:D (xs++y::ys)=λt=>(-1) ^ xs.length * D (y::(xs++ys)) t:=by funext t;exact oi y xs ys t
  rw[e,nK];show(-1) ^ xs.length * Lx x (Lx y (D (xs++ys))) cs=(-1) ^ (xs.length+1) * Lx y (Lx x (D (xs++ys))) cs;rw[xG x y,Int.pow_succ];grind
def T3(y:Row)(xs ys zs:List Row)(cs:List Nat):D (xs++y::(ys++y::zs)) cs=0:=by
 rw[oi];have e:D (y::(xs++(ys++y::zs))) cs=Lx y (λt=>D (xs++(ys++y::zs)) t) cs:=rfl;have e2:(λt=>D (xs++(ys++y::zs)) t)=λt=>(-1) ^ (xs++ys).length * Lx y (D (xs++ys++zs)) t:=by
  funext t
  rw[<-aaY,oi];rfl
 rw[e,e2,nK,Mz];simp
def fm(γ:List Row)(ξ:List Nat)(p k:Nat):Int:=(-1) ^ (p+k) * D (γ.eraseIdx k) (ξ.eraseIdx p)
def zr:Row:=λ_=>0
def Ro(n:Nat):((-1:Int) ^ n) * (-1) ^ n=1:=by
 induction n with
 | zero=>rfl
 | succ n ih=>rw[Int.pow_succ];grind
def Kz{α:Type}:∀{l:List α} {k:Nat} (h:k < l.length),l=l.take k++l[k]::l.drop (k+1):=by intro l k h;rw[List.getElem_cons_drop,List.take_append_drop]
def Ig{α:Type}{l:List α}{k:Nat}(hi:i < l.length)(my:i≠k):l[i]∈l.eraseIdx k:=by rw[List.mem_eraseIdx_iff_getElem];exact⟨i,hi,my,rfl⟩
def PA{k:Nat}(hl:ξ.length=γ.length)(hi:i < γ.length)(hk:k < γ.length):Δ (λp=>γ.getD i zr (ξ.getD p 0) * fm γ ξ p k) γ.length=if i=k then D γ ξ else 0:=by
 have gi:γ.getD i zr=γ[i]:=by rw[aab,aaa hi];rfl
 have e:Δ (λp=>γ.getD i zr (ξ.getD p 0) * fm γ ξ p k) γ.length=(-1) ^ k * D (γ.getD i zr::γ.eraseIdx k) ξ:=by show _=(-1) ^ k * Lx (γ.getD i zr) (D (γ.eraseIdx k)) ξ;rw[xP,<-Χ,hl];refine Α λp _=>?_;unfold fm;rw[Int.pow_add];grind
 rw[e,gi];by_cases h:i=k
 ·subst h;rw[aaz rfl];have s:=Kz hi;have f:=oi γ[i] (γ.take i) (γ.drop (i+1)) ξ;rw[<-s,acu,acD ()]at f;rw[f,List.eraseIdx_eq_take_drop_succ]
 ·rw[aaC h];have⟨ys,zs,e2⟩:=List.append_of_mem (Ig hi h);rw[e2];have:=T3 γ[i] [] ys zs ξ;rw[show D (γ[i]::(ys++γ[i]::zs)) ξ=0 from this];simp
def yP(x:Row)(g:Nat->Int)(F:Nat->Fn)(cs:List Nat):∀n,Lx x (λt=>Δ (λk=>g k * F k t) n) cs=Δ (λk=>g k * Lx x (F k) cs) n
 | 0=>Et x cs
 | n+1=>by have:=Dm x cs (λt=>Δ (λk=>g k * F k t) n) (λt=>g n * F n t);show Lx x (λt=>Δ (λk=>g k * F k t) n+g n * F n t) cs=_;rw[this,yP x g F cs n,nK];rfl
def OW(c:Nat):∀(γ:List Row) (t:List Nat),D γ (t++[c])=Δ (λk=>(-1) ^ (t.length+k) * (γ.getD k zr c * D (γ.eraseIdx k) t)) γ.length
 | [],t=>by show F0 (t++[c])=0;unfold F0;simp
 | x::xs,t=>by
  show Lx x (D xs) (t++[c])=_;rw[yX,aau,ny];have e:Lx x (λu=>D xs (u++[c])) t=Δ (λk=>(-1) ^ (t.length+(k+1)) * ((x::xs).getD (k+1) zr c * D ((x::xs).eraseIdx (k+1)) t)) xs.length:=by
   have e1:Lx x (λu=>D xs (u++[c])) t=Lx x (λu=>Δ (λk=>((-1) ^ (t.length+(k+1)) * xs.getD k zr c) * D (xs.eraseIdx k) u) xs.length) t:=by refine Ac x (n:=0) t λu hu=>?_;rw[OW c xs u];refine Α λk _=>?_;rw[<-hu,show u.length+1+(k+1)=u.length+k+1+1 by omega,Int.pow_succ,Int.pow_succ];grind
   rw[e1,yP x (λk=>(-1) ^ (t.length+(k+1)) * xs.getD k zr c) (λk=>D (xs.eraseIdx k))];refine Α λk _=>?_;simp only[List.getD_cons_succ,List.eraseIdx_cons_succ];show _=(-1) ^ (t.length+(k+1)) * (xs.getD k zr c * Lx x (D (xs.eraseIdx k)) t);grind
  rw[e];simp only[List.getD_cons_zero,List.eraseIdx_cons_zero,Nat.add_zero];omega
def J2{y:Row}{c:Nat}(hl:ξ.length=γ.length):D (γ++[y]) (ξ++[c])=y c * D γ ξ - Δ (λp=>y (ξ.getD p 0) * Δ (λk=>fm γ ξ p k * γ.getD k zr c) γ.length) γ.length:=by
 rw[oi,aa6];show(-1) ^ γ.length * Lx y (D γ) (ξ++[c])=_;rw[yX];have e1:Lx y (λt=>D γ (t++[c])) ξ= - ((-1) ^ γ.length * Δ (λp=>y (ξ.getD p 0) * Δ (λk=>fm γ ξ p k * γ.getD k zr c) γ.length) γ.length):=by
  have e2:Lx y (λt=>D γ (t++[c])) ξ=Lx y (λt=>Δ (λk=>(-((-1) ^ (γ.length+k) * γ.getD k zr c)) * D (γ.eraseIdx k) t) γ.length) ξ:=by refine Ac y (n:=0) ξ λt ht=>?_;rw[OW c γ t];refine Α λk _=>?_;rw[<-hl,<-ht,show t.length+1+k=t.length+k+1 by omega,Int.pow_succ];grind
  rw[e2,yP y (λk=> -((-1) ^ (γ.length+k) * γ.getD k zr c)) (λk=>D (γ.eraseIdx k))];have e3:Δ (λk=> -((-1) ^ (γ.length+k) * γ.getD k zr c) * Lx y (D (γ.eraseIdx k)) ξ) γ.length=Δ (λk=>Δ (λp=> -((-1) ^ γ.length) * (y (ξ.getD p 0) * (fm γ ξ p k * γ.getD k zr c))) γ.length) γ.length:=by refine Α λk _=>?_;rw[xP,<-Χ,hl];refine Α λp _=>?_;unfold fm;rw[Int.pow_add,Int.pow_add];grind
  rw[e3,dI];have e4:Δ (λp=>Δ (λk=> -((-1) ^ γ.length) * (y (ξ.getD p 0) * (fm γ ξ p k * γ.getD k zr c))) γ.length) γ.length=Δ (λp=> -((-1) ^ γ.length) * (y (ξ.getD p 0) * Δ (λk=>fm γ ξ p k * γ.getD k zr c) γ.length)) γ.length:=by refine Α λp _=>?_;rw[Χ,Χ]
  rw[e4,Χ];grind
 rw[e1,hl];have s:=Ro γ.length;generalize ((-1:Int) ^ γ.length)=z at *
 generalize Δ _ γ.length=q;grind
def JC{v:Nat->Int}{e:Int}{k:Nat}(hl:ξ.length=γ.length)(hi:i < γ.length)(hk:k < γ.length)
  (h:∀p,p < γ.length->Δ (λj=>v j * γ.getD j zr (ξ.getD p 0)) γ.length=if i=p then e else 0):v k * D γ ξ=e * fm γ ξ i k:=by
 have a:Δ (λp=>Δ (λj=>v j * γ.getD j zr (ξ.getD p 0)) γ.length * fm γ ξ p k) γ.length=e * fm γ ξ i k:=by rw[i9 hi λp hp my=>by rw[h p hp,if_neg (Ne.symm my)];simp];rw[h i hi,aaz rfl]
 have b:Δ (λp=>Δ (λj=>v j * γ.getD j zr (ξ.getD p 0)) γ.length * fm γ ξ p k) γ.length=Δ (λj=>v j * Δ (λp=>γ.getD j zr (ξ.getD p 0) * fm γ ξ p k) γ.length) γ.length:=by
  have e1:Δ (λp=>Δ (λj=>v j * γ.getD j zr (ξ.getD p 0)) γ.length * fm γ ξ p k) γ.length=Δ (λp=>Δ (λj=>v j * (γ.getD j zr (ξ.getD p 0) * fm γ ξ p k)) γ.length) γ.length:=by refine Α λp _=>?_;rw[aa0,<-Χ];refine Α λj _=>?_;grind
  rw[e1,dI];refine Α λj _=>?_;rw[<-Χ]
 rw[<-a,b,i9 hk λj hj my=>by rw[PA hl hj hk,if_neg my];simp];rw[PA hl hk hk,aaz rfl]
def ind(a k:Nat):Int:=if a=k then 1 else 0
def rv(A:Nat->Row)(n:Nat)(w:Row)(x:Nat):Int:=Δ (λk=>w k * A k x) n
def nR(h:a < n):Δ (λk=>ind a k * f k) n=f a:=by rw[i9 h λi _ my=>by unfold ind;rw[if_neg (Ne.symm my)];simp];unfold ind;rw[if_pos rfl];simp
def xb{u v:Row}{a b:Int}(h:∀k,w k=a * u k - b * v k)(x:Nat):rv A n w x=a * rv A n u x - b * rv A n v x:=by
 unfold rv;have e:Δ (λk=>w k * A k x) n=Δ (λk=>a * (u k * A k x)+(-b) * (v k * A k x)) n:=Α λk _=>by rw[h k];grind
 rw[e,h_,Χ,Χ];grind
def Kl{r:Nat}{g:Nat->Int}{u:Nat->Row}(h:∀k,w k=Δ (λj=>g j * u j k) r)(x:Nat):rv A n w x=Δ (λj=>g j * rv A n (u j) x) r:=by
 unfold rv;have e:Δ (λk=>w k * A k x) n=Δ (λk=>Δ (λj=>g j * (u j k * A k x)) r) n:=Α λk _=>by rw[h k,aa0,<-Χ];exact Α λj _=>by grind
 rw[e,dI];exact Α λj _=>Χ _ _ _
def Dk(h:a < n)(x:Nat):rv A n (ind a) x=A a x:=by unfold rv;exact nR (f:=λk=>A k x) h
structure St(A:Nat->Row)(n:Nat)(ρ ξ:List Nat)(q:Nat->Nat)(d:Int)(W:Nat->Row):Prop where
 lc:ξ.length=ρ.length
 rn:ρ.length<=n
 NI:∀i,i < n->q i < n
 zx:∀j,j < ρ.length->ρ.getD j 0 < n
 det:D (ρ.map A) ξ=d
 wp:∀i,i < ρ.length->∀k,W i k=Δ (λj=>fm (ρ.map A) ξ i j * ind (ρ.getD j 0) k) ρ.length
 wn:∀i,ρ.length<=i->i < n->∀k,W i k=d * ind (q i) k - Δ (λp=>A (q i) (ξ.getD p 0) * W p k) ρ.length
 one:∀i p,i < ρ.length->p < ρ.length->rv A n (W i) (ξ.getD p 0)=if i=p then d else 0
section
variable{q:Nat->Nat}
def uC{j:Nat}(h:j < ρ.length):(ρ.map A).getD j zr=A (ρ.getD j 0):=by rw[aab,aar,aaa h,aab,aaa h];rfl
def St.Sk(s:St A n ρ ξ q d W)(hi:i < ρ.length)(x:Nat):rv A n (W i) x=Δ (λj=>fm (ρ.map A) ξ i j * A (ρ.getD j 0) x) ρ.length:=by rw[Kl (u:=λj=>ind (ρ.getD j 0)) (s.wp i hi)];exact Α λj hj=>by rw[Dk (s.zx j hj)]
def St.QM(s:St A n ρ ξ q d W)(h1:ρ.length<=i)(hi:i < n)(x:Nat):rv A n (W i) x=d * A (q i) x - Δ (λp=>A (q i) (ξ.getD p 0) * rv A n (W p) x) ρ.length:=by
 have h:∀k,W i k=d * ind (q i) k - 1 * Δ (λp=>A (q i) (ξ.getD p 0) * W p k) ρ.length:=λk=>by rw[s.wn i h1 hi k];omega
 rw[xb h x,Dk (s.NI i hi),Kl (w:=λk=>Δ (λp=>A (q i) (ξ.getD p 0) * W p k) ρ.length) (u:=W) (λk=>rfl)];omega
def St.zero(s:St A n ρ ξ q d W){p:Nat}(h1:ρ.length<=i)(hi:i < n)(hp:p < ρ.length):rv A n (W i) (ξ.getD p 0)=0:=by
 rw[s.QM h1 hi];have e:Δ (λp'=>A (q i) (ξ.getD p' 0) * rv A n (W p') (ξ.getD p 0)) ρ.length=A (q i) (ξ.getD p 0) * d:=by rw[i9 hp λp' D8 my=>by rw[s.one p' p D8 hp,if_neg my];simp];rw[s.one p p hp hp,aaz rfl]
 rw[e];grind
def St.head(s:St A n ρ ξ q d W)(hr:ρ.length < n)(c:Nat):D ((ρ++[q ρ.length]).map A) (ξ++[c])=rv A n (W ρ.length) c:=by
 rw[aa7,s.QM (aaj _) hr];show D (ρ.map A++[A (q ρ.length)]) (ξ++[c])=_;rw[J2 (by rw[aae];exact s.lc),s.det,aae,aa0]
 congr 1
 refine Α λp hp=>?_;rw[s.Sk hp]
 congr 1
 exact Α λk hk=>by rw[uC hk]
def oF{j:Nat}{l:List Nat}(h:j < l.length):(l++[a]).getD j 0=l.getD j 0:=by rw[aab,aas h,<-aab]
def n8{l:List Nat}:(l++[a]).getD l.length 0=a:=by simp
def mix(f:Nat->Int)(s:St A n ρ ξ q d W)(a L:Int)(g:Nat->Int):
  Δ (λj=>(if j < ρ.length then a * g j+L * Δ (λp=>A (q ρ.length) (ξ.getD p 0) * fm (ρ.map A) ξ p j) ρ.length else -(L * d)) * f ((ρ++[q ρ.length]).getD j 0)) (ρ.length+1)
  =a * Δ (λj=>g j * f (ρ.getD j 0)) ρ.length - L * (d * f (q ρ.length) - Δ (λp=>A (q ρ.length) (ξ.getD p 0) * Δ (λj=>fm (ρ.map A) ξ p j * f (ρ.getD j 0)) ρ.length) ρ.length):=by
 rw[show∀F:Nat->Int,Δ F (ρ.length+1)=Δ F ρ.length+F ρ.length fromλ_=>rfl,n8,aaC (abJ _)]
 have e:Δ (λj=>(if j < ρ.length then a * g j+L * Δ (λp=>A (q ρ.length) (ξ.getD p 0) * fm (ρ.map A) ξ p j) ρ.length else -(L * d)) * f ((ρ++[q ρ.length]).getD j 0)) ρ.length
   =Δ (λj=>a * (g j * f (ρ.getD j 0))+L * Δ (λp=>A (q ρ.length) (ξ.getD p 0) * (fm (ρ.map A) ξ p j * f (ρ.getD j 0))) ρ.length) ρ.length:=by
  refine Α λj hj=>?_;rw[aaz hj,oF hj];have e2:Δ (λp=>A (q ρ.length) (ξ.getD p 0) * (fm (ρ.map A) ξ p j * f (ρ.getD j 0))) ρ.length=f (ρ.getD j 0) * Δ (λp=>A (q ρ.length) (ξ.getD p 0) * fm (ρ.map A) ξ p j) ρ.length:=by rw[<-Χ];exact Α λp _=>by grind
  rw[e2];grind
 rw[e,h_,Χ,Χ,dI (λj p=>A (q ρ.length) (ξ.getD p 0) * (fm (ρ.map A) ξ p j * f (ρ.getD j 0)))]
 have e3:Δ (λp=>Δ (λj=>A (q ρ.length) (ξ.getD p 0) * (fm (ρ.map A) ξ p j * f (ρ.getD j 0))) ρ.length) ρ.length=Δ (λp=>A (q ρ.length) (ξ.getD p 0) * Δ (λj=>fm (ρ.map A) ξ p j * f (ρ.getD j 0)) ρ.length) ρ.length:=
  Α λp _=>Χ _ _ _
 rw[e3];grind
def St.step(s:St A n ρ ξ q d W)(hr:ρ.length < n)(c:Nat)(d0:d≠0)(h0:rv A n (W ρ.length) c≠0):
  ∃W':Nat->Row,St A n (ρ++[q ρ.length]) (ξ++[c]) q (rv A n (W ρ.length) c) W'/\(∀k,W' ρ.length k=W ρ.length k)/\
   ∀i,i < n->i≠ρ.length->∀k,d * W' i k=rv A n (W ρ.length) c * W i k - rv A n (W i) c * W ρ.length k:=by
 have hd:=s.head hr c;generalize hE:rv A n (W ρ.length) c=E at *
 have lr:((ρ++[q ρ.length]).map A).length=ρ.length+1:=by simp
 have lc':(ξ++[c]).length=((ρ++[q ρ.length]).map A).length:=by rw[lr];simp[s.lc]
 have cg:∀p,p < ρ.length->(ξ++[c]).getD p 0=ξ.getD p 0:=λp hp=>oF (by rw[s.lc];exact hp);have cl:(ξ++[c]).getD ρ.length 0=c:=by rw[<-s.lc];exact n8
 have rg:∀j,j < ρ.length+1->((ρ++[q ρ.length]).map A).getD j zr=A ((ρ++[q ρ.length]).getD j 0):=λj hj=>uC (by simp;omega);have head:∀j,j < ρ.length+1->(if j < ρ.length then (0:Int) * 0+(-1) * Δ (λp=>A (q ρ.length) (ξ.getD p 0) * fm (ρ.map A) ξ p j) ρ.length else -((-1) * d))=fm ((ρ++[q ρ.length]).map A) (ξ++[c]) ρ.length j:=λj hj=>by
  have:=JC (γ:=(ρ++[q ρ.length]).map A) (ξ:=ξ++[c]) (v:=λj=>if j < ρ.length then (0:Int) * 0+(-1) * Δ (λp=>A (q ρ.length) (ξ.getD p 0) * fm (ρ.map A) ξ p j) ρ.length else -((-1) * d)) (e:=E) (i:=ρ.length) (k:=j) lc' (by rw[lr];omega) (by rw[lr];exact hj) (λp hp=>by
   rw[lr]at hp⊢;have e1:=mix (λa=>A a ((ξ++[c]).getD p 0)) s 0 (-1) (λ_=>0);have e2:Δ (λj=>(if j < ρ.length then (0:Int) * 0+(-1) * Δ (λp=>A (q ρ.length) (ξ.getD p 0) * fm (ρ.map A) ξ p j) ρ.length else -((-1) * d)) * ((ρ++[q ρ.length]).map A).getD j zr ((ξ++[c]).getD p 0)) (ρ.length+1)=_:=(Α λj hj=>by rw[rg j hj]).trans e1;rw[e2];have e3:d * A (q ρ.length) ((ξ++[c]).getD p 0) - Δ (λp'=>A (q ρ.length) (ξ.getD p' 0) * Δ (λj=>fm (ρ.map A) ξ p' j * A (ρ.getD j 0) ((ξ++[c]).getD p 0)) ρ.length) ρ.length=rv A n (W ρ.length) ((ξ++[c]).getD p 0):=by
    rw[s.QM (aaj _) hr]
    congr 1
    exact Α λp' D8=>by rw[s.Sk D8]
   rw[e3];by_cases vk:p < ρ.length
   ·rw[cg p vk,s.zero (Nat.le_refl _) hr vk,if_neg ()];simp
   ·have:p=ρ.length:=()
    subst this
    rw[cl,hE,aaz rfl];omega)
  rw[hd]at this;refine aaX h0 ?_;rw[<-this];grind
 have hk:∀k,W ρ.length k=Δ (λj=>fm ((ρ++[q ρ.length]).map A) (ξ++[c]) ρ.length j * ind ((ρ++[q ρ.length]).getD j 0) k) (ρ.length+1):=λk=>by
  have e1:=mix (λa=>ind a k) s 0 (-1) (λ_=>0);have e2:Δ (λj=>fm ((ρ++[q ρ.length]).map A) (ξ++[c]) ρ.length j * ind ((ρ++[q ρ.length]).getD j 0) k) (ρ.length+1)=_:=(Α λj hj=>by rw[<-head j hj]).trans e1;rw[e2,s.wn _ (aaj _) hr k];have e3:Δ (λp=>A (q ρ.length) (ξ.getD p 0) * W p k) ρ.length=Δ (λp=>A (q ρ.length) (ξ.getD p 0) * Δ (λj=>fm (ρ.map A) ξ p j * ind (ρ.getD j 0) k) ρ.length) ρ.length:=Α λp hp=>by rw[s.wp p hp k]
  rw[e3];omega
 have above:∀i,i < ρ.length->∀j,j < ρ.length+1->(if j < ρ.length then E * fm (ρ.map A) ξ i j+rv A n (W i) c * Δ (λp=>A (q ρ.length) (ξ.getD p 0) * fm (ρ.map A) ξ p j) ρ.length else -(rv A n (W i) c * d))=d * fm ((ρ++[q ρ.length]).map A) (ξ++[c]) i j:=λi hi j hj=>by
  have:=JC (γ:=(ρ++[q ρ.length]).map A) (ξ:=ξ++[c]) (v:=λj=>if j < ρ.length then E * fm (ρ.map A) ξ i j+rv A n (W i) c * Δ (λp=>A (q ρ.length) (ξ.getD p 0) * fm (ρ.map A) ξ p j) ρ.length else -(rv A n (W i) c * d)) (e:=d * E) (i:=i) (k:=j) lc' (by rw[lr];omega) (by rw[lr];exact hj) (λp hp=>by
   rw[lr]at hp⊢;have e1:=mix (λa=>A a ((ξ++[c]).getD p 0)) s E (rv A n (W i) c) (λj=>fm (ρ.map A) ξ i j);have e2:Δ (λj=>(if j < ρ.length then E * fm (ρ.map A) ξ i j+rv A n (W i) c * Δ (λp=>A (q ρ.length) (ξ.getD p 0) * fm (ρ.map A) ξ p j) ρ.length else -(rv A n (W i) c * d)) * ((ρ++[q ρ.length]).map A).getD j zr ((ξ++[c]).getD p 0)) (ρ.length+1)=_:=(Α λj hj=>by rw[rg j hj]).trans e1;rw[e2];have e3:d * A (q ρ.length) ((ξ++[c]).getD p 0) - Δ (λp'=>A (q ρ.length) (ξ.getD p' 0) * Δ (λj=>fm (ρ.map A) ξ p' j * A (ρ.getD j 0) ((ξ++[c]).getD p 0)) ρ.length) ρ.length=rv A n (W ρ.length) ((ξ++[c]).getD p 0):=by
    rw[s.QM (aaj _) hr]
    congr 1
    exact Α λp' D8=>by rw[s.Sk D8]
   rw[e3,<-s.Sk hi];by_cases vk:p < ρ.length
   ·rw[cg p vk,s.zero (aaj _) hr vk,s.one i p hi vk];split <;> grind
   ·have:p=ρ.length:=()
    subst this
    rw[cl,hE,if_neg ()];grind)
  rw[hd]at this;refine aaX h0 ?_;rw[Int.mul_comm,this];grind
 have abk:∀i,i < ρ.length->∀k,d * Δ (λj=>fm ((ρ++[q ρ.length]).map A) (ξ++[c]) i j * ind ((ρ++[q ρ.length]).getD j 0) k) (ρ.length+1)=E * W i k - rv A n (W i) c * W ρ.length k:=λi hi k=>by
  have e1:=mix (λa=>ind a k) s E (rv A n (W i) c) (λj=>fm (ρ.map A) ξ i j);have e2:d * Δ (λj=>fm ((ρ++[q ρ.length]).map A) (ξ++[c]) i j * ind ((ρ++[q ρ.length]).getD j 0) k) (ρ.length+1)=_:=((Χ _ _ _).symm.trans (Α λj hj=>by rw[above i hi j hj];grind)).trans e1;rw[e2,s.wn _ (aaj _) hr k,s.wp i hi k];have e3:Δ (λp=>A (q ρ.length) (ξ.getD p 0) * W p k) ρ.length=Δ (λp=>A (q ρ.length) (ξ.getD p 0) * Δ (λj=>fm (ρ.map A) ξ p j * ind (ρ.getD j 0) k) ρ.length) ρ.length:=Α λp hp=>by rw[s.wp p hp k]
  rw[e3]
 let V:Nat->Row:=λi k=>if i=ρ.length then W ρ.length k else Δ (λj=>fm ((ρ++[q ρ.length]).map A) (ξ++[c]) i j * ind ((ρ++[q ρ.length]).getD j 0) k) (ρ.length+1)
 let W':Nat->Row:=λi k=>if i < ρ.length+1 then V i k else E * ind (q i) k - Δ (λp=>A (q i) ((ξ++[c]).getD p 0) * V p k) (ρ.length+1)
 have Wr:∀k,W' ρ.length k=W ρ.length k:=λk=>by show(if ρ.length < ρ.length+1 then (if ρ.length=ρ.length then W ρ.length k else _) else _)=_;rw[aaz (abA _),aaz rfl]
 have Wi:∀i,i < ρ.length->∀k,W' i k=Δ (λj=>fm ((ρ++[q ρ.length]).map A) (ξ++[c]) i j * ind ((ρ++[q ρ.length]).getD j 0) k) (ρ.length+1):=λi hi k=>by show(if i < ρ.length+1 then (if i=ρ.length then _ else _) else _)=_;rw[aaz (),aaC ()]
 have WV:∀p,p < ρ.length+1->∀k,W' p k=V p k:=λp hp k=>by show(if p < ρ.length+1 then V p k else _)=_;rw[aaz hp]
 have Wn:∀i,ρ.length+1<=i->∀k,W' i k=E * ind (q i) k - Δ (λp=>A (q i) ((ξ++[c]).getD p 0) * W' p k) (ρ.length+1):=λi hi k=>by
  show(if i < ρ.length+1 then V i k else _)=_;rw[aaC ()]
  congr 1
  exact Α λp hp=>by rw[WV p hp]
 have H:∀i,i < n->i≠ρ.length->∀k,d * W' i k=E * W i k - rv A n (W i) c * W ρ.length k:=λi hi my k=>by
  by_cases yp:i < ρ.length
  ·rw[Wi i yp k];exact abk i yp k
  ·rw[Wn i () k,s.wn i () hi k,s.QM () hi c];rw[show∀F:Nat->Int,Δ F (ρ.length+1)=Δ F ρ.length+F ρ.length fromλ_=>rfl,cl,Wr];have e1:d * Δ (λp=>A (q i) ((ξ++[c]).getD p 0) * W' p k) ρ.length=Δ (λp=>E * (A (q i) (ξ.getD p 0) * W p k)+(-(W ρ.length k)) * (A (q i) (ξ.getD p 0) * rv A n (W p) c)) ρ.length:=by rw[<-Χ];refine Α λp hp=>?_;have:=abk p hp k;rw[cg p hp,Wi p hp k];grind
   rw[h_,Χ,Χ]at e1;grind
 refine⟨W',⟨by simp[s.lc],by simp;omega,s.NI,λj hj=>?_,hd,λi hi k=>?_,λi h1 hi k=>?_,λi p hi hp=>?_⟩,Wr,H⟩
 ·by_cases hjr:j < ρ.length
  ·rw[oF hjr];exact s.zx j hjr
  ·have:j=ρ.length:=by simp at hj;omega
   rw[this,n8];exact s.NI _ hr
 ·rw[show(ρ++[q ρ.length]).length=ρ.length+1 by simp]at hi⊢;by_cases yp:i < ρ.length
  ·exact Wi i yp k
  ·have:i=ρ.length:=()
   subst this;rw[Wr k];exact hk k
 ·rw[show(ρ++[q ρ.length]).length=ρ.length+1 by simp]at h1⊢;exact Wn i h1 k
 ·rw[show(ρ++[q ρ.length]).length=ρ.length+1 by simp]at hi hp;have hrr:∀x,rv A n (W' ρ.length) x=rv A n (W ρ.length) x:=λx=>by unfold rv;exact Α λk _=>by rw[Wr k]
  by_cases yp:i < ρ.length
  ·have WW:d * rv A n (W' i) ((ξ++[c]).getD p 0)=E * rv A n (W i) ((ξ++[c]).getD p 0) - rv A n (W i) c * rv A n (W ρ.length) ((ξ++[c]).getD p 0):=by have:=xb (A:=A) (n:=n) (w:=λk=>d * W' i k) (u:=W i) (v:=W ρ.length) (a:=E) (b:=rv A n (W i) c) (λk=>H i () () k) ((ξ++[c]).getD p 0);rw[<-this];unfold rv;rw[<-Χ];exact Α λk _=>by grind
   refine aaX d0 ?_;rw[WW];by_cases vk:p < ρ.length
   ·rw[cg p vk,s.zero (aaj _) hr vk,s.one i p yp vk];split <;> grind
   ·have:p=ρ.length:=()
    subst this;rw[cl,hE,if_neg ()];grind
  ·have:i=ρ.length:=()
   subst this;rw[hrr];by_cases vk:p < ρ.length
   ·rw[cg p vk,s.zero (aaj _) hr vk,aaC ()]
   ·have:p=ρ.length:=()
    subst this;rw[cl,hE,aaz rfl]
end
def St.start:St A n [] [] id 1 (λi=>ind i) where
 lc:=rfl
 rn:=ab4 _
 NI:=λ_ h=>h
 zx:=λ_ h=>aaP h (abT _)
 det:=rfl
 wp:=λ_ h=>aaP h (abT _)
 wn:=λi _ _ k=>by show ind i k=1 * ind i k - 0;omega
 one:=λ_ _ h=>aaP h (abT _)
def St.perm{q:Nat->Nat}(s:St A n ρ ξ q d W){π:Nat->Nat}(h1:∀i,i < ρ.length->π i=i)(h2:∀i,ρ.length<=i->i < n->ρ.length<=π i/\π i < n):St A n ρ ξ (λi=>q (π i)) d (λi=>W (π i)) where
 lc:=s.lc
 rn:=s.rn
 NI:=λi hi=>s.NI _ (by
  by_cases h:i < ρ.length
  ·rw[h1 i h];exact hi
  ·exact(h2 i () hi).2)
 zx:=s.zx
 det:=s.det
 wp:=λi hi k=>by show W (π i) k=_;rw[h1 i hi];exact s.wp i hi k
 wn:=λi hi hn k=>by
  have⟨a,b⟩:=h2 i hi hn;have:=s.wn (π i) a b k;rw[this]
  congr 1
  exact Α λp hp=>by rw[h1 p hp]
 one:=λi p hi hp=>by show rv A n (W (π i)) _=_;rw[h1 i hi];exact s.one i p hi hp
def Ab(x B:Int):Prop:= -B<=x/\x<=B
def Ab.mul{x y C:Int}(h:Ab x B)(h':Ab y C):Ab (x * y) (B * C):=by
 have⟨a,b⟩:=h;have⟨c,d⟩:=h';have B0:0<=B:=()
 have C0:0<=C:=()
 have hb:x.natAbs<=B.natAbs:=()
 have hc:y.natAbs<=C.natAbs:=()
 have hm:=Nat.mul_le_mul hb hc;rw[<-abi,<-abi]at hm;have p:=aba B0 C0;exact⟨(),()⟩
def Ab.add{x y C:Int}(h:Ab x B)(h':Ab y C):Ab (x+y) (B+C):=⟨by have:=h.1;have:=h'.1;omega,by have:=h.2;have:=h'.2;omega⟩
def Ab.sub{x y C:Int}(h:Ab x B)(h':Ab y C):Ab (x - y) (B+C):=⟨by have:=h.1;have:=h'.2;omega,by have:=h.2;have:=h'.1;omega⟩
def Ab.mono{x C:Int}(h:Ab x B)(h':B<=C):Ab x C:=⟨by have:=h.1;omega,by have:=h.2;omega⟩
def Ab.sum{f:Nat->Int}{B:Int}:∀{n:Nat},(∀i,i < n->Ab (f i) B)->Ab (Δ f n) (n * B)
 | 0,_=>⟨by simp[Δ],by simp[Δ]⟩
 | n+1,h=>by
  have i:=Ab.sum (n:=n) λi hi=>h i ();have:=Ab.add i (h n ());have e:(n:Int) * B+B=((n+1:Nat):Int) * B:=by rw[show((n+1:Nat):Int)=(n:Int)+1 from rfl,Int.add_mul,Int.one_mul]
  rw[e]at this;exact this
def Ab.pow{k:Nat}{x:Int}(h:Ab x B):Ab ((-1) ^ k * x) B:=by
 rcases(by induction k with
  | zero=>exact .inl rfl
  | succ k ih=>rw[Int.pow_succ];rcases ih with e| e <;> rw[e] <;> simp:((-1:Int) ^ k=1\/(-1:Int) ^ k= -1)) with e| e
 ·rw[e,Int.one_mul];exact h
 ·rw[e];have⟨a,b⟩:=h;exact⟨(),()⟩
def Ab.det{B:Int}(B0:1<=B):∀(γ:List Row) (ξ:List Nat),(∀x∈γ,∀c∈ξ,Ab (x c) B)->ξ.length<=12->Ab (D γ ξ) ((12 * B) ^ γ.length)
 | [],ξ,_,_=>by
  show Ab (F0 ξ) ((12 * B) ^ 0);rw[acx];unfold F0;split
  ·exact⟨@_,@_⟩
  ·exact⟨@_,@_⟩
 | x::γ,ξ,h,hl=>by
  show Ab (Lx x (D γ) ξ) _;rw[xP,aau,abD];have P0:(0:Int)<=(12 * B) ^ γ.length:=abZ ();have each:∀p,p < ξ.length->Ab ((-1) ^ p * (x (ξ.getD p 0) * D γ (ξ.eraseIdx p))) (B * (12 * B) ^ γ.length):=λp hp=>by
   refine Ab.pow (Ab.mul ?_ (Ab.det B0 γ (ξ.eraseIdx p) (λy hy c hc=>h y (aac _ hy) c (acy hc)) ?_))
   ·rw[aab,aaa hp];exact h x aad _ (aaq hp)
   ·rw[List.length_eraseIdx];split <;> omega
  refine(Ab.sum each).mono ?_;have Q0:0<=B * (12 * B) ^ γ.length:=aba () P0;have:=aaD (show(ξ.length:Int)<=12 by omega) Q0;refine abc this ?_;have e:12 * (B * (12 * B) ^ γ.length)=(12 * B) ^ γ.length * (12 * B):=by grind
  omega
section
variable{q:Nat->Nat}
structure Bd(A:Nat->Row)(n m:Nat)(B:Int):Prop where
 b1:1<=B
 ab:∀k x,k < n->x < m->Ab (A k x) B
def top(B:Int)(r:Nat):Int:=(12 * B) ^ (r+3)
def ya{b:Nat}(h:1<=B)(Xe:a<=b):(12 * B) ^ a<=(12 * B) ^ b:=by
 have⟨c,rfl⟩:=Nat.exists_eq_add_of_le Xe;rw[Int.pow_add];have p:(1:Int)<=(12 * B) ^ c:=by have:0 < (12 * B) ^ c:=Int.pow_pos ();omega
 have q:(0:Int)<=(12 * B) ^ a:=abZ ();have:=aaA p q;omega
def St.abs(s:St A n ρ ξ q d W)(b:Bd A n m B)(hc:∀c∈ξ,c < m)(hr:ρ.length<=12):
  (∀i k,i < n->Ab (W i k) (top B ρ.length))/\(∀i x,i < n->x < m->Ab (rv A n (W i) x) (top B ρ.length))/\Ab d (top B ρ.length):=by
 have B0:=b.b1;have mem:∀j,j < ρ.length->ρ.getD j 0∈ρ:=λj hj=>by rw[aab,aaa hj];exact aaq hj
 have ρn:∀a∈ρ,a < n:=λa ha=>by have⟨j,hj,e⟩:=abl ha;have:=s.zx j hj;rw[aab,aaa hj]at this;rw[<-e];exact this
 have ent:∀x∈ρ.map A,∀c∈ξ,Ab (x c) B:=λx hx c Bv=>by have⟨a,ha,rfl⟩:=aai.mp hx;exact b.ab a c (ρn a ha) (hc c Bv)
 have cl:ξ.length<=12:=by rw[s.lc];exact hr
 have hd:Ab d ((12 * B) ^ ρ.length):=by have:=Ab.det B0 (ρ.map A) ξ ent cl;rw[s.det,aae]at this;exact this
 have V':∀p k,Ab (fm (ρ.map A) ξ p k) ((12 * B) ^ ρ.length):=λp k=>by
  unfold fm;refine Ab.pow ((Ab.det B0 _ _ (λx hx c Bv=>ent x (acy hx) c (acy Bv)) ?_).mono (ya B0 ?_))
  ·rw[List.length_eraseIdx];split <;> omega
  ·rw[List.length_eraseIdx,aae];split <;> omega
 have i1:∀a k,Ab (ind a k) 1:=λa k=>by unfold ind;split <;> exact⟨@_,@_⟩
 have P0:(0:Int)<=(12 * B) ^ ρ.length:=abZ ();have NK:∀{C:Int},0<=C->(ρ.length:Int) * C<=12 * C:=λh=>aaD () h;have c1:12 * (12 * B) ^ ρ.length<=(12 * B) ^ (ρ.length+1):=by rw[abD];have:=aaA (show(12:Int)<=12 * B by omega) P0;omega
 have wp:∀i k,i < ρ.length->Ab (W i k) ((12 * B) ^ (ρ.length+1)):=λi k hi=>by rw[s.wp i hi k];refine(Ab.sum (B:=(12 * B) ^ ρ.length) λj hj=>?_).mono (abc (NK P0) c1);have:=Ab.mul (V' i j) (i1 (ρ.getD j 0) k);rw[abR]at this;exact this
 have rp:∀i x,i < ρ.length->x < m->Ab (rv A n (W i) x) ((12 * B) ^ (ρ.length+1)):=λi x hi hx=>by
  rw[s.Sk hi];have Q0:0<=(12 * B) ^ ρ.length * B:=aba P0 ();refine(Ab.sum (B:=(12 * B) ^ ρ.length * B) λj hj=>Ab.mul (V' i j) (b.ab _ x (s.zx j hj) hx)).mono (abc (NK Q0) ?_);rw[abD];have:12 * ((12 * B) ^ ρ.length * B)=(12 * B) ^ ρ.length * (12 * B):=by grind
  omega
 have S0:(0:Int)<=(12 * B) ^ (ρ.length+1):=abZ ();have T0:(0:Int)<=(12 * B) ^ (ρ.length+2):=abZ ();have c2:12 * (B * (12 * B) ^ (ρ.length+1))=(12 * B) ^ (ρ.length+2):=by rw[show ρ.length+2=ρ.length+1+1 from rfl,Int.pow_succ];grind
 have c3:(12 * B) ^ (ρ.length+2)+(12 * B) ^ (ρ.length+2)<=top B ρ.length:=by unfold top;have e:(12 * B) ^ (ρ.length+3)=(12 * B) ^ (ρ.length+2) * (12 * B):=abD _ _;rw[e];have:=aaA (show(2:Int)<=12 * B by omega) T0;omega
 have c4:(12 * B) ^ (ρ.length+1)<=(12 * B) ^ (ρ.length+2):=ya B0 ();have c5:(12 * B) ^ ρ.length<=(12 * B) ^ (ρ.length+2):=ya B0 ();have c6:(12 * B) ^ ρ.length * B<=(12 * B) ^ (ρ.length+2):=by refine abc ?_ c4;rw[abD];exact aaA () P0
 have U0:0<=B * (12 * B) ^ (ρ.length+1):=aba () S0;have Uh:∀p,p < ρ.length->ξ.getD p 0 < m:=λp hp=>by
  have D8:p < ξ.length:=by rw[s.lc];exact hp
  rw[aab,aaa D8];exact hc _ (aaq D8)
 refine⟨λi k hi=>?_,λi x hi hx=>?_,hd.mono ()⟩
 ·by_cases yp:i < ρ.length
  ·exact(wp i k yp).mono ()
  ·rw[s.wn i () hi k];have a1:=Ab.mul hd (i1 (q i) k);rw[abR]at a1;refine(Ab.sub a1 (Ab.sum (B:=B * (12 * B) ^ (ρ.length+1)) λp hp=>Ab.mul (b.ab (q i) _ (s.NI i hi) (Uh p hp)) (wp p k hp))).mono ?_;have:=NK U0;omega
 ·by_cases yp:i < ρ.length
  ·exact(rp i x yp hx).mono ()
  ·rw[s.QM () hi];refine(Ab.sub (Ab.mul hd (b.ab (q i) x (s.NI i hi) hx)) (Ab.sum (B:=B * (12 * B) ^ (ρ.length+1)) λp hp=>Ab.mul (b.ab (q i) _ (s.NI i hi) (Uh p hp)) (rp p x hp hx))).mono ?_;have:=NK U0;omega
end
def dw(n i:Nat):List Int:=(List.range n).map (ind i)
def kK(ls:List (List Int))(f k:Nat):List (List Int):=ls.take f++[ls.getD k []]++(ls.drop f).take (k - f)++ls.drop (k+1)
def dz(l h:List Int)(c:Nat)(d:Int):List Int:=(l.zip h).map λp=>(h.getD c 0 * p.1 - l.getD c 0 * p.2).fdiv d
def aJ(A:Nat->Row)(n m:Nat)(w:Row):List Int:=(List.range m).map (λx=>rv A n w x)++(List.range n).map w
def ah(A:Nat->Row)(n m:Nat)(W:Nat->Row):List (List Int):=(List.range n).map λi=>aJ A n m (W i)
def arr(γ:List (List Int)):Nat->Row:=λk x=>(γ.getD k []).getD x 0
def fc:(aJ A n m w).length=m+n:=by unfold aJ;simp
def iA{x:Nat}(h:x < m):(aJ A n m w).getD x 0=rv A n w x:=by unfold aJ;rw[List.getD_eq_getElem?_getD,List.getElem?_append_left (by simpa using h),List.getElem?_map,List.getElem?_range h];rfl
def lq(h:i < n):(ah A n m W).getD i []=aJ A n m (W i):=by unfold ah;rw[aab,aar,aaT h];rfl
def dJ:(ah A n m W).length=n:=by unfold ah;simp
def Cs{u:Row}(h:∀k,w k=u k):aJ A n m w=aJ A n m u:=by have:w=u:=funext h;rw[this]
def AZ{γ:List (List Int)}(hl:∀r∈γ,r.length=m):(List.range γ.length).map (λi=>γ.getD i []++dw γ.length i)=ah (arr γ) γ.length m (λi=>ind i):=by
 unfold ah;apply abm;intro i hi;have hi:=abu.mp hi;unfold aJ dw
 congr 1
 have g:γ.getD i []=γ[i]:=by rw[aab,aaa hi];rfl
 have ml:=hl γ[i] (aaq hi);apply abv
 ·rw[g,ml];simp
 ·intro x h1 h2;simp only[List.getElem_map,List.getElem_range];rw[Dk hi];unfold arr;rw[aab (l:=γ.getD i []),aaa h1];rfl
def js(r k i:Nat):Nat:=if i < r then i else if i=r then k else if i<=k then i - 1 else i
def AG{r k:Nat}(hr:r<=k)(hk:k < n):kK (ah A n m W) r k=ah A n m (λi=>W (js r k i)):=by
 unfold kK;rw[lq hk];unfold ah;apply acG;intro i;rw[aar];simp only[List.append_assoc];by_cases h1:i < r
 ·rw[List.getElem?_append_left (by simp;omega),List.getElem?_take_of_lt h1,List.getElem?_map];rw[aaT ()];have:js r k i=i:=by unfold js;rw[if_pos h1]
  simp[this]
 ·rw[List.getElem?_append_right (by simp;omega)];have lt:((List.map (λi=>aJ A n m (W i)) (List.range n)).take r).length=r:=by simp;omega
  rw[lt];by_cases h2:i=r
  ·subst h2;rw[Nat.sub_self,List.getElem?_append_left (by simp)];rw[aaT ()];have:js i k i=k:=by unfold js;rw[if_neg (Nat.lt_irrefl _),if_pos rfl]
   simp[this]
  ·rw[List.getElem?_append_right (by simp;omega)];show(_++_)[i - r - 1]? =_;have l2:((List.map (λi=>aJ A n m (W i)) (List.range n)).drop r|>.take (k - r)).length=k - r:=by simp;omega
   by_cases h3:i<=k
   ·rw[aas (by rw[l2];omega),acw (),List.getElem?_drop,aar,aaT (),aaT ()];have:js r k i=i - 1:=by unfold js;rw[if_neg h1,if_neg h2,if_pos h3]
    simp only[Option.map_some,this];rw[show r+(i - r - 1)=i - 1 by omega]
   ·rw[aan (by rw[l2];omega),l2,List.getElem?_drop,aar];rw[show k+1+(i - r - 1 - (k - r))=i by omega];by_cases h4:i < n
    ·rw[aaT h4];have:js r k i=i:=by unfold js;rw[if_neg h1,if_neg h2,if_neg h3]
     simp[this]
    ·rw[List.getElem?_eq_none (by simpa using h4)];rfl
def uj{a b:Int}(h:d≠0)(e:d * b=a):a.fdiv d=b:=by rw[<-e];exact Int.mul_fdiv_cancel_left b h
def rZ{c:Nat}{u v:Row}(hc:c < m)(d0:d≠0)(h:∀k,d * v k=rv A n u c * w k - rv A n w c * u k):dz (aJ A n m w) (aJ A n m u) c d=aJ A n m v:=by
 have hr:∀x,d * rv A n v x=rv A n u c * rv A n w x - rv A n w c * rv A n u x:=λx=>by have:=xb (A:=A) (n:=n) (w:=λk=>d * v k) (u:=w) (v:=u) (a:=rv A n u c) (b:=rv A n w c) h x;rw[<-this];unfold rv;rw[<-Χ];exact Α λk _=>by grind
 unfold dz;rw[iA hc,iA hc];unfold aJ;rw[List.zip_append (by simp),List.map_append]
 congr 1
 ·apply abv
  ·simp
  ·intro x h1 h2;simp only[List.getElem_map,List.getElem_zip,List.getElem_range];exact uj d0 (hr x)
 ·apply abv
  ·simp
  ·intro x h1 h2;simp only[List.getElem_map,List.getElem_zip,List.getElem_range];exact uj d0 (h x)
structure Turn(A:Nat->Row)(n:Nat)(col:Nat)(ρ ξ:List Nat)(q:Nat->Nat)(d:Int)(W:Nat->Row):Prop where
 st:St A n ρ ξ q d W
 d0:d≠0
 cl:∀c∈ξ,c < col
 P9:∀i,i < ρ.length->q i=ρ.getD i 0
 Qf:∀k,k < n->∃i,i < n/\q i=k
 zero:∀i,ρ.length<=i->i < n->∀x,x < col->rv A n (W i) x=0
 all:ξ=List.range col\/∃x,x < col/\x∉ξ
def Turn.start:Turn A n 0 [] [] id 1 (λi=>ind i) where
 st:=St.start
 d0:=@_
 cl:=λ_ h=>nomatch h
 P9:=λ_ h=>aaP h (abT _)
 Qf:=λk h=>⟨k,h,rfl⟩
 zero:=λ_ _ _ _ h=>aaP h (abT _)
 all:=.inl rfl
section
variable{col:Nat}{q:Nat->Nat}
def Turn.skip(t:Turn A n col ρ ξ q d W)(h:∀i,ρ.length<=i->i < n->rv A n (W i) col=0):Turn A n (col+1) ρ ξ q d W where
 st:=t.st
 d0:=t.d0
 cl:=λc hc=>ab2 (t.cl c hc)
 P9:=t.P9
 Qf:=t.Qf
 zero:=λi h1 h2 x hx=>by
  by_cases e:x=col
  ·rw[e];exact h i h1 h2
  ·exact t.zero i h1 h2 x ()
 all:=.inr ⟨col,abA _,λz=>aaP (t.cl col z) (abJ _)⟩
def Turn.move(t:Turn A n col ρ ξ q d W){k:Nat}(h1:ρ.length<=k)(h2:k < n):Turn A n col ρ ξ (λi=>q (js ρ.length k i)) d (λi=>W (js ρ.length k i)) where
 st:=t.st.perm (λi hi=>by unfold js;rw[if_pos hi]) λi a b=>by unfold js;split <;> (try split) <;> (try split) <;> omega
 d0:=t.d0
 cl:=t.cl
 P9:=λi hi=>by show q (js ρ.length k i)=_;rw[show js ρ.length k i=i by unfold js;rw[if_pos hi]];exact t.P9 i hi
 Qf:=λj hj=>by
  have⟨i,hi,e⟩:=t.Qf j hj;by_cases a:i < ρ.length
  ·exact⟨i,hi,by show q (js ρ.length k i)=j;rw[show js ρ.length k i=i by unfold js;rw[if_pos a]];exact e⟩
  ·by_cases b:i=k
   ·exact⟨ρ.length,(),by show q (js ρ.length k ρ.length)=j;rw[show js ρ.length k ρ.length=k by unfold js;rw[if_neg (Nat.lt_irrefl _),if_pos rfl],<-b];exact e⟩
   ·by_cases c:i < k
    ·exact⟨i+1,(),by show q (js ρ.length k (i+1))=j;rw[show js ρ.length k (i+1)=i by unfold js;rw[if_neg (),if_neg (),if_pos ()];omega];exact e⟩
    ·exact⟨i,hi,by show q (js ρ.length k i)=j;rw[show js ρ.length k i=i by unfold js;rw[if_neg a,if_neg (),if_neg ()]];exact e⟩
 zero:=λi a b x hx=>by
  have:ρ.length<=js ρ.length k i/\js ρ.length k i < n:=by unfold js;split <;> (try split) <;> (try split) <;> omega
  exact t.zero _ this.1 this.2 x hx
 all:=t.all
def Turn.step(t:Turn A n col ρ ξ q d W)(hr:ρ.length < n)(hm:col < m)(h0:rv A n (W ρ.length) col≠0):
  ∃W',Turn A n (col+1) (ρ++[q ρ.length]) (ξ++[col]) q (rv A n (W ρ.length) col) W'/\
   ((ah A n m W).take ρ.length).map (λl=>dz l (aJ A n m (W ρ.length)) col d)++[aJ A n m (W ρ.length)]++((ah A n m W).drop (ρ.length+1)).map (λl=>dz l (aJ A n m (W ρ.length)) col d)=ah A n m W':=by
 have⟨W',s',e1,e2⟩:=t.st.step hr col t.d0 h0;refine⟨W',⟨s',h0,λc hc=>?_,λi hi=>?_,t.Qf,λi a b x hx=>?_,?_⟩,?_⟩
 ·rcases aaV.mp hc with z| z
  ·exact ab2 (t.cl c z)
  ·have:c=col:=by simpa using z
   omega
 ·by_cases yp:i < ρ.length
  ·rw[oF yp];exact t.P9 i yp
  ·have:i=ρ.length:=by simp at hi;omega
   rw[this,n8]
 ·rw[show(ρ++[q ρ.length]).length=ρ.length+1 by simp]at a;have WW:d * rv A n (W' i) x=rv A n (W ρ.length) col * rv A n (W i) x - rv A n (W i) col * rv A n (W ρ.length) x:=by have:=xb (A:=A) (n:=n) (w:=λk=>d * W' i k) (u:=W i) (v:=W ρ.length) (λk=>e2 i b () k) x;rw[<-this];unfold rv;rw[<-Χ];exact Α λk _=>by grind
  refine aaX t.d0 ?_;rw[WW];by_cases e:x=col
  ·subst e;grind
  ·rw[t.zero i () b x (),t.zero ρ.length (Nat.le_refl _) hr x ()];simp
 ·rcases t.all with z| ⟨x,a,b⟩
  ·left;rw[z,List.range_succ]
  ·refine .inr ⟨x,(),λz=>?_⟩;rcases aaV.mp z with z| z
   ·exact b z
   ·have:x=col:=by simpa using z
    omega
 ·unfold ah;rw[<-List.map_take,<-List.map_drop,aaN,aaN];apply acG;intro i;simp only[List.append_assoc];have lt:(List.map ((λl=>dz l (aJ A n m (W ρ.length)) col d) ∘ λi=>aJ A n m (W i)) ((List.range n).take ρ.length)).length=ρ.length:=by simp;omega
  by_cases h1:i < ρ.length
  ·rw[aas (by rw[lt];exact h1),aar,aar,acw h1,aaT ()];show some (dz (aJ A n m (W i)) (aJ A n m (W ρ.length)) col d)=some _;rw[rZ hm t.d0 (e2 i () ())]
  ·rw[aan (by rw[lt];omega),lt,aar];by_cases h2:i=ρ.length
   ·subst h2;rw[acz,aaT hr];show some (aJ A n m (W ρ.length))=some (aJ A n m (W' ρ.length));rw[Cs e1]
   ·rw[List.getElem?_append_right (by simp;omega)];show(List.map _ ((List.range n).drop (ρ.length+1)))[i - ρ.length - 1]? =_;rw[aar,List.getElem?_drop,show ρ.length+1+(i - ρ.length - 1)=i by omega];by_cases h4:i < n
    ·rw[aaT h4];show some (dz (aJ A n m (W i)) (aJ A n m (W ρ.length)) col d)=some _;rw[rZ hm t.d0 (e2 i h4 h2)]
    ·rw[List.getElem?_eq_none (by simpa using h4)];rfl
end
section
variable{col:Nat}{q:Nat->Nat}
def Turn.back(t:Turn A n col ρ ξ q d W){k y:Nat}(hk:k < n)(hy:y < col):d * A k y=Δ (λp=>A k (ξ.getD p 0) * rv A n (W p) y) ρ.length:=by
 have⟨i,hi,e⟩:=t.Qf k hk;have s:=t.st;by_cases yp:i < ρ.length
 ·have ek:k=ρ.getD i 0:=by rw[<-e];exact t.P9 i yp
  have lr:(ρ.map A).length=ρ.length:=aae _;have e1:Δ (λp=>A k (ξ.getD p 0) * rv A n (W p) y) ρ.length=Δ (λp=>Δ (λj=>(A k (ξ.getD p 0) * fm (ρ.map A) ξ p j) * A (ρ.getD j 0) y) ρ.length) ρ.length:=Α λp hp=>by rw[s.Sk hp,<-Χ];exact Α λj _=>by grind
  have e2:Δ (λp=>Δ (λj=>(A k (ξ.getD p 0) * fm (ρ.map A) ξ p j) * A (ρ.getD j 0) y) ρ.length) ρ.length=Δ (λj=>A (ρ.getD j 0) y * Δ (λp=>(ρ.map A).getD i zr (ξ.getD p 0) * fm (ρ.map A) ξ p j) ρ.length) ρ.length:=by rw[dI];refine Α λj _=>?_;rw[<-Χ];refine Α λp _=>?_;rw[uC yp,<-ek];grind
  rw[e1,e2];have pa:∀j,j < ρ.length->Δ (λp=>(ρ.map A).getD i zr (ξ.getD p 0) * fm (ρ.map A) ξ p j) ρ.length=if i=j then d else 0:=λj hj=>by have:=PA (γ:=ρ.map A) (ξ:=ξ) (i:=i) (k:=j) (by rw[lr];exact s.lc) (by rw[lr];exact yp) (by rw[lr];exact hj);rw[lr,s.det]at this;exact this
  rw[i9 yp λj hj my=>by rw[pa j hj,if_neg (Ne.symm my)];simp];rw[pa i yp,if_pos rfl,ek];grind
 ·have:=s.QM () hi y;rw[t.zero i () hi y hy,e]at this;omega
def Turn.kernel(t:Turn A n col ρ ξ q d W){x:Nat}(hx:x < col)(hf:x∉ξ):∃z:Row,z x= -d/\∀k,k < n->Δ (λy=>A k y * z y) col=0:=by
 have s:=t.st;have cm:∀i,i < ρ.length->ξ.getD i 0∈ξ:=λi hi=>by
  have sE:i < ξ.length:=by rw[s.lc];exact hi
  rw[aab,aaa sE];exact aaq sE
 refine⟨λy=>Δ (λi=>rv A n (W i) x * ind (ξ.getD i 0) y) ρ.length - d * ind x y,?_,λk hk=>?_⟩
 ·have e1:Δ (λi=>rv A n (W i) x * ind (ξ.getD i 0) x) ρ.length=0:=jf λi hi=>by unfold ind;rw[if_neg λz=>hf (by rw[<-z];exact cm i hi)];simp
  show Δ (λi=>rv A n (W i) x * ind (ξ.getD i 0) x) ρ.length - d * ind x x= -d;rw[e1];unfold ind;rw[if_pos rfl];omega
 ·have gen:∀f:Row,Δ (λy=>f y * (Δ (λi=>rv A n (W i) x * ind (ξ.getD i 0) y) ρ.length - d * ind x y)) col=Δ (λi=>rv A n (W i) x * f (ξ.getD i 0)) ρ.length - d * f x:=λf=>by
   have e1:Δ (λy=>f y * (Δ (λi=>rv A n (W i) x * ind (ξ.getD i 0) y) ρ.length - d * ind x y)) col=Δ (λy=>Δ (λi=>rv A n (W i) x * (ind (ξ.getD i 0) y * f y)) ρ.length+(-d) * (ind x y * f y)) col:=Α λy _=>by
    have:Δ (λi=>rv A n (W i) x * (ind (ξ.getD i 0) y * f y)) ρ.length=f y * Δ (λi=>rv A n (W i) x * ind (ξ.getD i 0) y) ρ.length:=by rw[<-Χ];exact Α λi _=>by grind
    rw[this];grind
   rw[e1,h_,Χ,nR (f:=f) hx,dI];have e2:Δ (λi=>Δ (λy=>rv A n (W i) x * (ind (ξ.getD i 0) y * f y)) col) ρ.length=Δ (λi=>rv A n (W i) x * f (ξ.getD i 0)) ρ.length:=Α λi hi=>by rw[Χ,nR (f:=f) (t.cl _ (cm i hi))]
   rw[e2];grind
  refine aaX t.d0 ?_;rw[Int.mul_zero,gen (A k),Int.mul_sub];have b1:=t.back hk hx;have e3:Δ (λi=>rv A n (W i) x * A k (ξ.getD i 0)) ρ.length=d * A k x:=by rw[b1];exact Α λi _=>aa0 _ _
  rw[e3];grind
def PZ(A:Nat->Row)(n u:Nat)(z:Row)(N:Int):Prop:=∀k,k < n->Δ (λx=>A k x * z x) u=N * A k u
def PZ.line{u:Nat}{z:Row}{N:Int}(h:PZ A n u z N)(w:Row):Δ (λx=>rv A n w x * z x) u=N * rv A n w u:=by
 unfold rv;have e1:Δ (λx=>Δ (λk=>w k * A k x) n * z x) u=Δ (λx=>Δ (λk=>w k * (A k x * z x)) n) u:=Α λx _=>by rw[aa0,<-Χ];exact Α λk _=>by grind
 rw[e1,dI,<-Χ];refine Α λk hk=>?_;rw[Χ,h k hk];grind
def Turn.rest(t:Turn A n col ρ ξ q d W){z:Row}{N:Int}(hs:PZ A n col z N)(hN:N≠0)(h1:ρ.length<=i)(hi:i < n):rv A n (W i) col=0:=by
 have:=hs.line (W i);rw[jf λx hx=>by rw[t.zero i h1 hi x hx];simp]at this;rcases Int.mul_eq_zero.mp this.symm with e| e
 ·exact aaP e hN
 ·exact e
def Turn.told(t:Turn A n col ρ ξ q d W)(hc:ξ=List.range col){z:Row}{N:Int}(hs:PZ A n col z N)(hi:i < col):d * z i=N * rv A n (W i) col:=by
 have s:=t.st;have hl:ρ.length=col:=by rw[<-s.lc,hc,aa9]
 have g:∀p,p < col->ξ.getD p 0=p:=λp hp=>by rw[hc,aab,aaT hp];rfl
 rw[<-hs.line (W i)]
 rw[i9 hi λx hx my=>by
  have:=s.one i x (by rw[hl];exact hi) (by rw[hl];exact hx);rw[g x hx,aaC (Ne.symm my)]at this
  rw[this];simp]
 have:=s.one i i (by rw[hl];exact hi) (by rw[hl];exact hi);rw[g i hi,aaz rfl]at this;rw[this]
end
def Turn.exists{A:Nat->Row}{n:Nat}:∀col:Nat,∃ρ ξ q d W,Turn A n col ρ ξ q d W
 | 0=>⟨_,_,_,_,_,Turn.start⟩
 | col+1=>by
  have⟨ρ,ξ,q,d,W,t⟩:=Turn.exists (A:=A) (n:=n) col;by_cases h:∃k,ρ.length<=k/\k < n/\rv A n (W k) col≠0
  ·have⟨k,h1,h2,h3⟩:=h;have t':=t.move h1 h2;have e:js ρ.length k ρ.length=k:=by unfold js;rw[if_neg (Nat.lt_irrefl _),if_pos rfl]
   have⟨W',t2,_⟩:=t'.step (m:=col+1) () () (by show rv A n (W (js ρ.length k ρ.length)) col≠0;rw[e];exact h3);exact⟨_,_,_,_,_,t2⟩
  ·refine⟨_,_,_,_,_,t.skip λi h1 h2=>?_⟩;by_cases e:rv A n (W i) col=0
   ·exact e
   ·exact aaP ⟨i,h1,h2,e⟩ h
section
variable{col:Nat}{q:Nat->Nat}
def LQ(A:Nat->Row)(n:Nat)(W:Nat->Row)(ξ:List Nat)(s k:Nat):Row:=λy=>Δ (λi=>rv A n (W i) s * ind (ξ.getD i 0) y) k
def Turn.LY(t:Turn A n col ρ ξ q d W){x:Nat}(hx:x < col):∀k,k < n->Δ (λy=>A k y * (LQ A n W ξ x ξ.length y - d * ind x y)) col=0:=λk hk=>by
 have s:=t.st;have cm:∀i,i < ρ.length->ξ.getD i 0∈ξ:=λi hi=>by
  have sE:i < ξ.length:=by rw[s.lc];exact hi
  rw[aab,aaa sE];exact aaq sE
 unfold LQ;rw[s.lc];have gen:∀f:Row,Δ (λy=>f y * (Δ (λi=>rv A n (W i) x * ind (ξ.getD i 0) y) ρ.length - d * ind x y)) col=Δ (λi=>rv A n (W i) x * f (ξ.getD i 0)) ρ.length - d * f x:=λf=>by
  have e1:Δ (λy=>f y * (Δ (λi=>rv A n (W i) x * ind (ξ.getD i 0) y) ρ.length - d * ind x y)) col=Δ (λy=>Δ (λi=>rv A n (W i) x * (ind (ξ.getD i 0) y * f y)) ρ.length+(-d) * (ind x y * f y)) col:=Α λy _=>by
   have:Δ (λi=>rv A n (W i) x * (ind (ξ.getD i 0) y * f y)) ρ.length=f y * Δ (λi=>rv A n (W i) x * ind (ξ.getD i 0) y) ρ.length:=by rw[<-Χ];exact Α λi _=>by grind
   rw[this];grind
  rw[e1,h_,Χ,nR (f:=f) hx,dI];have e2:Δ (λi=>Δ (λy=>rv A n (W i) x * (ind (ξ.getD i 0) y * f y)) col) ρ.length=Δ (λi=>rv A n (W i) x * f (ξ.getD i 0)) ρ.length:=Α λi hi=>by rw[Χ,nR (f:=f) (t.cl _ (cm i hi))]
  rw[e2];grind
 refine aaX t.d0 ?_;rw[Int.mul_zero,gen (A k),Int.mul_sub];have b1:=t.back hk hx;have e3:Δ (λi=>rv A n (W i) x * A k (ξ.getD i 0)) ρ.length=d * A k x:=by rw[b1];exact Α λi _=>aa0 _ _
 rw[e3];grind
def Turn.SY(t:Turn A n col ρ ξ q d W)(h:∀i,ρ.length<=i->i < n->rv A n (W i) col=0):PZ A n col (LQ A n W ξ col ξ.length) d:=λk hk=>by
 have:=(t.skip h).LY (x:=col) () k hk;have e:Δ (λy=>A k y * (LQ A n W ξ col ξ.length y - d * ind col y)) (col+1)=Δ (λy=>A k y * (LQ A n W ξ col ξ.length y - d * ind col y)) col+A k col * (LQ A n W ξ col ξ.length col - d * ind col col):=rfl;have e1:Δ (λy=>A k y * (LQ A n W ξ col ξ.length y - d * ind col y)) col=Δ (λy=>A k y * LQ A n W ξ col ξ.length y) col:=Α λy hy=>by
  have:ind col y=0:=by unfold ind;rw[if_neg ()]
  rw[this];grind
 have e2:LQ A n W ξ col ξ.length col=0:=jf λi hi=>by
  have hm:ξ.getD i 0∈ξ:=by rw[aab,aaa hi];exact aaq hi
  have:ind (ξ.getD i 0) col=0:=by unfold ind;rw[if_neg (by have:=t.cl _ hm;omega)]
  rw[this,Int.mul_zero]
 have e3:ind col col=1:=by unfold ind;rw[if_pos rfl]
 rw[e,e1,e2,e3]at this;have:A k col * (0 - d * 1)= -(d * A k col):=by grind
 omega
def St.Ur(s:St A n ρ ξ q d W)(b:Bd A n m B)(hc:∀c∈ξ,c < m)(hr:ρ.length<=12):Ab d ((12 * B) ^ ρ.length):=by
 have ρn:∀a∈ρ,a < n:=λa ha=>by have⟨j,hj,e⟩:=abl ha;have:=s.zx j hj;rw[aab,aaa hj]at this;rw[<-e];exact this
 have:=Ab.det b.b1 (ρ.map A) ξ (λx hx c Bv=>by
  have⟨a,ha,rfl⟩:=aai.mp hx
  exact b.ab a c (ρn a ha) (hc c Bv)) (by rw[s.lc];exact hr)
 rw[s.det,aae]at this;exact this
end
end Bz
seal L2.JE L2.JT L2.JW L2.JA L2.JS L2.CC L2.JI L2.JK
local macro_rules| `(tactic| walk_at "vc")=>`(tactic| dsimp only[L2.gN,L2.SW,L2.Vx,L2.YN,L2.Lg,L2.O3,L2.sIf,L2.Ts,L2.Hq,L2.KY,L2.O1,L2.D3,L2.lT,L2.Wq,L2.CU,L2.dC,L2.Rr,L2.Lc,L2.Sy,L2.T1,L2.nO,L2.Uj,L2.orT,L2.Uk,L2.TK,L2.dOr,L2.dIf,L2.k9,List.map_cons,List.map_nil,List.length_cons,List.length_nil,List.cons_append,List.nil_append,List.replicate,List.getElem?_cons_zero,List.getElem?_cons_succ,List.set_cons_zero,List.set_cons_succ,Nat.reduceSub,Nat.reduceAdd,Nat.zero_add])
namespace Pg
open PySem L2
variable{f aB fJ ni bx eN:Addr}{fd aC fK nG bz eP:FuncData}{M:Ms}{d:Dt}{xs ds:List Dt}{i n j l:Nat}{b t lo B E C:Int}{A W:Nat->Bz.Row}{kc:List (Int×Nat)}
def top(i:Nat):Stmt:=PySem.Challenge.pw_chanceduel_k63_whole_a_play_accounted_fo.main.body.getD i (.Pass ⟨0,0,0,0⟩)
def cls(i j:Nat):Stmt:=match top i with
 | .ClassDef _ _ _ b _ _ _ _ _ _ _=>b.getD j (.Pass ⟨0,0,0,0⟩)
 | _=>.Pass ⟨0,0,0,0⟩
abbrev hG:Stmt:=top 9
abbrev pI:Stmt:=top 10
abbrev Jv:Stmt:=top 11
abbrev Cw:Stmt:=top 12
abbrev DB:Stmt:=top 13
abbrev Cj:Stmt:=top 14
abbrev rJ:Stmt:=top 19
abbrev pP:Stmt:=top 20
abbrev iI:Stmt:=top 21
abbrev jF:Stmt:=top 22
abbrev mM:Stmt:=top 23
abbrev si:Stmt:=top 24
abbrev nA:Stmt:=top 25
abbrev mQ:Stmt:=top 30
abbrev uo:Stmt:=top 31
abbrev pG:Stmt:=top 32
abbrev BX:Stmt:=top 33
abbrev jK:Stmt:=top 36
abbrev iN:Stmt:=top 37
abbrev kL:Stmt:=top 38
abbrev jz:Stmt:=top 39
abbrev tF:Stmt:=top 40
abbrev nu:Stmt:=top 41
abbrev o_:Stmt:=top 43
abbrev pd:Stmt:=top 45
abbrev nF:Stmt:=top 46
abbrev rG:Stmt:=top 47
abbrev ug:Stmt:=top 48
abbrev jR:Stmt:=top 49
abbrev pv:Stmt:=top 50
abbrev oQ:Stmt:=top 51
abbrev yu:Stmt:=top 52
abbrev Cq:Stmt:=top 53
abbrev p_:Stmt:=top 54
abbrev lM:Stmt:=top 56
abbrev yN:Stmt:=top 57
abbrev yB:Stmt:=top 58
abbrev rY:Stmt:=top 59
abbrev hV:Stmt:=top 61
abbrev sO:Stmt:=top 62
abbrev sU:Stmt:=top 64
abbrev yj:Stmt:=top 65
abbrev wV:Stmt:=top 66
abbrev wO:Stmt:=top 68
abbrev m_:Stmt:=top 69
abbrev um:Stmt:=top 70
abbrev mW:Stmt:=top 71
abbrev pM:Stmt:=top 72
abbrev xQ:Stmt:=top 73
abbrev pY:Stmt:=top 74
abbrev tD:Stmt:=top 75
abbrev xE:Stmt:=top 76
abbrev pE:Stmt:=top 77
abbrev t_:Stmt:=top 78
abbrev ik:Stmt:=top 79
abbrev Rk:Stmt:=top 80
abbrev nj:Stmt:=cls 34 0
abbrev mN:Stmt:=cls 34 1
abbrev lC:Stmt:=cls 34 2
abbrev mJ:Stmt:=cls 34 3
abbrev kI:Stmt:=cls 34 4
abbrev oY:Stmt:=cls 34 5
abbrev ly:Stmt:=cls 34 7
abbrev g8:Stmt:=cls 34 8
abbrev nB:Stmt:=cls 34 9
abbrev mK:Stmt:=cls 34 10
open PySem L2 Fr0 Tx
structure Ev(K:fI)(mg:Str->Option Value)(w:World)(Cm:Addr):Prop where
 cG:mg "len"=none
 rT:mg "abs"=none
 jL:mg "isinstance"=none
 Fj:mg "int"=none
 BF:mg "bool"=none
 Kc:mg "str"=none
 xf:mg "tuple"=none
 mU:mg "list"=none
 cU:mg "range"=none
 eW:mg "enumerate"=none
 EE:mg "any"=none
 Fo:mg "all"=none
 AA:mg "sum"=none
 vq:mg "zip"=none
 tE:mg "dict"=none
 DV:mg "min"=none
 KJ:mg "max"=none
 ib:PySem.W.kitOne K (.type "int") (.type "bool")=some false
 kis:PySem.W.kitOne K (.type "int") (.type "str")=some false
 kts:PySem.W.kitOne K (.type "tuple") (.type "str")=some false
 kti:PySem.W.kitOne K (.type "tuple") (.type "int")=some false
 kls:PySem.W.kitOne K (.type "list") (.type "str")=some false
 kli:PySem.W.kitOne K (.type "list") (.type "int")=some false
 ktl:PySem.W.kitOne K (.type "tuple") (.type "list")=some false
 klt:PySem.W.kitOne K (.type "list") (.type "tuple")=some false
 d9:GB K Cm
 cR:iQ K Cm "kept_rows"
 fQ:iQ K Cm "kept_share"
 rP:∃a o its n,mg "HANDS"=some (.ref a)/\K.lookup a=some o/\o.cls= .type "tuple"/\o.data= .seq its n/\its.size<=sizeLine/\Paired (λ(z:Str) (u:Value)=>∃tk,u= .str z tk) ["one","other"] its.toList
 mj:R0 K w mg "TURNED_KINDS" [("one","other"),("other","one"),("chance","chance")]
 qo:∃tk,mg "MOST_DOORS"=some (.int 6 tk)
 jM:∃tk,mg "MOST_BOTTOM"=some (.int 1000000 tk)
 oy:∃tk,mg "MOST_PLACES"=some (.int 12 tk)
 gW:∃tk,mg "MOST_SHARE_BOTTOM"=some (.int 1000 tk)
section
variable{P:Program}{w:World}{K:fI}{mg:Str->Option Value}{base:Heap}{Cm:Addr}
def K7:DF:=λds M q _=>match ds with
 | [.int a,.int b]=>q (.int (g a b)) M
 | _=>False
def bY:Ε ["one","other","great","small","rest"] ["one","other"] (χ hG):=.of rfl
def pK(F:dh K "common_divisor" "common_divisor" hG f fd)(E:Ev K mg w Cm):aw P w K mg base (cw P w) 1 f fd ["one","other"] (c7 K K7):=by
 refine F.dW bY (λds M q x h=>?_) (λaW A outer s H E' hr=>⟨_,(η (ω 2 bY.nd (Es E.rT (Ο (jv 0) θ)))
   (η (ω 3 bY.nd (Es E.rT (Ο (jv 1) θ)))
   (η (kS (tQ hr (jv 3) υ) (η (ω 4 bY.nd (bN (jv 2) (jv 3)))
   (η (ω 2 bY.nd (jv 3))
   (μ (ω 3 bY.nd (jv 4))))))
   (μ (Ζ (jv 2)))))),λds M q x h=>?_⟩)
 ·unfold K7 at h;split at h;· rfl
  ·exact h.elim
 ·unfold K7 at h;split at h
  ·rename_i a b;refine⟨λm ρ M'=>M'=M/\∃(x y:Int) (r:Option Dt),ρ=[some (.int a),some (.int b),some (.int x),some (.int y),r]/\0<=x/\0<=y/\g x y=g a b/\m=y.toNat,⟨_,rfl,_,_,_,rfl,by split <;> omega,by split <;> omega,OO a b,rfl⟩,?_⟩;rintro m ρ M' ⟨rfl,x,y,r,rfl,hx,hy,e,rfl⟩;refine⟨λhb=>?_,λhb=>?_⟩
   ·have L9:y≠0:=by simpa using hb
    refine⟨_,λρ' M2 h2=>h2,?_⟩;refine⟨(),(x % y).toNat,?_,rfl,y,x % y,_,rfl,hy,aa8 _ L9,?_,rfl⟩
    ·have:=aa1 x (show 0 < y by omega);have:=aa8 x L9;omega
    ·rw[<-abV x hy,K4 ()];exact e
   ·have L9:y=0:=by simpa using hb
    subst L9;rw[Lk hx]at e;subst e;exact h
  ·exact h.elim
def Gu{i j:Int}(h:g7 j)(l:i.natAbs<=j.natAbs):g7 i:=aa3 l h
def rH:DF:=λds M q _=>match ds with
 | [.int t,.int b]=>g7 b/\(b=0->False)/\(b≠0->q (.tup [.int (aD t b).1,.int (aD t b).2]) M)
 | _=>False
def mI:Ε ["top","bottom","divisor"] ["top","bottom"] (χ pI):=.of rfl
def Ai(F:dh K "fraction" "fraction" pI f fd)(E:Ev K mg w Cm){hX:Addr}{h7:FuncData}(b6:ax P w K mg base 1 "common_divisor" ["one","other"] K7 hX h7):aw P w K mg base (cw P w) 2 f fd ["top","bottom"] (c7 K rH):=by
 refine F.dW mI (λds M q x h=>?_) (λaW A outer s H E' hr=>⟨_,(η (aM (cD hr (jv 1) υ) (μ gf) Τ)
   (η (ω 2 mI.nd (ae b6 hr ν (Ο (jv 0) (Ο (jv 1) θ))))
   (η (kM (aM (vV (jv 1) υ) (μ (ω 2 mI.nd (OV (jv 2)))) Τ))
   (μ (Ζ (c_ (ι (CM (jv 0) (jv 2)) (ι (CM (jv 1) (jv 2)) θ bb) bb))))))),λds M q x h=>?_⟩)
 ·unfold rH at h;split at h;· rfl
  ·exact h.elim
 ·unfold rH at h;split at h
  ·rename_i t b;have⟨hB,h0,h1⟩:=h;refine⟨λhb=>?_,λhb=>?_⟩
   ·exact h0 (by simpa using hb)
   ·have Oq:b≠0:=by simpa using hb
    refine⟨λρ M'=>M'=M/\ρ=[some (.int t),some (.int b),some (.int (dv t b))],⟨λhn=>?_,λhn=>?_⟩,?_⟩
    ·have SG:b < 0:=by simpa using hn
     exact⟨rfl,by unfold dv;rw[if_pos SG];rfl⟩
    ·have SG:¬b < 0:=by simpa using hn
     exact⟨rfl,by unfold dv;rw[if_neg SG];rfl⟩
    ·rintro ρ M' ⟨rfl,rfl⟩;have hd:=EJ (t:=t) Oq;have hbd:g7 (dv t b):=Gu hB (yh Oq);exact⟨⟨hd,hbd⟩,⟨hd,hbd⟩,gV,h1 Oq⟩
  ·exact h.elim
abbrev Fr:=Int×Int
def Λ(p:Fr):Dt:=.tup [.int p.1,.int p.2]
def ba(p:Fr):Bool:=decide ((if p.1 < 0 then -p.1 else p.1)<=10 ^ 30)&&decide (p.2<=1000000)
def tM:DF:=λds M q _=>∃p,ds=[Λ p]/\q (.bl (ba p)) M
def HG:Ε ["pay"] ["pay"] (χ rJ):=.of rfl
def CA(F:dh K "fits_pay" "fits_pay" rJ f fd)(E:Ev K mg w Cm):aw P w K mg base (cw P w) 1 f fd ["pay"] (c7 K tM):=by
 refine F.dW HG (λds M q x h=>?_) (λaW A outer s H E' hr=>⟨_,(μ (Ζ (iR (AN (Es E.rT (ι (Ι (jv 0) υ) θ bQ)) (gB υ υ)) (jV (AN (Ι (jv 0) υ) (rX E.jM)))))),λds M q x h=>?_⟩)
 ·have⟨p,rfl,_⟩:=h;rfl
 ·have⟨p,rfl,h⟩:=h;refine⟨⟨@_,@_,@_⟩,λh1=>?_,λh1=>?_⟩
  ·have e:ba p=decide (p.2<=1000000):=by unfold ba;rw[show decide ((if p.1 < 0 then -p.1 else p.1)<=10 ^ 30)=true from h1];rfl
   rw[e]at h;exact h
  ·have e:ba p=false:=by unfold ba;rw[show decide ((if p.1 < 0 then -p.1 else p.1)<=10 ^ 30)=false from h1];rfl
   rw[e]at h;exact h
def rC{ok:Ms->Prop}(h:j7 M d=some (xs,ok)):ok M:=by
 cases d with
 | lst ds=>cases h;trivial
 | ir ns=>cases h;trivial
 | loc k=>
  have h:(match M[k]? with| some (.lst xs)=>some (xs,λM':Ms=>M'[k]? =some (.lst xs))| _=>none)=some (xs,ok):=h;split at h
  ·rename_i ys hm;cases h;exact hm
  ·cases h
 | _=>cases h
def AU{ok:Ms->Prop}(h:j7 M d=some (xs,ok)):qm M d=some (xs,ok):=by
 cases d with
 | lst ds=>cases h;rfl
 | ir ns=>cases h;rfl
 | loc k=>exact h
 | _=>cases h
def bC{ρ:En}{ok:Ms->Prop}{q:List Dt->(Ms->Prop)->Ms->Prop}{x:DX}(hv:ρ[i]? =some (some d))(hl:j7 M d=some (xs,ok))(h:q xs ok M):ft (CU i) ρ M q x:=by unfold ft CU;rw[hv];show(match qm M d with| some (xs,ok)=>q xs ok M| none=>False);rw[AU hl];exact h
def bg{n:Int}{k:Nat}(h:n.natAbs < 2 ^ k)(hk:k<=8000:=by decide):g7 n:=aat h (abd @_ hk)
def aQ(t:Int)(p:Fr)(size:Int):Bool:=decide (0<=t)&&(decide (t < size)&&ba p)
def vj:DF:=λds M q _=>∃t p r size,ds=[.tup (.int t::Λ p::r),.int size]/\q (.bl (aQ t p size)) M
def DH:Ε ["door","size"] ["door","size"] (χ pP):=.of rfl
def A1(F:dh K "fits_door" "fits_door" pP f fd)(E:Ev K mg w Cm){sI:Addr}{tj:FuncData}(gS:ax P w K mg base 1 "fits_pay" ["pay"] tM sI tj):aw P w K mg base (cw P w) 2 f fd ["door","size"] (c7 K vj):=by
 refine F.dW DH (λds M q x h=>?_) (λaW A outer s H E' hr=>⟨_,(μ (Ζ (iR (AN υ (Ι (jv 0) υ)) (iR (BV (Ι (jv 0) υ) (jv 1)) (jV (ae gS hr ν (ι (Ι (jv 0) υ) θ bQ))))))),λds M q x h=>?_⟩)
 ·have⟨t,p,r,size,rfl,_⟩:=h;rfl
 ·have⟨t,p,r,size,rfl,h⟩:=h;walk_at "vc";refine Η rfl bP ?_;refine⟨λh1=>?_,λh1=>?_⟩
  ·refine Η rfl bP ⟨λh2=>?_,λh2=>?_⟩
   ·refine Η rfl (ak (j:=1) rfl) ⟨p,rfl,?_⟩;have e:aQ t p size=ba p:=by unfold aQ;rw[h1,h2];rfl
    rw[<-e];exact h
   ·have e:aQ t p size=false:=by unfold aQ;rw[h1,h2];rfl
    rw[<-e];exact h
  ·have e:aQ t p size=false:=by unfold aQ;rw[h1];rfl
   rw[<-e];exact h
abbrev bu:=Int×Fr×List Fr
def cZ(d:bu):Dt:=.tup (.int d.1::Λ d.2.1::d.2.2.map Λ)
def ar(ds:List bu)(size:Int):Bool:=decide (1<=ds.length)&&decide (ds.length<=6)&&ds.all λd=>aQ d.1 d.2.1 size
def s_:DF:=λas M q _=>∃d size ds ok,as=[d,.int size]/\j7 M d=some (ds.map cZ,ok)/\ds.length<=100/\q (.bl (ar ds size)) M
def ql:Ε ["doors","size"] ["doors","size"] (χ mM):=.of rfl
def yC(F:dh K "fits_doors" "fits_doors" mM f fd)(E:Ev K mg w Cm){Hk:Addr}{GH:FuncData}(nE:ax P w K mg base 2 "fits_door" ["door","size"] vj Hk GH):aw P w K mg base (cw P w) 3 f fd ["doors","size"] (c7 K s_):=by
 refine F.dW ql (λds M q x h=>?_) (λaW A outer s H E' hr=>⟨_,(η (aM (JW.jt (El (vV (dU E.cG (Ο (jv 0) θ)) υ) (xB (Ft (dU E.cG (Ο (jv 0) θ)) (rX E.qo))))) (μ (Ζ O7)) Τ)
   (μ (Ζ (U' E.Fo (ι (fS (ys:=["size"]) (af:=[1]) (.of ql rfl rfl rfl) (bD (jv 0)) (λC s H fp=>(ae nE hr (fW (P:=P) (w:=w)) (Ο (jv 0) (Ο (jv 1) θ))))) θ))))),λds M q x h=>?_⟩)
 ·have⟨d,size,ds,ok,rfl,_⟩:=h;rfl
 ·have⟨d,size,ds,ok,rfl,hl,hz,h⟩:=h;have hs:=oH hl;walk_at "vc";refine aO hs ⟨λh1=>?_,λh1=>?_⟩
  ·refine⟨λ_=>?_,nofun⟩;have e:ar ds size=false:=by
    have:(ds.length:Int) < 1:=by simpa using h1
    unfold ar;rw[aaG ()];rfl
   rw[<-e];exact h
  ·have h1:¬(ds.length:Int) < 1:=by simpa using h1
   refine aO hs ⟨λh2=>?_,λh2=>?_⟩
   ·have e:ar ds size=false:=by
     have:6 < (ds.length:Int):=by simpa using h2
     unfold ar;rw[aaG (p:=ds.length<=6) (),Bool.and_false];rfl
    rw[<-e];exact h
   ·have h2:¬6 < (ds.length:Int):=by simpa using h2
    refine bC rfl hl ⟨by rw[aae];exact aax hz @_,?_⟩;refine fG (f:=λd=>.bl (match d with| .tup (.int t:: .tup [.int a,.int b]::_)=>aQ t (a,b) size| _=>false)) (rC hl) (λx hx q hq=>?_) ?_
    ·have⟨y,_,rfl⟩:=aai.mp hx;exact⟨y.1,y.2.1,y.2.2.map Λ,size,rfl,hq⟩
    ·refine⟨ds.map λd=>aQ d.1 d.2.1 size,?_,?_⟩
     ·rw[aaN,aaW,aaN];rfl
     ·have e:ar ds size=(ds.map λd=>aQ d.1 d.2.1 size).all id:=by unfold ar;rw[aaI (show 1<=ds.length by omega),aaI (show ds.length<=6 by omega),List.all_map];rfl
      rw[<-e];exact h
def aN(cs:List Fr):Int:=cs.foldl (λb c=>b * c.2 / g b c.2) 1
def n_{c:Int}(hb:0 < b)(hc:0 < c):0 < b * c / g b c/\b * c / g b c<=b * c/\0 < g b c/\g b c<=c:=by
 have hg:0 < g b c:=zf ();have hbc:0 < b * c:=aap hb hc;have hd:g b c∣c:=Int.gcd_dvd_right ..;have hle:g b c<=c:=abY hc hd;have h1:c<=b * c:=by have:=aaD (show 1<=b by omega) (show 0<=c by omega);simpa using this
 refine⟨Int.ediv_pos_of_pos_of_dvd hbc () (Int.dvd_mul_of_dvd_right hd),?_,hg,hle⟩;exact acv _ ()
def Q8(cs:List Fr):Prop:=cs.length<=12/\∀c∈cs,0 < c.2/\c.2 < 2 ^ 200/\c.1.natAbs < 2 ^ 200
def OkB(cs:List Fr):Prop:=cs.length<=13/\∀c∈cs,0 < c.2/\c.2 < 2 ^ 200
def oV:∀(cs:List Fr) (b:Int) (k:Nat),0 < b->b<=2 ^ (200 * k)->(∀c∈cs,0 < c.2/\c.2 < 2 ^ 200)->0 < cs.foldl (λb c=>b * c.2 / g b c.2) b/\cs.foldl (λb c=>b * c.2 / g b c.2) b<=2 ^ (200 * (k+cs.length))
 | [],b,k,h0,h1,_=>⟨h0,h1⟩
 | c::cs,b,k,h0,h1,hc=>by
  have⟨c0,c1⟩:=hc c aad;have⟨s0,s1,_⟩:=n_ h0 c0;have hlt:b * c.2 / g b c.2<=2 ^ (200 * (k+1)):=by refine abc s1 ?_;rw[show 200 * (k+1)=200 * k+200 by omega,Int.pow_add];exact abb h1 (aag c1) (aag c0) (aag (Int.pow_pos @_))
  have:=oV cs _ (k+1) s0 hlt λd hd=>hc d (aac _ hd);rw[abE,aau,show k+(cs.length+1)=k+1+cs.length by omega];exact this
def VD{n:Int}{k:Nat}(h0:0<=n)(h:n<=2 ^ k)(hk:k < 8000):g7 n:=by
 refine bg (k:=k+1) ?_ hk;have:(n.natAbs:Int) < ((2 ^ (k+1):Nat):Int):=by rw[abe h0,abz,abD];have:(0:Int) < 2 ^ k:=Int.pow_pos @_;show n < 2 ^ k * 2;omega
 exact abG.mp this
def fN:∀(cs:List Fr) (b:Int),0 < b->(∀c∈cs,0 < c.2)->0 < cs.foldl (λb c=>b * c.2 / g b c.2) b
 | [],_,h0,_=>h0
 | c::cs,b,h0,hc=>fN cs _ (n_ h0 (hc c aad)).1 λd hd=>hc d (aac _ hd)
def Co{n:Int}{k:Nat}(h0:0<=n)(h:n < 2 ^ k)(hk:k<=8000):g7 n:=by
 refine bg (k:=k) ?_ hk;have:(n.natAbs:Int) < ((2 ^ k:Nat):Int):=by rw[abe h0,abz];exact h
 exact abG.mp this
def fR:DF:=λds M q _=>∃cs:List Fr,ds=[.lst (cs.map Λ)]/\OkB cs/\q (.int (aN cs)) M
def fe:Ε ["chances","bottom","chance"] ["chances"] (χ iI):=.of rfl
def qL(F:dh K "common_bottom" "common_bottom" iI f fd)(E:Ev K mg w Cm){hX:Addr}{h7:FuncData}(b6:ax P w K mg base 1 "common_divisor" ["one","other"] K7 hX h7):aw P w K mg base (cw P w) 2 f fd ["chances"] (c7 K fR):=by
 refine F.dW fe (λds M q x h=>?_) (λaW A outer s H E' hr=>⟨_,(η (ω 1 fe.nd υ)
   (η (dR (bD (jv 0)) (av (i:=2) fe.nd rfl (Or.inl rfl)) bq (μ (ω 1 fe.nd (eV (aI (jv 1) (Ι (jv 2) υ)) (ae b6 hr ν (Ο (jv 1) (ι (Ι (jv 2) υ) θ bQ)))))))
   (μ (Ζ (jv 1))))),λds M q x h=>?_⟩)
 ·have⟨cs,rfl,_⟩:=h;rfl
 ·have⟨cs,rfl,⟨hz,hc⟩,h⟩:=h;walk_at "vc";refine bC (i:=0) rfl rfl ?_;refine cf (λxs ρ M'=>M'=M/\∃gU rest r,cs=gU++rest/\xs=rest.map Λ/\ρ=[some (.lst (cs.map Λ)),some (.int (aN gU)),r]) (λ_ _ _ _=>trivial) (λx xs ρ M' hj gT=>?_) (λρ M' hj=>?_) _ _ _ ⟨rfl,[],cs,none,rfl,rfl,rfl⟩
  ·have⟨rfl,gU,rest,r,e,ex,rfl⟩:=hj;cases rest with
   | nil=>cases ex
   | cons c rest=>
    cases ex;have hd:∀d∈gU,0 < d.2/\d.2 < 2 ^ 200:=λd hd=>by have⟨a,b⟩:=hc d (by rw[e];exact aco _ hd);exact⟨a,b⟩
    have⟨c0,c1⟩:=hc c (by rw[e];exact aaH _ aad);have⟨b0,b1⟩:=oV gU 1 0 @_ @_ hd;have hl:gU.length<=13:=by have:=aa2 List.length e;rw[aah]at this;omega
    have⟨s0,s1,g0,g1⟩:=n_ b0 c0;refine⟨⟨VD (aag b0) b1 (),Co (aag c0) c1 @_⟩,⟨g0,Co (aag g0) (aaE g1 c1) @_⟩,?_⟩;refine gT _ _ ⟨rfl,gU++[c],rest,some (Λ c),by rw[e];simp,rfl,?_⟩;have e2:aN (gU++[c])=aN gU * c.2 / g (aN gU) c.2:=by unfold aN;rw[List.foldl_append];rfl
    rw[e2];rfl
  ·have⟨rfl,gU,rest,r,e,ex,rfl⟩:=hj;cases rest with
   | nil=>rw[aa6]at e;subst e;exact h
   | cons c rest=>cases ex
def au(cs:List Fr):Bool:= !(cs.any λc=>decide (c.1<=0))&&(decide ((cs.map λc=>c.1 * (aN cs / c.2)).sum=aN cs)&&decide (aN cs<=1000000))
def oO:DF:=λds M q _=>∃cs:List Fr,ds=[.lst (cs.map Λ)]/\Q8 cs/\q (.bl (au cs)) M
def eA:Ε ["chances","bottom","whole"] ["chances"] (χ jF):=.of rfl
def uy(F:dh K "fits_chances" "fits_chances" jF f fd)(E:Ev K mg w Cm){d_:Addr}{d8:FuncData}(aU:ax P w K mg base 2 "common_bottom" ["chances"] fR d_ d8):aw P w K mg base (cw P w) 3 f fd ["chances"] (c7 K oO):=by
 refine F.dW eA (λds M q x h=>?_) (λaW A outer s H E' hr=>⟨_,(η (aM (jE (SM E.EE (ι (fS (ys:=[]) (af:=[]) (.of eA rfl rfl rfl) (bD (jv 0)) (λC s H fp=>(AN (Ι (jv 0) υ) υ))) θ))) (μ (Ζ O7)) Τ)
   (η (ω 1 eA.nd (ae aU hr ν (Ο (jv 0) θ)))
   (η (ω 2 eA.nd (O9 E.AA (ι (fS (ys:=["bottom"]) (af:=[1]) (.of eA rfl rfl rfl) (bD (jv 0)) (λC s H fp=>(aI (Ι (jv 0) υ) (eV (jv 1) (Ι (jv 0) υ))))) θ)))
   (μ (Ζ (iR (S4 hr (jv 2) (jv 1)) (jV (AN (jv 1) (rX E.jM))))))))),λds M q x h=>?_⟩)
 ·have⟨cs,rfl,_⟩:=h;rfl
 ·have⟨cs,rfl,Fe,h⟩:=h;have⟨hz,hc⟩:=id Fe;have hz2:(cs.map Λ).length<=sizeLine:=by rw[aae];exact aax hz @_
  have⟨b0,b1⟩:=oV cs 1 0 @_ @_ λc h=>⟨(hc c h).1,(hc c h).2.1⟩;walk_at "vc";refine bC (i:=0) rfl rfl ⟨hz2,?_⟩;refine fG (f:=λd=>.bl (match d with| .tup [.int a,.int b]=>decide (a<=0)| _=>false)) trivial (λx hx q hq=>?_) ?_
  ·have⟨y,_,rfl⟩:=aai.mp hx;exact hq
  ·refine⟨cs.map λc=>decide (c.1<=0),by rw[aaN,aaW,aaN];rfl,λ_ z=>(nomatch z),λ_ z=>(nomatch z),?_⟩;have ea:(cs.map λc=>decide (c.1<=0)).any id=cs.any λc=>decide (c.1<=0):=by rw[List.any_map];rfl
   rw[ea];refine⟨λh1=>?_,λh1=>?_⟩
   ·have e:au cs=false:=by unfold au;rw[h1];rfl
    rw[<-e];exact h
   ·refine⟨cs,rfl,⟨(),λc h=>⟨(hc c h).1,(hc c h).2.1⟩⟩,?_⟩;walk_at "vc";refine bC (i:=0) rfl rfl ⟨hz2,?_⟩;refine fG (f:=λd=>.int (match d with| .tup [.int a,.int b]=>a * (aN cs / b)| _=>0)) trivial (λx hx q hq=>?_) ?_
    ·have⟨y,hy,rfl⟩:=aai.mp hx;have⟨y0,y1,y2⟩:=hc y hy;refine⟨⟨y0,Co (aag y0) y1 @_⟩,⟨bg y2,?_⟩,hq⟩;refine VD (k:=200 * (0+cs.length)) (acE (aag b0) (aag y0)) (abc (acv _ (aag b0)) b1) ()
    ·refine⟨cs.map λc=>c.1 * (aN cs / c.2),by rw[aaN,aaW,aaN];rfl,⟨_,_,rfl⟩,?_⟩;refine⟨λh2=>?_,λh2=>?_⟩
     ·have e:au cs=decide (aN cs<=1000000):=by unfold au;rw[h1,h2];rfl
      rw[e]at h;exact h
     ·have e:au cs=false:=by unfold au;rw[h1,h2];rfl
      rw[<-e];exact h
inductive Rw where
 | fin (p:Fr)
 | ο (k:Str) (ds:List bu)
def τ(d:bu):Fr:=d.2.2.headD (0,1)
def iz:Rw->Prop
 | .fin p=>0 < p.2
 | .ο k ds=>k≠"end"/\ds.length<=12/\(k="chance"->(∀d∈ds,d.2.2=[τ d])/\Q8 (ds.map τ))/\∀d∈ds,d.2.2.length<=1/\0 < d.2.1.2
def kO(M:Ms)(d:Dt):Rw->Prop
 | .fin p=>d= .tup [.str "end",Λ p]
 | .ο k ds=>∃e ok,d= .tup [.str k,e]/\j7 M e=some (ds.map cZ,ok)
def aL:Rw->Dt
 | .fin p=>.tup [.str "end",Λ p]
 | .ο k ds=>.tup [.str k,.lst (ds.map cZ)]
def Mo(M:Ms)(r:Rw):kO M (aL r) r:=by
 cases r with
 | fin p=>rfl
 | ο k ds=>exact⟨_,_,rfl,rfl⟩
def qh(p:Fr):(Λ p).under n:=⟨trivial,trivial,trivial⟩
def rf{n:Nat}:∀(ps:List Fr),Dt.bX n (ps.map Λ)
 | []=>trivial
 | p::ps=>⟨qh p,rf ps⟩
def RL(d:bu):(cZ d).under n:=⟨trivial,qh _,rf _⟩
def gM{n:Nat}:∀(ds:List bu),Dt.bX n (ds.map cZ)
 | []=>trivial
 | d::ds=>⟨RL d,gM ds⟩
def NT(r:Rw):(aL r).under n:=by
 cases r with
 | fin p=>exact⟨trivial,qh p,trivial⟩
 | ο k ds=>exact⟨trivial,gM ds,trivial⟩
def ow{n:Nat}:∀(rs:List Rw),Dt.bX n (rs.map aL)
 | []=>trivial
 | r::rs=>⟨NT r,ow rs⟩
def Γ(k:Str):Bool:=k=="one"|| k=="other"
def gI(r:Rw)(size:Int):Bool:=match r with
 | .fin p=>ba p
 | .ο k ds=>if Γ k then ar ds size else if k="chance" then ar ds size&&au (ds.map τ) else false
def Kd{j:Int}{ρ:En}{ok:Ms->Prop}{q:List Dt->(Ms->Prop)->Ms->Prop}{x:DX}(hv:ρ[i]? =some (some (.tup ds)))(hj:nY ds j=some d)(hl:j7 M d=some (xs,ok))(h:q xs ok M):ft (lT cI (CU i) (dC (.int j))) ρ M q x:=by unfold ft lT CU;rw[hv];show cI (.tup ds) (.int j) M (λd M1=>match qm M1 d with| some (xs,ok)=>q xs ok M1| none=>False);refine Η rfl hj ?_;show(match qm M d with| some (xs,ok)=>q xs ok M| none=>False);rw[AU hl];exact h
def oK{k:Str}:RG (.str k) [.str "one",.str "other"]=Γ k:=by show((("one":Str)==k)|| ((("other":Str)==k)|| false))=(k=="one"|| k=="other");rw[Bool.or_false,BEq.comm (a:=("one":Str)),BEq.comm (a:=("other":Str))]
def AQ:DF:=λas M q _=>∃d r size,as=[d,.int size]/\kO M d r/\iz r/\q (.bl (gI r size)) M
def p9:Ε ["row","size","kind"] ["row","size"] (χ si):=.of rfl
def BR   (F:dh K "fits_row" "fits_row" si f fd) (E:Ev K mg w Cm) {sI:Addr} {tj:FuncData} (gS:ax P w K mg base 1 "fits_pay" ["pay"] tM sI tj) {C3:Addr} {Di:FuncData} (iC:ax P w K mg base 3 "fits_doors" ["doors","size"] s_ C3 Di) {xS:Addr} {yi:FuncData} (iG:ax P w K mg base 3 "fits_chances" ["chances"] oO xS yi):aw P w K mg base (cw P w) 4 f fd ["row","size"] (c7 K AQ):=by
 refine F.dW p9 (λds M q x h=>?_) (λaW A outer s H E' hr=>⟨_,(η (ω 2 p9.nd (Ι (jv 0) υ))
   (η (aM (cD hr (jv 2) gP) (μ (Ζ (ae gS hr ν (ι (Ι (jv 0) υ) θ bQ)))) Τ)
   (η (aM (Dw (jv 2) (EN E.rP)) (μ (Ζ (ae iC hr ν (ι (Ι (jv 0) υ) (Ο (jv 1) θ) bQ)))) Τ)
   (η (aM (cD hr (jv 2) gP) (μ (Ζ (iR (ae iC hr ν (ι (Ι (jv 0) υ) (Ο (jv 1) θ) bQ)) (jV (ae iG hr ν (ι (fS (ys:=[]) (af:=[]) (.of p9 rfl rfl rfl) (bD (Ι (jv 0) υ)) (λC s H fp=>(Ι (jv 0) υ))) θ)))))) Τ)
   (μ (Ζ O7)))))),λds M q x h=>?_⟩)
 ·have⟨d,r,size,rfl,_⟩:=h;rfl
 ·have⟨d,r,size,rfl,ra,ro,h⟩:=h;cases r with
  | fin p=>
   have ra:d= .tup [.str "end",Λ p]:=ra;subst ra;exact⟨λ_=>⟨p,rfl,h⟩,nofun⟩
  | ο k ds=>
   have⟨e,ok,rfl,hl⟩:=ra;have⟨hk,hz,y8,_⟩:=ro;refine⟨λz=>aaP (aao z) hk,λ_=>?_⟩;refine⟨.str k,[.str "one",.str "other"],[.str "one",.str "other"],rfl,rfl,rfl,?_⟩;rw[oK];refine⟨λh1=>?_,λh1=>?_⟩
   ·refine⟨e,size,ds,ok,rfl,hl,(),?_⟩;have e1:gI (.ο k ds) size=ar ds size:=by show(if Γ k then _ else _)=_;rw[aaz h1]
    rw[<-e1];exact h
   ·have e1:gI (.ο k ds) size=if k="chance" then ar ds size&&au (ds.map τ) else false:=by show(if Γ k then _ else _)=_;rw[aaC (by rw[h1];decide)]
    rw[e1]at h;refine⟨λh2=>?_,λh2=>?_⟩
    ·have h2:k="chance":=aao h2;rw[aaz h2]at h;have⟨HD,Fe⟩:=y8 h2;refine⟨e,size,ds,ok,rfl,hl,(),λh3=>?_,λh3=>?_⟩
     ·rw[h3,Bool.true_and]at h;show ft _ _ _ _ _;refine Kd (i:=0) (j:=1) (ds:=[.str k,e]) rfl (ak (j:=1) rfl) hl ⟨by rw[aae];exact aax hz @_,?_⟩;refine fG (f:=λd=>match d with| .tup [_,_,c]=>c| _=>.bU) (rC hl) (λx hx q hq=>?_) ?_
      ·have⟨y,hy,rfl⟩:=aai.mp hx;have ey:cZ y= .tup [.int y.1,Λ y.2.1,Λ (τ y)]:=by unfold cZ;rw[HD y hy];rfl
       rw[ey]at hq⊢;exact hq
      ·refine⟨ds.map τ,?_,Fe,h⟩;rw[aaW,aaN,aaN];have:∀y∈ds,((λd=>match d with| Dt.tup [_,_,c]=>c| _=>Dt.bU) ∘ cZ) y=(Λ ∘ τ) y:=λy hy=>by
        have ey:cZ y= .tup [.int y.1,Λ y.2.1,Λ (τ y)]:=by unfold cZ;rw[HD y hy];rfl
        show(match cZ y with| Dt.tup [_,_,c]=>c| _=>Dt.bU)=Λ (τ y);rw[ey]
       rw[abm this]
     ·rw[h3,acH]at h;exact h
    ·have h2:k≠"chance":=aa4 h2;rw[aaC h2]at h;exact h
def sf:DF:=λas M q _=>∃d r,as=[d]/\kO M d r/\iz r/\match r with
 | .fin p=>q (.tup [.str "end",Λ p]) M
 | .ο k ds=>q (.tup [.str k,.loc M.length]) (M++[.lst (ds.map cZ)])
def zc:Ε ["row"] ["row"] (χ nA):=.of rfl
def w_(F:dh K "copied_row" "copied_row" nA f fd)(E:Ev K mg w Cm):aw P w K mg base (cw P w) 1 f fd ["row"] (c7 K sf):=by
 refine F.dW zc (λds M q x h=>?_) (λaW A outer s H E' hr=>⟨_,(η (aM (cD hr (Ι (jv 0) υ) gP) (μ (Ζ (c_ (ι (Ι (jv 0) υ) (ι (Ι (jv 0) υ) θ bQ) bQ)))) Τ)
   (μ (Ζ (c_ (ι (Ι (jv 0) υ) (ι (xR E.mU (ι (Ι (jv 0) υ) θ bQ)) θ aY) bQ))))),λds M q x h=>?_⟩)
 ·have⟨d,r,rfl,_⟩:=h;rfl
 ·have⟨d,r,rfl,ra,ro,h⟩:=h;cases r with
  | fin p=>
   have ra:d= .tup [.str "end",Λ p]:=ra;subst ra;exact⟨λ_=>⟨gV,h⟩,nofun⟩
  | ο k ds=>
   have⟨e,ok,rfl,hl⟩:=ra;refine⟨λz=>aaP (aao z) ro.1,λ_=>?_⟩;show(match mf M e with| some xs=>_| none=>False);rw[oH hl];exact⟨gV,h⟩
def ay(p:Fr):Bool:=decide (0<=p.1)&&(decide (p.1 < p.2)&&decide (p.2<=1000))
def tK:DF:=λas M q _=>∃p,as=[Λ p]/\q (.bl (ay p)) M
def Al:Ε ["share"] ["share"] (χ mQ):=.of rfl
def yy(F:dh K "fits_share" "fits_share" mQ f fd)(E:Ev K mg w Cm):aw P w K mg base (cw P w) 1 f fd ["share"] (c7 K tK):=by
 refine F.dW Al (λds M q x h=>?_) (λaW A outer s H E' hr=>⟨_,(μ (Ζ (iR (AN υ (Ι (jv 0) υ)) (iR (BV (Ι (jv 0) υ) (Ι (jv 0) υ)) (jV (AN (Ι (jv 0) υ) (rX E.gW))))))),λds M q x h=>?_⟩)
 ·have⟨p,rfl,_⟩:=h;rfl
 ·have⟨p,rfl,h⟩:=h;unfold ay at h;refine⟨λh1=>⟨λh2=>?_,λh2=>?_⟩,λh1=>?_⟩
  ·rw[show decide (0<=p.1)=true from h1,show decide (p.1 < p.2)=true from h2]at h;exact h
  ·rw[show decide (0<=p.1)=true from h1,show decide (p.1 < p.2)=false from h2]at h;exact h
  ·rw[show decide (0<=p.1)=false from h1]at h;exact h
def Of{c S:Int}(hb:b∣S)(hc:c∣S)(Oq:0 < b)(hc0:0 < c):b * c / g b c∣S/\b∣b * c / g b c/\c∣b * c / g b c:=by
 have e:b * c / g b c=(Int.lcm b c:Nat):=by
  have h:=Int.gcd_mul_lcm b c;have hg:0 < g b c:=zf ();have h2:((Int.gcd b c:Nat):Int) * ((Int.lcm b c:Nat):Int)=b * c:=by rw[<-Int.natCast_mul,h,Int.natCast_mul,abe (aag Oq),abe (aag hc0)]
  rw[<-h2];exact Int.mul_ediv_cancel_left _ (by unfold g at hg;omega)
 rw[e];exact⟨Int.coe_lcm_dvd hb hc,Int.dvd_lcm_left ..,Int.dvd_lcm_right ..⟩
def jh:∀(cs:List Fr) (b S:Int),0 < b->b∣S->(∀c∈cs,0 < c.2/\c.2∣S)->cs.foldl (λb c=>b * c.2 / g b c.2) b∣S/\b∣cs.foldl (λb c=>b * c.2 / g b c.2) b/\∀c∈cs,c.2∣cs.foldl (λb c=>b * c.2 / g b c.2) b
 | [],b,S,_,h,_=>⟨h,Int.dvd_refl b,λc hc=>nomatch hc⟩
 | c::cs,b,S,h0,h,hc=>by
  have⟨c0,cS⟩:=hc c aad;have⟨d1,d2,d3⟩:=Of h cS h0 c0;have⟨i1,i2,i3⟩:=jh cs _ S (n_ h0 c0).1 d1 λx hx=>hc x (aac _ hx);rw[abE];refine⟨i1,Int.dvd_trans d2 i2,λx hx=>?_⟩;rcases aaL.mp hx with rfl| hx
  ·exact Int.dvd_trans d3 i2
  ·exact i3 x hx
def qA(m:Int)(f:Int->Int):∀(ws:List Int),(ws.map λw=>m * f w).sum=m * (ws.map f).sum
 | []=>by simp
 | w::ws=>by simp only[List.map_cons,List.sum_cons];rw[qA m f ws,Int.mul_add]
def Jd(h:0 < b):(aD t b).2∣b:=by have⟨p,q,e,_,_,_,eb⟩:=gQ (t:=t) (show b≠0 by omega);rw[e];exact⟨dv t b,by show b=q * dv t b;rw[aa0];exact eb⟩
def zu(ht:0 < t)(h:0 < b):0 < (aD t b).1:=by have hc:=cQ (t:=t) (show b≠0 by omega);have hp:=bJ (t:=t) (show b≠0 by omega);have h1:0 < t * (aD t b).2:=aap ht hp;rw[hc]at h1;exact Int.pos_of_mul_pos_right h1 h|> λz=>z
def Cu{ws:List Int}{S:Int}(hS:ws.sum=S)(hw:∀w∈ws,0 < w)(hn:ws≠[])(hS1:S<=1000000)(hz:ws.length<=12):au (ws.map λw=>aD w S)=true/\Q8 (ws.map λw=>aD w S):=by
 have pos:∀{l:List Int},(∀w∈l,0 < w)->0<=l.sum/\(l≠[]->0 < l.sum)/\∀w∈l,w<=l.sum:=by
  intro l
  induction l with
  | nil=>exactλ_=>⟨by simp,λz=>absurd rfl z,λw hw=>nomatch hw⟩
  | cons a l ih=>
   intro h;have⟨i1,i2,i3⟩:=ih λw hw=>h w (aac _ hw);have:=h a aad;rw[List.sum_cons];refine⟨(),λ_=>(),λw hw=>?_⟩;rcases aaL.mp hw with rfl| hw
   ·omega
   ·have:=i3 w hw;omega
 have⟨_,p2,p3⟩:=pos hw;have S0:0 < S:=by rw[<-hS];exact p2 hn
 have Sm:S≠0:=()
 have hd:∀c∈ws.map (λw=>aD w S),0 < c.2/\c.2∣S:=λc hc=>by have⟨w,_,rfl⟩:=aai.mp hc;exact⟨bJ Sm,Jd S0⟩
 have⟨⟨m,hm⟩,_,hB⟩:=jh (ws.map λw=>aD w S) 1 S @_ (Int.one_dvd _) hd;have B0:0 < aN (ws.map λw=>aD w S):=by refine(fN (ws.map λw=>aD w S) 1 @_ λc hc=>(hd c hc).1)
 generalize ZP:aN (ws.map λw=>aD w S)=B at *
 have hm:S=B * m:=by rw[<-ZP];exact hm
 have m0:0 < m:=by
  rcases Int.lt_trichotomy m 0 with h| h| h
  ·have:=ab0 B0 h;omega
  ·rw[h,Int.mul_zero]at hm;omega
  ·exact h
 have key:((ws.map λw=>aD w S).map λc=>c.1 * (B / c.2)).sum=B:=by
  have e1:∀w∈ws,m * ((aD w S).1 * (B / (aD w S).2))=w:=λw hw=>by
   have hb:(aD w S).2∣B:=by rw[<-ZP];exact hB _ (aai.mpr ⟨w,hw,rfl⟩)
   have⟨k,hk⟩:=hb;have q0:=bJ (t:=w) Sm;have e2:B / (aD w S).2=k:=by rw[hk];exact abC _ ()
   have hc:=cQ (t:=w) Sm;rw[e2];have hS':S=(aD w S).2 * k * m:=by rw[<-hk];exact hm
   generalize (aD w S).1=x at *
   generalize (aD w S).2=y at *
   have e4:S * x=y * (m * (x * k)):=by rw[hS'];simp only[Int.mul_assoc,Int.mul_comm,Int.mul_left_comm]
   have e3:y * (m * (x * k))=y * w:=by rw[<-e4,<-hc,aa0]
   exact aaX () e3
  have e5:m * ((ws.map λw=>aD w S).map λc=>c.1 * (B / c.2)).sum=m * B:=by rw[aaN];show m * (ws.map λw=>(aD w S).1 * (B / (aD w S).2)).sum=m * B;rw[<-qA,abm e1,List.map_id',hS,hm,aa0]
  exact aaX () e5
 refine⟨?_,⟨by rw[aae];exact hz,λc hc=>?_⟩⟩
 ·unfold au;rw[ZP,key];have ha:((ws.map λw=>aD w S).any λc=>decide (c.1<=0))=false:=by rw[List.any_eq_false];intro c hc;have⟨w,VY,rfl⟩:=aai.mp hc;have:=zu (hw w VY) S0;simpa using this
  have hle:B<=S:=by have:=aaA (show 1<=m by omega) (aag B0);rw[abR,<-hm]at this;exact this
  rw[ha,aaI rfl,aaI (show B<=1000000 by omega)];rfl
 ·have⟨w,VY,rfl⟩:=aai.mp hc;have q0:=bJ (t:=w) Sm;have l1:=uq (t:=w) Sm;have l2:=i7 (t:=w) Sm;have:=p3 w VY;have w0:=hw w VY;have big:(1000000:Int) < 2 ^ 200:=@_
  have adw:1000000 < 2 ^ 200:=@_
  exact⟨q0,(),()⟩
def dt{α:Type}{te:DE}{cs:En}{ok:Ms->Prop}{F:Dt->α->Prop}{f:α->Dt}{M:Ms}{k:List Dt->Ms->Prop}(ho:ok M)(ht:∀x a,F x a->∀q:DQ,q (f a) M->te (some x::cs) M q l_):∀{xs:List Dt} {as:List α} {Θ:List Dt},Paired F xs as->k (Θ++as.map f) M->wF te cs ok xs Θ M k
 | _,_,Θ,.nil,h=>⟨ho,by simpa using h⟩
 | _,_,Θ,.cons r t,h=>⟨ho,ht _ _ r _ (dt ho ht t (by simpa using h))⟩
def zm{k:Nat}{C C':Addr}{ns ns':List Str}{xs':List Dt}{e:Dt}{ys:List Dt}{ok:Ms->Prop}(hk:M[k]? =some (.ins C ns xs))(h:j7 M e=some (ys,ok)):j7 (M.set k (.ins C' ns' xs')) e=some (ys,ok):=by
 cases e with
 | lst ds=>exact h
 | ir ns=>exact h
 | loc j=>
  have h:(match M[j]? with| some (.lst xs)=>some (xs,λM':Ms=>M'[j]? =some (.lst xs))| _=>none)=some (ys,ok):=h;have ne:k≠j:=λz=>by subst z;rw[hk]at h;cases h
  show(match (M.set k (.ins C' ns' xs'))[j]? with| some (.lst xs)=>some (xs,λM':Ms=>M'[j]? =some (.lst xs))| _=>none)=some (ys,ok);rw[abO ne];exact h
 | _=>cases h
def Gp{k:Nat}{C C':Addr}{ns ns':List Str}{xs':List Dt}{r:Rw}(hk:M[k]? =some (.ins C ns xs))(h:kO M d r):kO (M.set k (.ins C' ns' xs')) d r:=by
 cases r with
 | fin p=>exact h
 | ο k' ds=>
  have⟨e,ok,h1,h2⟩:=h;exact⟨e,ok,h1,zm hk h2⟩
def ao(C:Addr)(ε:Fr)(γ:List Rw):Dt:=.obj C ["kept_share","kept_rows"] [Λ ε,.lst (γ.map aL)]
def OX(Cm:Addr):DF:=λas M q _=>∃k d ε ds γ ok,as=[.loc k,Λ ε,d]/\M[k]? =some (.ins Cm [] [])/\j7 M d=some (ds,ok)/\Paired (kO M) ds γ/\ay ε=true/\1<=γ.length/\γ.length<=12/\
 (∀r∈γ,iz r/\gI r γ.length=true)/\q .bU (M.set k (.ins Cm ["kept_share","kept_rows"] [Λ ε,.lst (γ.map aL)]))
def iD:Ε ["self","share","rows","place","row"] ["self","share","rows"] (χ nj):=.of rfl
def xV(F:dh K "__init__" "Floor.__init__" nj f fd)(E:Ev K mg w Cm){Dh:Addr}{DD:FuncData}(kH:ax P w K mg base 1 "fits_share" ["share"] tK Dh DD){Ln:Addr}{Iu:FuncData}(qb:ax P w K mg base 4 "fits_row" ["row","size"] AQ Ln Iu){By:Addr}{C7:FuncData}(kJ:ax P w K mg base 1 "copied_row" ["row"] sf By C7):aw P w K mg base (cw P w) 5 f fd ["self","share","rows"] (c7 K (OX Cm)):=by
 refine F.dW iD (λds M q x h=>?_) (λaW A outer s H E' hr=>⟨_,(η (aM (BA (jE (ae kH hr ν (Ο (jv 1) θ)))) (μ gf) Τ)
   (η (aM (JW.jt (El (vV (dU E.cG (Ο (jv 2) θ)) υ) (xB (Ft (dU E.cG (Ο (jv 2) θ)) (rX E.oy))))) (μ gf) Τ)
   (η (dR (yL E.eW (Ο (jv 2) θ)) (jZ rfl (aV (av (i:=3) iD.nd rfl (Or.inl rfl)) (aV (av (i:=4) iD.nd rfl (Or.inl rfl)) gO))) lG (μ (aM (BA (jE (ae qb hr ν (Ο (jv 4) (ι (dU E.cG (Ο (jv 2) θ)) θ aY))))) (μ gf) Τ)))
   (η (Ed E.d9 E.fQ (jv 0) (jv 1))
   (μ (Ed E.d9 E.cR (jv 0) (fS (ys:=[]) (af:=[]) (.of iD rfl rfl rfl) (bD (jv 2)) (λC s H fp=>(dc (ae kJ hr (fW (P:=P) (w:=w)) (Ο (jv 0) θ))))))))))),λds M q x h=>?_⟩)
 ·have⟨k,d,ε,ds,γ,ok,rfl,_⟩:=h;rfl
 ·have⟨k,d,ε,ds,γ,ok,rfl,hk,hl,hp,hs,h1,h12,qI,h⟩:=h;have hlen:ds.length=γ.length:=Paired.length hp;walk_at "vc";refine⟨ε,rfl,λz=>?_,λ_=>?_⟩
  ·rw[hs]at z;exact nomatch z
  have W7:=oH hl;refine aO W7 ⟨λz=>?_,λ_=>?_⟩
  ·have:(ds.length:Int) < 1:=by simpa using z
   omega
  refine aO W7 ⟨λz=>?_,λ_=>?_⟩
  ·have:12 < (ds.length:Int):=by simpa using z
   omega
  refine⟨d,ds,ok,rfl,hl,?_⟩;refine cf (λxs ρ M'=>M'=M/\∃n qx E7 a b,xs=jo n qx/\Paired (kO M) qx E7/\(∀r∈E7,r∈γ)/\ρ=[some (.loc k),some (Λ ε),some d,a,b]) (λxs ρ M' hj=>by have⟨rfl,_⟩:=hj;exact rC hl) (λx xs ρ M' hj gT=>?_) (λρ M' hj=>?_) _ _ _ ⟨rfl,0,ds,γ,none,none,rfl,hp,λ_ h=>h,rfl⟩
  ·have⟨rfl,n,qx,E7,a,b,ex,D8,VR,rfl⟩:=hj;cases D8 with
   | nil=>cases ex
   | cons ra t=>
    rename_i d1 r1 ds1 TR;cases ex;refine aO W7 ⟨d1,r1,ds.length,rfl,ra,(qI r1 (VR r1 aad)).1,λz=>?_,λ_=>?_⟩
    ·rw[hlen,(qI r1 (VR r1 aad)).2]at z;exact nomatch z
    ·exact gT _ _ ⟨rfl,n+1,ds1,TR,_,_,rfl,t,λr hr=>VR r (aac _ hr),rfl⟩
  ·have⟨rfl,n,qx,E7,a,b,ex,D8,VR,rfl⟩:=hj;have hkl:k < M'.length:=(aaf.mp hk).1;refine⟨k,[],[],rfl,hk,(nofun),@_,?_⟩;have Yp:=zm (C':=Cm) (ns':=["kept_share"]) (xs':=[Λ ε]) hk hl;dsimp only[Oy,List.nil_append];show ft _ _ _ _ _;refine bC (i:=2) rfl Yp ⟨by rw[hlen];exact aax h12 @_,?_⟩;have X6:Paired (λx a=>kO (M'.set k (.ins Cm ["kept_share"] [Λ ε])) x a/\iz a) ds γ:=by
    have:∀{xs:List Dt} {rs:List Rw},Paired (kO M') xs rs->(∀r∈rs,iz r)->Paired (λx a=>kO (M'.set k (.ins Cm ["kept_share"] [Λ ε])) x a/\iz a) xs rs:=by
     intro xs rs hp
     induction hp with
     | nil=>exactλ_=>.nil
     | cons r t ih=>exactλh=>.cons ⟨Gp hk r,h _ aad⟩ (ih λy hy=>h y (aac _ hy))
    exact this hp λr hr=>(qI r hr).1
   refine dt (f:=aL) (rC Yp) (λx a ha q' hq=>?ht) X6 ?fin
   case ht=>
    have⟨ha,ho⟩:=ha;refine⟨x,a,rfl,ha,ho,?_⟩;cases a with
    | fin p=>exact MG ⟨trivial,qh p,trivial⟩ hq
    | ο k2 Bl=>exact mG (.tup (.cons (.old trivial) (.cons (.Jj (Nat.le_refl _) (by simp) (jB.old (gM Bl))) .nil))) hq
   case fin=>
    refine⟨k,["kept_share"],[Λ ε],rfl,by rw[abo hkl],@_,@_,?_⟩;rw[List.set_set];exact h
def kindOf:Rw->Str
 | .fin _=>"end"
 | .ο k _=>k
def Ν:Rw->List bu
 | .fin _=>[]
 | .ο _ ds=>ds
def UJ:Rw->Dt
 | .fin p=>Λ p
 | .ο _ _=>.bU
def jN{γ:List Rw}{r:Rw}(h:γ[i]? =some r):(γ.map aL)[i]? =some (aL r):=by rw[aar,h];rfl
def Po{r:Rw}:∃e,aL r= .tup [.str (kindOf r),e]:=by
 cases r with
 | fin p=>exact⟨_,rfl⟩
 | ο k ds=>exact⟨_,rfl⟩
def Bm(C:Addr):DF:=λas M q _=>∃ε γ,as=[ao C ε γ]/\q (.int γ.length) M
def zI:Ε ["self"] ["self"] (χ mN):=.of rfl
def xr(F:dh K "size" "Floor.size" mN f fd)(E:Ev K mg w Cm):aw P w K mg base (cw P w) 1 f fd ["self"] (c7 K (Bm Cm)):=by
 refine F.dW zI (λds M q x h=>?_) (λaW A outer s H E' hr=>⟨_,(μ (Ζ (dU E.cG (ι (sk E.d9 E.cR (jv 0)) θ)))),λds M q x h=>?_⟩)
 ·have⟨ε,γ,rfl,_⟩:=h;rfl
 ·have⟨ε,γ,rfl,h⟩:=h;refine⟨_,_,_,.inl rfl,rfl,?_⟩;show iL [.lst (γ.map aL)] M _;refine aO (xs:=γ.map aL) rfl ?_;rw[aae];exact h
def DG(C:Addr):DF:=λas M q _=>∃ε γ,as=[ao C ε γ]/\q (Λ ε) M
def x6:Ε ["self"] ["self"] (χ lC):=.of rfl
def uM(F:dh K "share" "Floor.share" lC f fd)(E:Ev K mg w Cm):aw P w K mg base (cw P w) 1 f fd ["self"] (c7 K (DG Cm)):=by
 refine F.dW x6 (λds M q x h=>?_) (λaW A outer s H E' hr=>⟨_,(μ (Ζ (sk E.d9 E.fQ (jv 0)))),λds M q x h=>?_⟩)
 ·have⟨ε,γ,rfl,_⟩:=h;rfl
 ·have⟨ε,γ,rfl,h⟩:=h;exact⟨_,_,_,.inl rfl,rfl,h⟩
def lu(C:Addr):DF:=λas M q _=>∃ε γ i r,as=[ao C ε γ,.int (i:Nat)]/\γ[i]? =some r/\q (.str (kindOf r)) M
def A2:Ε ["self","place"] ["self","place"] (χ mJ):=.of rfl
def yc(F:dh K "kind" "Floor.kind" mJ f fd)(E:Ev K mg w Cm):aw P w K mg base (cw P w) 1 f fd ["self","place"] (c7 K (lu Cm)):=by
 refine F.dW A2 (λds M q x h=>?_) (λaW A outer s H E' hr=>⟨_,(μ (Ζ (Ι (Ι (sk E.d9 E.cR (jv 0)) (jv 1)) υ))),λds M q x h=>?_⟩)
 ·have⟨ε,γ,i,r,rfl,_⟩:=h;rfl
 ·have⟨ε,γ,i,r,rfl,hi,h⟩:=h;refine⟨_,_,_,.inl rfl,rfl,?_⟩;walk_at "vc";refine Η (xs:=γ.map aL) rfl (ak (jN hi)) ?_;have⟨e,er⟩:=Po (r:=r);rw[er];exact h
def mz(C:Addr):DF:=λas M q _=>∃ε γ i r,as=[ao C ε γ,.int (i:Nat)]/\γ[i]? =some r/\iz r/\q (.loc M.length) (M++[.lst ((Ν r).map cZ)])
def xY:Ε ["self","place"] ["self","place"] (χ kI):=.of rfl
def uN(F:dh K "doors" "Floor.doors" kI f fd)(E:Ev K mg w Cm)(Κ:cy P w K mg base 1 Cm "kind" ["self","place"] (lu Cm) aB aC):aw P w K mg base (cw P w) 2 f fd ["self","place"] (c7 K (mz Cm)):=by
 refine F.dW xY (λds M q x h=>?_) (λaW A outer s H E' hr=>⟨_,(η (aM (cD hr (a_ Κ hr ν (jv 0) (Ο (jv 1) θ)) gP) (μ (Ζ (kG θ))) Τ)
   (μ (Ζ (xR E.mU (ι (Ι (Ι (sk E.d9 E.cR (jv 0)) (jv 1)) υ) θ bQ))))),λds M q x h=>?_⟩)
 ·have⟨ε,γ,i,r,rfl,_⟩:=h;rfl
 ·have⟨ε,γ,i,r,rfl,hi,ro,h⟩:=h;refine⟨⟨_,_,.inl rfl,rfl⟩,ε,γ,i,r,rfl,hi,?_⟩;cases r with
  | fin p=>exact⟨λ_=>⟨@_,h⟩,nofun⟩
  | ο k ds=>
   refine⟨λz=>aaP (aao z) ro.1,λ_=>?_⟩;refine⟨_,_,_,.inl rfl,rfl,?_⟩;walk_at "vc";refine Η (xs:=γ.map aL) rfl (ak (jN hi)) ?_;exact h
def ME(C:Addr):DF:=λas M q _=>∃ε γ i r,as=[ao C ε γ,.int (i:Nat)]/\γ[i]? =some r/\iz r/\q (UJ r) M
def DN:Ε ["self","place"] ["self","place"] (χ oY):=.of rfl
def zC(F:dh K "pay" "Floor.pay" oY f fd)(E:Ev K mg w Cm)(Κ:cy P w K mg base 1 Cm "kind" ["self","place"] (lu Cm) aB aC):aw P w K mg base (cw P w) 2 f fd ["self","place"] (c7 K (ME Cm)):=by
 refine F.dW DN (λds M q x h=>?_) (λaW A outer s H E' hr=>⟨_,(η (aM (cD hr (a_ Κ hr ν (jv 0) (Ο (jv 1) θ)) gP) (μ (Ζ (Ι (Ι (sk E.d9 E.cR (jv 0)) (jv 1)) υ))) Τ)
   (μ (Ζ MN))),λds M q x h=>?_⟩)
 ·have⟨ε,γ,i,r,rfl,_⟩:=h;rfl
 ·have⟨ε,γ,i,r,rfl,hi,ro,h⟩:=h;refine⟨⟨_,_,.inl rfl,rfl⟩,ε,γ,i,r,rfl,hi,?_⟩;cases r with
  | fin p=>
   refine⟨λ_=>?_,nofun⟩;refine⟨_,_,_,.inl rfl,rfl,?_⟩;walk_at "vc";refine Η (xs:=γ.map aL) rfl (ak (jN hi)) ?_;exact h
  | ο k ds=>exact⟨λz=>aaP (aao z) ro.1,λ_=>h⟩
def ig{α:Type}(f:α->Dt):∀(xs ys:List α),(∀x∈xs,x∈ys)->Paired (λx a=>x=f a/\a∈ys) (xs.map f) xs
 | [],_,_=>.nil
 | x::xs,ys,h=>.cons ⟨rfl,h x aad⟩ (ig f xs ys λy hy=>h y (aac _ hy))
def dX{q:DQ}(u:Dt.bX M.length ds)(h:q (.lst ds) M):r_ M q (.loc M.length) (M++[.lst ds]):=mG (.Jj (aaj _) (by rw[acz];rfl) (jB.old u)) h
def Nv{q:DQ}(u:Dt.bX M.length ds)(h:q (.lst ds) M):zK [.lst ds] M (r_ M q):=by show r_ M q (.loc M.length) (M++[.lst ds]);exact dX u h
def KW{d:bu}{q:DQ}(h:q (Λ d.2.1) M):cI (cZ d) (.int 1) M q:=Η (xs:=.int d.1::Λ d.2.1::d.2.2.map Λ) rfl (ak (j:=1) rfl) h
def Fc{d:bu}{q:DQ}(h:q (.int d.1) M):cI (cZ d) (.int 0) M q:=Η (xs:=.int d.1::Λ d.2.1::d.2.2.map Λ) rfl bP h
def Uu{k:Str}{e:Dt}{q:DQ}(h:q e M):cI (.tup [.str k,e]) (.int 1) M q:=Η (xs:=[.str k,e]) rfl (ak (j:=1) rfl) h
def gw{g:Dt->En->(En->Prop)->Prop}{tb:DS}{Dn:k_}(J:List Dt->En->Ms->Prop)
  (step:∀x xs ρ M,J (x::xs) ρ M->(∀ρ M,J xs ρ M->yA g tb Dn xs ρ M)->g x ρ λρ'=>tb {Dn with nx:=yA g tb Dn xs,ct:=yA g tb Dn xs,bk:=Dn.nx} ρ' M)
  (fin:∀ρ M,J [] ρ M->Dn.nx ρ M):∀(xs:List Dt) (ρ:En) (M:Ms),J xs ρ M->yA g tb Dn xs ρ M
 | [],ρ,M,h=>fin _ _ h
 | x::xs,ρ,M,h=>step x xs ρ M h λρ' M' h'=>gw J step fin xs ρ' M' h'
def fF{x:Dt}(h:x::xs=e6 lo n):∃m,n=m+1/\x= .int lo/\xs=e6 (lo+1) m:=by
 cases n with
 | zero=>exact nomatch h
 | succ m=>
  unfold e6 at h;rw[abU,aaQ,aaN]at h;cases h;refine⟨m,rfl,by simp,?_⟩;unfold e6;apply abm;intro k _;show Dt.int (lo+((k+1:Nat):Int))=Dt.int (lo+1+(k:Int))
  congr 1
  omega
def k7{x:Dt}(h:x∈e6 lo n):∃k:Nat,k < n/\x= .int (lo+k):=by unfold e6 at h;have⟨k,hk,rfl⟩:=aai.mp h;exact⟨k,abu.mp hk,rfl⟩
def gs:(e6 lo n).length=n:=by unfold e6;simp
def nC{α:Type}{te:DE}{cs:En}{M:Ms}{f:α->Dt}(G:α->Prop){k:List Dt->Ms->Prop}:∀(xs:List Dt) (Θ:List α),(∀a∈Θ,G a)->(∀x∈xs,∀q:DQ,(∀a,G a->q (f a) M)->te (some x::cs) M q l_)->
  (∀as:List α,as.length=Θ.length+xs.length->(∀a∈as,G a)->k (as.map f) M)->vO te cs xs (Θ.map f) M k
 | [],Θ,ha,_,h=>h Θ (by simp) ha
 | x::xs,Θ,ha,ht,h=>ht x aad _ λa hg=>by
  have e:Θ.map f++[f a]=(Θ++[a]).map f:=by simp
  rw[e];refine nC G xs (Θ++[a]) (λb hb=>?_) (λy hy=>ht y (List.mem_cons_of_mem _ hy)) λas hl hg'=>h as (by rw[hl];simp;omega) hg';rcases aaV.mp hb with hb| hb
  ·exact ha b hb
  ·have:b=a:=by simpa using hb
   rw[this];exact hg
def xN{n:Nat}:∀(xs:List Int),Dt.bX n (xs.map Dt.int)
 | []=>trivial
 | _::xs=>⟨trivial,xN xs⟩
def Jm{m:Int}:∀{l:List Int},(∀w∈l,w<=m)->l.sum<=l.length * m
 | [],_=>by simp
 | a::l,h=>by have i:=Jm (l:=l) λw hw=>h w (aac _ hw);have:=h a aad;rw[List.sum_cons,aau,Int.natCast_add,Int.add_mul];omega
def qW(eQ:Int)(r:Rw):Prop:=iz r/\gI r eQ=true
def N_{k:Str}{ds:List bu}{eQ:Int}(hk:Γ k=true)(hz:1<=ds.length)(ZE:ds.length<=6)(hd:∀d∈ds,aQ d.1 d.2.1 eQ=true)(hs:∀d∈ds,d.2.2=[]/\0 < d.2.1.2):qW eQ (.ο k ds):=by
 have fd:ar ds eQ=true:=by unfold ar;rw[aaI hz,aaI ZE,List.all_eq_true.mpr hd];rfl
 have ne:k≠"end"/\k≠"chance":=by refine⟨λz=>?_,λz=>?_⟩ <;> (subst z;exact aaP hk @_)
 refine⟨⟨ne.1,(),λz=>aaP z ne.2,λd h=>⟨by rw[(hs d h).1];exact ab4 _,(hs d h).2⟩⟩,?_⟩;show(if Γ k then _ else _)=true;rw[aaz hk];exact fd
def Hf{ds:List bu}{eQ:Int}(hz:1<=ds.length)(ZE:ds.length<=6)(hd:∀d∈ds,aQ d.1 d.2.1 eQ=true)(h1:∀d∈ds,d.2.2=[τ d])(hc:au (ds.map τ)=true)(ho:Q8 (ds.map τ))(hp:∀d∈ds,0 < d.2.1.2):qW eQ (.ο "chance" ds):=by
 have fd:ar ds eQ=true:=by unfold ar;rw[aaI hz,aaI ZE,List.all_eq_true.mpr hd];rfl
 refine⟨⟨@_,(),λ_=>⟨h1,ho⟩,λd h=>⟨by rw[h1 d h];exact aaj _,hp d h⟩⟩,?_⟩;have e:gI (.ο "chance" ds) eQ=(ar ds eQ&&au (ds.map τ)):=by dsimp only[gI];rw[aaC @_,aaz rfl]
 rw[e,fd,hc];rfl
def M9{eQ:Int}{p:Fr}(h0:0<=t)(h1:t < eQ)(hp:ba p=true):aQ t p eQ=true:=by unfold aQ;rw[aaI h0,aaI h1,hp];rfl
def Ob{m:Nat}(h1:1<=m)(h6:m<=6):0 < (1000000:Int) / m/\(m:Int) * (1000000 / m)<=1000000:=by
 have:m=1\/m=2\/m=3\/m=4\/m=5\/m=6:=()
 rcases this with rfl| rfl| rfl| rfl| rfl| rfl <;> decide
def j8{xs:List Int}(h:j < xs.length):nY (xs.map Dt.int) (j:Int)=some (.int xs[j]):=ak (by rw[aar,aaa h];rfl)
def D6:∀{l:List Int},(∀w∈l,0 < w)->l≠[]->0 < l.sum
 | [],_,z=>aaP rfl z
 | [a],h,_=>by have:=h a List.mem_cons_self;simpa using this
 | a::b::l,h,_=>by have i:=D6 (l:=b::l) (λw hw=>h w (List.mem_cons_of_mem _ hw)) (by simp);have:=h a aad;rw[List.sum_cons];omega
def Sz(k:Nat)(p:Fr):Prop:=p.1.natAbs < 2 ^ k/\0 < p.2/\p.2.natAbs < 2 ^ k
def dq(p q:Fr):Fr:=aD (p.1 * q.2+q.1 * p.2) (p.2 * q.2)
def aq(p q:Fr):Fr:=aD (p.1 * q.1) (p.2 * q.2)
def dG(p q:Fr):Bool:=decide (p.1 * q.2 < q.1 * p.2)
def j4{k k':Nat}{p:Fr}(h:Sz k p)(hk:k<=k'):Sz k' p:=
 ⟨aat h.1 (abd @_ hk),h.2.1,aat h.2.2 (abd @_ hk)⟩
def cj{a b k:Nat}(h:a < 2 ^ k)(h':b < 2 ^ l):a * b < 2 ^ (k+l):=by rw[Nat.pow_add];exact Nat.mul_lt_mul'' h h'
def Em{k:Nat}(hb:0 < b)(h1:t.natAbs < 2 ^ k)(h2:b.natAbs < 2 ^ k):Sz k (aD t b):=
 ⟨aa3 (uq ()) h1,bJ (),aa3 (i7 ()) h2⟩
def wu{p q:Fr}{k:Nat}(hp:Sz k p)(hq:Sz l q):(p.1 * q.2+q.1 * p.2).natAbs < 2 ^ (k+l+1)/\(p.2 * q.2).natAbs < 2 ^ (k+l+1)/\0 < p.2 * q.2:=by
 have a:=cj hp.1 hq.2.2;have b:=cj hq.1 hp.2.2;have c:=cj hp.2.2 hq.2.2;rw[Nat.add_comm l k]at b;have e:(2:Nat) ^ (k+l+1)=2 ^ (k+l)+2 ^ (k+l):=by rw[Nat.pow_succ];omega
 have hn:=Int.natAbs_add_le (p.1 * q.2) (q.1 * p.2);rw[abi,abi]at hn;refine⟨by rw[e];omega,?_,aap hp.2.1 hq.2.1⟩;rw[abi,e];omega
def N2{p q:Fr}{k:Nat}(hp:Sz k p)(hq:Sz l q):Sz (k+l+1) (dq p q):=
 let ⟨a,b,c⟩:=wu hp hq
 Em c a b
def uf{p q:Fr}{k:Nat}(hp:Sz k p)(hq:Sz l q):(p.1 * q.1).natAbs < 2 ^ (k+l)/\(p.2 * q.2).natAbs < 2 ^ (k+l)/\0 < p.2 * q.2:=by have a:=cj hp.1 hq.1;have c:=cj hp.2.2 hq.2.2;exact⟨by rw[abi];exact a,by rw[abi];exact c,aap hp.2.1 hq.2.1⟩
def oG{p q:Fr}{k:Nat}(hp:Sz k p)(hq:Sz l q):Sz (k+l) (aq p q):=
 let ⟨a,b,c⟩:=uf hp hq
 Em c a b
def gK{p:Fr}{k:Nat}(h:Sz k p)(hk:k<=8000):g7 p.1:=bg h.1 hk
def dQ{p:Fr}{k:Nat}(h:Sz k p)(hk:k<=8000):g7 p.2:=bg h.2.2 hk
def BI{p:Fr}(h:ba p=true)(h0:0 < p.2):Sz 101 p:=by
 unfold ba at h;rw[aav,aam,aam]at h;have⟨h1,h2⟩:=h;have e1:(10:Int) ^ 30 < 2 ^ 101:=@_
 have n1:(p.1.natAbs:Int)<=10 ^ 30:=by split at h1 <;> omega
 refine⟨?_,h0,?_⟩
 ·have:(p.1.natAbs:Int) < ((2 ^ 101:Nat):Int):=aaE n1 @_;exact abG.mp this
 ·have:(p.2.natAbs:Int) < ((2 ^ 101:Nat):Int):=aaE (show(p.2.natAbs:Int)<=1000000 by omega) @_;exact abG.mp this
def ip{p:Fr}(h:ay p=true):Sz 11 p:=by unfold ay at h;rw[aav,aav,aam,aam,aam]at h;have⟨h1,h2,h3⟩:=h;exact⟨(),(),()⟩
def jr{p:Fr}{q:DQ}(h:q (.int p.1) M):cI (Λ p) (.int 0) M q:=Η (xs:=[.int p.1,.int p.2]) rfl bP h
def gc{p:Fr}{q:DQ}(h:q (.int p.2) M):cI (Λ p) (.int 1) M q:=Η (xs:=[.int p.1,.int p.2]) rfl (ak (j:=1) rfl) h
def Eu:DF:=λas M q _=>∃p r k l,as=[Λ p,Λ r]/\Sz k p/\Sz l r/\k+l+1<=8000/\q (Λ (dq p r)) M
def Rq:Ε ["one","other"] ["one","other"] (χ Jv):=.of rfl
def NG(F:dh K "plus" "plus" Jv f fd)(E:Ev K mg w Cm)(bF:ax P w K mg base 2 "fraction" ["top","bottom"] rH fJ fK):aw P w K mg base (cw P w) 3 f fd ["one","other"] (c7 K Eu):=by
 refine F.dW Rq (λds M q x h=>?_) (λaW A outer s H E' hr=>⟨_,(μ (Ζ (ae bF hr ν (ι (bA (aI (Ι (jv 0) υ) (Ι (jv 1) υ)) (aI (Ι (jv 1) υ) (Ι (jv 0) υ))) (ι (aI (Ι (jv 0) υ) (Ι (jv 1) υ)) θ bb) bb)))),λds M q x h=>?_⟩)
 ·have⟨p,r,k,l,rfl,_⟩:=h;rfl
 ·have⟨p,r,k,l,rfl,hp,lY,hk,h⟩:=h;have⟨a,b,c⟩:=wu hp lY;refine⟨⟨gK hp (),dQ lY ()⟩,⟨gK lY (),dQ hp ()⟩,⟨dQ hp (),dQ lY ()⟩,bg b hk,λz=>aaP z (),λ_=>h⟩
def tT:DF:=λas M q _=>∃p r k l,as=[Λ p,Λ r]/\Sz k p/\Sz l r/\k+l+1<=8000/\q (Λ (aq p r)) M
def Nl:Ε ["one","other"] ["one","other"] (χ DB):=.of rfl
def Lj(F:dh K "times" "times" DB f fd)(E:Ev K mg w Cm)(bF:ax P w K mg base 2 "fraction" ["top","bottom"] rH fJ fK):aw P w K mg base (cw P w) 3 f fd ["one","other"] (c7 K tT):=by
 refine F.dW Nl (λds M q x h=>?_) (λaW A outer s H E' hr=>⟨_,(μ (Ζ (ae bF hr ν (ι (aI (Ι (jv 0) υ) (Ι (jv 1) υ)) (ι (aI (Ι (jv 0) υ) (Ι (jv 1) υ)) θ bb) bb)))),λds M q x h=>?_⟩)
 ·have⟨p,r,k,l,rfl,_⟩:=h;rfl
 ·have⟨p,r,k,l,rfl,hp,lY,hk,h⟩:=h;have⟨a,b,c⟩:=uf hp lY;refine⟨⟨gK hp (),gK lY ()⟩,⟨dQ hp (),dQ lY ()⟩,bg b (),λz=>aaP z (),λ_=>h⟩
def gZ(p q:Fr):Fr:=aD (p.1 * q.2 - q.1 * p.2) (p.2 * q.2)
def CK{p q:Fr}{k:Nat}(hp:Sz k p)(hq:Sz l q):(p.1 * q.2 - q.1 * p.2).natAbs < 2 ^ (k+l+1)/\(p.2 * q.2).natAbs < 2 ^ (k+l+1)/\0 < p.2 * q.2:=by
 have a:=cj hp.1 hq.2.2;have b:=cj hq.1 hp.2.2;have c:=cj hp.2.2 hq.2.2;rw[Nat.add_comm l k]at b;have e:(2:Nat) ^ (k+l+1)=2 ^ (k+l)+2 ^ (k+l):=by rw[Nat.pow_succ];omega
 have hn:(p.1 * q.2 - q.1 * p.2).natAbs<=(p.1 * q.2).natAbs+(q.1 * p.2).natAbs:=()
 rw[abi,abi]at hn;refine⟨by rw[e];omega,?_,aap hp.2.1 hq.2.1⟩;rw[abi,e];omega
def Cv:DF:=λas M q _=>∃p r k l,as=[Λ p,Λ r]/\Sz k p/\Sz l r/\k+l+1<=8000/\q (Λ (gZ p r)) M
def MF:Ε ["one","other"] ["one","other"] (χ Cw):=.of rfl
def J'(F:dh K "minus" "minus" Cw f fd)(E:Ev K mg w Cm)(bF:ax P w K mg base 2 "fraction" ["top","bottom"] rH fJ fK):aw P w K mg base (cw P w) 3 f fd ["one","other"] (c7 K Cv):=by
 refine F.dW MF (λds M q x h=>?_) (λaW A outer s H E' hr=>⟨_,(μ (Ζ (ae bF hr ν (ι (oB (aI (Ι (jv 0) υ) (Ι (jv 1) υ)) (aI (Ι (jv 1) υ) (Ι (jv 0) υ))) (ι (aI (Ι (jv 0) υ) (Ι (jv 1) υ)) θ bb) bb)))),λds M q x h=>?_⟩)
 ·have⟨p,r,k,l,rfl,_⟩:=h;rfl
 ·have⟨p,r,k,l,rfl,hp,lY,hk,h⟩:=h;have⟨a,b,c⟩:=CK hp lY;refine⟨⟨gK hp (),dQ lY ()⟩,⟨gK lY (),dQ hp ()⟩,⟨dQ hp (),dQ lY ()⟩,bg b hk,λz=>aaP z (),λ_=>h⟩
def j6(B:Int)(c:Fr):Int:=c.1 * (B / c.2)
def gE(cs:List Fr)(B:Int)(j:Nat):Int:=((cs.take (j+1)).map (j6 B)).sum
def xj(cs:List Fr)(r:Int):Nat:=(List.range cs.length).countP λj=>decide (gE cs (aN cs) j<=r)
structure qH(cs:List Fr):Prop where
 pos:∀c∈cs,0 < j6 (aN cs) c
 sum:(cs.map (j6 (aN cs))).sum=aN cs
 b0:0 < aN cs
 b1:aN cs<=1000000
 ne:cs≠[]
 Fe:Q8 cs
def SH{cs:List Fr}(h:au cs=true)(o:Q8 cs)(n:cs≠[]):qH cs:=by
 unfold au at h;rw[aav,aav,aam,aam,Bool.not_eq_true']at h;have⟨h1,h2,h3⟩:=h;have B0:0 < aN cs:=fN cs 1 @_ λc hc=>(o.2 c hc).1;have⟨_,_,hB⟩:=jh cs 1 0 @_ (acJ _) λc hc=>⟨(o.2 c hc).1,acJ _⟩;refine⟨λc hc=>?_,h2,B0,h3,n,o⟩;have c1:0 < c.1:=by have:=List.any_eq_false.mp h1 c hc;simpa using this
 exact aap c1 (Int.ediv_pos_of_pos_of_dvd B0 (aag (o.2 c hc).1) (hB c hc))
def AD{cs:List Fr}(h:j+1 < cs.length):gE cs B (j+1)=gE cs B j+j6 B cs[j+1]:=by
 have e:cs.take (j+1+1)=cs.take (j+1)++[cs[j+1]]:=by rw[List.take_succ,aaa h];rfl
 unfold gE;rw[e,aa7,List.sum_append];simp only[List.map_cons,List.map_nil,List.sum_cons,List.sum_nil,Int.add_zero]
def K_{c:Fr}{cs:List Fr}:gE (c::cs) B 0=j6 B c:=by unfold gE;simp
def zb{cs:List Fr}(o:qH cs)(h:j+1=cs.length):gE cs (aN cs) j=aN cs:=by unfold gE;rw[h,List.take_length];exact o.sum
def J3{cs:List Fr}(o:qH cs)(h:i<=j):gE cs (aN cs) i<=gE cs (aN cs) j:=by
 induction j with
 | zero=>rw[show i=0 by omega];exact acg _
 | succ j ih=>
  by_cases e:i=j+1
  ·rw[e];exact acg _
  ·have i1:=ih ();by_cases hl:j+1 < cs.length
   ·rw[AD hl];have:=o.pos _ (aaq hl);omega
   ·have:gE cs (aN cs) (j+1)=gE cs (aN cs) j:=by unfold gE;rw[abp (),abp ()]
    omega
structure RH(cs:List Fr)(r:Int)(j:Nat):Prop where
 lt:j < cs.length
 up:r < gE cs (aN cs) j
 low:∀i,i < j->gE cs (aN cs) i<=r
def zQ(j:Nat):∀n:Nat,(List.range n).countP (λi=>decide (i < j))=min n j
 | 0=>by simp
 | n+1=>by
  rw[List.range_succ,List.countP_append,zQ j n];by_cases h:n < j
  ·rw[show[n].countP (λi=>decide (i < j))=1 by simp[h]];omega
  ·rw[show[n].countP (λi=>decide (i < j))=0 by simp[h]];omega
def wk{cs:List Fr}{r:Int}(o:qH cs)(d:RH cs r j):xj cs r=j:=by
 unfold xj;have e:(List.range cs.length).countP (λi=>decide (gE cs (aN cs) i<=r))=(List.range cs.length).countP (λi=>decide (i < j)):=by
  apply List.countP_congr;intro i _;simp only[decide_eq_true_iff];constructor
  ·intro h;rcases Nat.lt_or_ge i j with z| z
   ·exact z
   ·have:=J3 o z;have:=d.up;omega
  ·exact d.low i
 rw[e,zQ];have:=d.lt;omega
def Ni{cs:List Fr}{r:Int}(o:qH cs)(h1:r < aN cs):∃j,RH cs r j:=by
 have hl:0 < cs.length:=List.length_pos_iff.mpr o.ne;have :∀n,n < cs.length->(∃j,RH cs r j)\/∀i,i<=n->gE cs (aN cs) i<=r:=by
  intro n
  induction n with
  | zero=>
   intro _;by_cases h:r < gE cs (aN cs) 0
   ·exact .inl ⟨0,hl,h,λi hi=>aaP hi ()⟩
   ·exact .inr λi hi=>by rw[show i=0 by omega];omega
  | succ n ih=>
   intro hn;rcases ih () with z| z
   ·exact .inl z
   ·by_cases h:r < gE cs (aN cs) (n+1)
    ·exact .inl ⟨n+1,hn,h,λi hi=>z i ()⟩
    ·exact .inr λi hi=>by
      by_cases e:i=n+1
      ·rw[e];omega
      ·exact z i ()
 rcases this (cs.length - 1) () with z| z
 ·exact z
 ·have a:=z (cs.length - 1) (aaj _);rw[zb o ()]at a;omega
def kz(k:Str)(ds:List bu)(pick:Int):Nat:=if Γ k=true then (pick % (ds.length:Int)).toNat else xj (ds.map τ) (pick % aN (ds.map τ))
def gC(γ:List Rw)(i:Nat)(p:Int):Option (Nat×bu):=match γ[i]? with
 | some (.ο k ds)=>some (kz k ds p,ds.getD (kz k ds p) (0,(0,1),[]))
 | _=>none
def d7(γ:List Rw):Nat->List Int->List (Nat×Nat)
 | _,[]=>[]
 | i,p::ps=>match gC γ i p with
  | some (j,d)=>(i,j)::d7 γ d.1.toNat ps
  | none=>[]
def gz(γ:List Rw):Nat->List Int->Nat
 | i,[]=>i
 | i,p::ps=>match gC γ i p with
  | some (_,d)=>gz γ d.1.toNat ps
  | none=>i
def ua(γ:List Rw):Nat->List Int->List Fr
 | _,[]=>[]
 | i,p::ps=>match gC γ i p with
  | some (_,d)=>d.2.1::ua γ d.1.toNat ps
  | none=>[]
def lA(γ:List Rw)(i:Nat):Fr:=match γ[i]? with
 | some (.fin p)=>p
 | _=>(0,1)
def val(p:Fr):Rat:=(p.1:Rat) / (p.2:Rat)
structure Red(p:Fr):Prop where
 pos:0 < p.2
 low:Int.gcd p.1 p.2=1
def aR(h:b≠0):(b:Rat)≠0:=λz=>h (Rat.intCast_eq_zero_iff.mp z)
def Og{a c d:Int}(h:a * b=c * d):(a:Rat) * b=c * d:=by rw[<-aaK,<-aaK,h]
def aP(h:b≠0):Red (aD t b):=⟨bJ h,ze h⟩
def ji(h:b≠0):val (aD t b)=(t:Rat) / (b:Rat):=by
 have hq:=bJ (t:=t) h;have hx:=Og (cQ (t:=t) h);have h1:=aR h;have h2:=aR (show(aD t b).2≠0 by omega);unfold val;generalize ((aD t b).1:Rat)=x at *
 generalize ((aD t b).2:Rat)=y at *
 generalize (t:Rat)=t' at *
 generalize (b:Rat)=b' at *
 grind
def FF{p q:Fr}(hp:Red p)(hq:Red q)(h:val p=val q):p=q:=by
 have h1:=aR (show p.2≠0 by have:=hp.pos;omega);have h2:=aR (show q.2≠0 by have:=hq.pos;omega);have e:p.1 * q.2=p.2 * q.1:=by
  unfold val at h;have e1:(p.1:Rat) * (q.2:Rat)=(p.2:Rat) * (q.1:Rat):=by
   generalize (p.1:Rat)=a at *
   generalize (p.2:Rat)=b at *
   generalize (q.1:Rat)=c at *
   generalize (q.2:Rat)=d at *
   grind
  rw[<-aaK,<-aaK]at e1;exact Rat.intCast_inj.mp e1
 have a:=yH (show p.2≠0 by have:=hp.pos;omega) hq.pos hq.low e;have b:=H_ hp.pos hp.low;rw[<-Prod.eta p,<-b,a]
def iX{p q:Fr}(hp:0 < p.2)(hq:0 < q.2):val (dq p q)=val p+val q:=by
 unfold dq;rw[ji (aaZ (aap hp hq))];have h1:=aR (show p.2≠0 by omega);have h2:=aR (show q.2≠0 by omega);rw[ab3,aaK,aaK,aaK];unfold val;generalize (p.1:Rat)=a at *
 generalize (p.2:Rat)=b at *
 generalize (q.1:Rat)=c at *
 generalize (q.2:Rat)=d at *
 grind
def eZ{p q:Fr}(hp:0 < p.2)(hq:0 < q.2):val (aq p q)=val p * val q:=by
 unfold aq;rw[ji (aaZ (aap hp hq))];have h1:=aR (show p.2≠0 by omega);have h2:=aR (show q.2≠0 by omega);rw[aaK,aaK];unfold val;generalize (p.1:Rat)=a at *
 generalize (p.2:Rat)=b at *
 generalize (q.1:Rat)=c at *
 generalize (q.2:Rat)=d at *
 grind
def mr(s:Rat):List Fr->Rat->Rat
 | [],l=>l
 | p::ps,l=>val p+s * mr s ps l
def tS(s h p:Fr):Fr:=aD (h.1 * s.1 * p.2+p.1 * (h.2 * s.2)) (h.2 * s.2 * p.2)
def hZ(s:Fr):List Fr->Fr->Fr
 | [],l=>l
 | p::ps,l=>tS s (hZ s ps l) p
def wB{s h p:Fr}(hs:0 < s.2)(hh:0 < h.2)(hp:0 < p.2):val (tS s h p)=val p+val s * val h/\Red (tS s h p):=by
 unfold tS;have b0:h.2 * s.2 * p.2≠0:=aaZ (aap (aap hh hs) hp);refine⟨?_,aP b0⟩;rw[ji b0];have h1:=aR (show p.2≠0 by omega);have h2:=aR (show s.2≠0 by omega);have h3:=aR (show h.2≠0 by omega);simp only[Rat.intCast_add,Rat.intCast_mul];unfold val;generalize (p.1:Rat)=a at *
 generalize (p.2:Rat)=b at *
 generalize (s.1:Rat)=c at *
 generalize (s.2:Rat)=d at *
 generalize (h.1:Rat)=e at *
 generalize (h.2:Rat)=f at *
 grind
def ue{s l:Fr}(hs:0 < s.2)(hl:Red l):∀{ps:List Fr},(∀p∈ps,0 < p.2)->val (hZ s ps l)=mr (val s) ps (val l)/\Red (hZ s ps l)
 | [],_=>⟨rfl,hl⟩
 | p::ps,h=>by have⟨i1,i2⟩:=ue hs hl (ps:=ps) λq hq=>h q (aac _ hq);have⟨j1,j2⟩:=wB hs i2.pos (h p aad);refine⟨?_,j2⟩;show val (tS s (hZ s ps l) p)=val p+val s * mr (val s) ps (val l);rw[j1,i1]
def fh(p:Fr)(E:Int):Prop:=∃N,p.1 * E=N * p.2
def oR{N:Int}(h:b≠0)(e:t * E=N * b):fh (aD t b) E:=by
 have hx:=cQ (t:=t) h;generalize hf:aD t b=f at *
 have⟨x,y⟩:=f;refine⟨N,?_⟩;show x * E=N * y;have hx:t * y=b * x:=hx;have:b * (x * E)=b * (N * y):=by grind
 exact aaX h this
def kB{p:Fr}(k:Int)(h:fh p E):fh p (E * k):=by have⟨N,e⟩:=h;exact⟨N * k,by grind⟩
def i5(p:Fr):fh p p.2:=⟨p.1,rfl⟩
def vG{p q:Fr}(hp:0 < p.2)(hq:0 < q.2)(h:fh p E)(h':fh q E):fh (dq p q) E:=by have⟨N,e⟩:=h;have⟨N',e'⟩:=h';unfold dq;exact oR (N:=N+N') (Int.ne_of_gt (Int.mul_pos hp hq)) (by grind)
def jS{p q:Fr}{F:Int}(hp:0 < p.2)(hq:0 < q.2)(h:fh p E)(h':fh q F):fh (aq p q) (E * F):=by have⟨N,e⟩:=h;have⟨N',e'⟩:=h';unfold aq;exact oR (N:=N * N') (Int.ne_of_gt (Int.mul_pos hp hq)) (by grind)
def q5{p:Fr}(hp:Red p)(h:fh p E):p.2∣E:=by
 have⟨N,e⟩:=h;have d:p.2∣p.1 * E:=⟨N,by rw[e,aa0]⟩;have d2:p.2.natAbs∣p.1.natAbs * E.natAbs:=by rw[<-abi];exact Int.natAbs_dvd_natAbs.mpr d
 have co:Nat.Coprime p.2.natAbs p.1.natAbs:=by have:=hp.low;unfold Int.gcd at this;rw[Nat.coprime_comm];exact this
 exact Int.natAbs_dvd_natAbs.mp (co.dvd_of_dvd_mul_left d2)
def c8(p:Fr)(C:Int):Prop:=p.1<=p.2 * C/\ -(p.2 * C)<=p.1
def nM(h:0 < b)(h1:t<=b * C)(h2: -(b * C)<=t):c8 (aD t b) C:=by
 have hx:=cQ (t:=t) (show b≠0 by omega);have hq:=bJ (t:=t) (show b≠0 by omega);generalize hf:aD t b=f at *
 have⟨x,y⟩:=f;have hx:t * y=b * x:=hx;have hq:0 < y:=hq;constructor
 ·show x<=y * C;have:=aaD h1 (aag hq);rw[hx]at this;have e:b * C * y=b * (y * C):=by grind
  rw[e]at this;exact acs this h
 ·show -(y * C)<=x;have:=aaD h2 (aag hq);rw[hx]at this;have e: -(b * C) * y=b * (-(y * C)):=by grind
  rw[e]at this;exact acs this h
def cC{a c:Int}(h:a<=b)(hc:0<=c):a * c<=b * c:=aaD h hc
def A3{p q:Fr}{D:Int}(hp:0 < p.2)(hq:0 < q.2)(h:c8 p C)(h':c8 q D):c8 (dq p q) (C+D):=by
 unfold dq;have a:=cC h.1 (aag hq);have b:=cC h'.1 (aag hp);have c:=cC h.2 (aag hq);have d:=cC h'.2 (aag hp);refine nM (aap hp hq) ?_ ?_
 ·have e:p.2 * q.2 * (C+D)=p.2 * C * q.2+q.2 * D * p.2:=by grind
  omega
 ·have e: -(p.2 * q.2 * (C+D))= -(p.2 * C) * q.2+ -(q.2 * D) * p.2:=by grind
  omega
def eF(c:Fr):Prop:=0<=c.1/\c.1<=c.2
def vm{c p:Fr}(hc:0 < c.2)(hp:0 < p.2)(u:eF c)(h:c8 p C)(hC:0<=C):c8 (aq c p) C:=by
 unfold aq;have pc:0<=p.2 * C:=aba (aag hp) hC;have a:=cC h.1 u.1;have b:=cC u.2 pc;have c':=cC h.2 u.1;refine nM (aap hc hp) ?_ ?_
 ·have e:c.2 * p.2 * C=c.2 * (p.2 * C):=by grind
  have e1:c.1 * p.1=p.1 * c.1:=aa0 ..;have e2:p.2 * C * c.1=c.1 * (p.2 * C):=aa0 ..;omega
 ·have e: -(c.2 * p.2 * C)= -(c.2 * (p.2 * C)):=by grind
  have e1:c.1 * p.1=p.1 * c.1:=aa0 ..;have e2: -(p.2 * C) * c.1= -(c.1 * (p.2 * C)):=by grind
  omega
def rS{c s:Fr}(hc:0 < c.2)(hs:0 < s.2)(u:eF c)(v:eF s):eF (aq c s):=by
 unfold aq;have hx:=cQ (t:=c.1 * s.1) (aaZ (aap hc hs));have hq:=bJ (t:=c.1 * s.1) (aaZ (aap hc hs));have t0:0<=c.1 * s.1:=aba u.1 v.1
 have t1:c.1 * s.1<=c.2 * s.2:=abc (cC u.2 v.1) (by
  have:=cC v.2 (aag hc)
  rw[aa0 c.2 s.1,aa0 c.2 s.2];exact this)
 have bp:=aap hc hs;generalize c.1 * s.1=t at *
 generalize c.2 * s.2=b at *
 generalize hf:aD t b=f at *
 have⟨x,y⟩:=f;have hx:t * y=b * x:=hx;have hq:0 < y:=hq;constructor
 ·show 0<=x;rcases ach x 0 with z| z
  ·have:=ab0 bp z;have:=aba t0 (aag hq);omega
  ·exact z
 ·show x<=y;have:=cC t1 (aag hq);rw[hx]at this;exact acs this bp
def vI{p:Fr}{k m:Nat}(r:Red p)(h:fh p E)(e0:0 < E)(e1:E < 2 ^ k)(a:c8 p C)(c0:0<=C)(c1:C < 2 ^ m):Sz (k+m) p:=by
 have d:=abY e0 (q5 r h);have rp:=r.pos;have b1:p.2.natAbs < 2 ^ k:=by
  have:(p.2.natAbs:Int) < ((2 ^ k:Nat):Int):=by rw[abe (aag rp)];exact aaE d (by exact_mod_cast e1)
  exact abG.mp this
 have b2:C.natAbs < 2 ^ m:=by
  have:(C.natAbs:Int) < ((2 ^ m:Nat):Int):=by
   rw[abe c0]
   exact_mod_cast c1
  exact abG.mp this
 have b3:=cj b1 b2;refine⟨?_,rp,aat b1 (abd @_ (abX _ _))⟩;refine aa3 ?_ b3;rw[<-abi];have q0:0<=p.2 * C:=aba (aag rp) c0;have:=a.1;have:=a.2;omega
def zF{cs:List Fr}(h:j < cs.length):nY (cs.map Λ) (j:Int)=some (Λ cs[j]):=ak (by rw[aar,aaa h];rfl)
def ON{ds:List bu}(h:j < ds.length):nY (ds.map cZ) (j:Int)=some (cZ ds[j]):=ak (by rw[aar,aaa h];rfl)
structure k8(ε:Fr)(γ:List Rw):Prop where
 sh:ay ε=true
 len:γ.length<=12
 row:∀r∈γ,iz r/\gI r γ.length=true
structure zS(γ:List Rw)(k:Str)(ds:List bu):Prop where
 ro:iz (.ο k ds)
 l1:1<=ds.length
 l6:ds.length<=6
 kd:Γ k=true\/(Γ k=false/\k="chance"/\qH (ds.map τ))
 to:∀d∈ds,0<=d.1/\d.1 < γ.length
 py:∀d∈ds,ba d.2.1=true/\0 < d.2.1.2
def bI{ε:Fr}{γ:List Rw}{k:Str}{ds:List bu}(f:k8 ε γ)(h:Rw.ο k ds∈γ):zS γ k ds:=by
 have⟨ro,h2⟩:=f.row _ h;have h2:(if Γ k then ar ds γ.length else if k="chance" then ar ds γ.length&&au (ds.map τ) else false)=true:=h2;have key:ar ds γ.length=true/\(Γ k=true\/(Γ k=false/\k="chance"/\au (ds.map τ)=true)):=by
  by_cases hk:Γ k=true
  ·rw[aaz hk]at h2;exact⟨h2,.inl hk⟩
  ·rw[aaC hk]at h2;by_cases hc:k="chance"
   ·rw[if_pos hc,Bool.and_eq_true]at h2;exact⟨h2.1,.inr ⟨by simpa using hk,hc,h2.2⟩⟩
   ·rw[aaC hc]at h2;cases h2
 have⟨fd,hk⟩:=key;unfold ar at fd;rw[aav,aav,aam,aam]at fd;have⟨⟨d1,d6⟩,fa⟩:=fd;have each:∀d∈ds,0<=d.1/\d.1 < γ.length/\ba d.2.1=true:=λd hd=>by have h3:=List.all_eq_true.mp fa d hd;unfold aQ at h3;rw[aav,aav,aam,aam]at h3;exact⟨h3.1,h3.2.1,h3.2.2⟩
 refine⟨ro,d1,d6,?_,λd hd=>⟨(each d hd).1,(each d hd).2.1⟩,λd hd=>⟨(each d hd).2.2,(ro.2.2.2 d hd).2⟩⟩;rcases hk with hk| ⟨hk,hc,hf⟩
 ·exact .inl hk
 ·refine .inr ⟨hk,hc,SH hf (ro.2.2.1 hc).2 λz=>?_⟩;have:=aa2 List.length z;rw[aae]at this;have:ds.length=0:=this;omega
def D4{α:Type}(xs:List α)(a:α)(f:α->Dt):(e6 0 xs.length).map (λx=>match x with| .int j=>f (xs.getD j.toNat a)| _=>.bU)=xs.map f:=by
 unfold e6;rw[aaN];apply abv
 ·simp
 ·intro i h1 h2;simp only[List.getElem_map,List.getElem_range,Function.comp];rw[show(0+(i:Int)).toNat=i by omega];have hi:i < xs.length:=by simpa using h2
  rw[aab,aaa hi];rfl
abbrev d0:bu:=(0,(0,1),[])
def kn(tb:List Fr)(t:Int):Fr:=tb.getD t.toNat (0,1)
def Ψ(ε:Fr)(tb:List Fr)(d:bu):Fr:=dq d.2.1 (aq ε (kn tb d.1))
def iJ(ps:List (Fr×Fr)):Fr:=ps.foldl (λw p=>dq w (aq p.1 p.2)) (0,1)
structure Nb(E C:Int)(p:Fr):Prop where
 pos:0 < p.2
 he:fh p E
 ab:c8 p C
 sz:Sz 2600 p
structure Bd(E C:Int):Prop where
 e0:0 < E
 e1:E < 2 ^ 2200
 c0:0<=C
 c1:C < 2 ^ 400
def IK{p:Fr}(r:Red p)(h:fh p E)(a:c8 p C)(b:Bd E C):Nb E C p:=⟨r.pos,h,a,vI (k:=2200) (m:=400) r h b.e0 b.e1 a b.c0 b.c1⟩
def NJ{D:Int}{p q:Fr}(h:Nb E C p)(h':Nb E D q)(b:Bd E (C+D)):Nb E (C+D) (dq p q):=IK (aP (aaZ (aap h.pos h'.pos))) (vG h.pos h'.pos h.he h'.he) (A3 h.pos h'.pos h.ab h'.ab) b
def Aj{F:Int}{c p:Fr}(c0:0 < c.2)(hc:fh c F)(u:eF c)(h:Nb E C p)(b:Bd (F * E) C):Nb (F * E) C (aq c p):=IK (aP (aaZ (aap c0 h.pos))) (jS c0 h.pos hc h.he) (vm c0 h.pos u h.ab b.c0) b
def QK{p:Fr}{D:Int}(h0:0 < p.2)(h:c8 p C)(hd:C<=D):c8 p D:=by have:=aaA hd (aag h0);have⟨a,b⟩:=h;exact⟨(),()⟩
def Vd:Nb E 0 (0,1):=⟨@_,⟨0,by simp⟩,⟨@_,@_⟩,j4 (k:=1) ⟨@_,@_,@_⟩ @_⟩
def Ll{p:Fr}(h:ay p=true):0 < p.2/\p.2<=1000/\eF p:=by unfold ay at h;rw[aav,aav,aam,aam,aam]at h;have⟨h1,h2,h3⟩:=h;exact⟨(),h3,h1,()⟩
def xu{p:Nat}(h:p < n):KZ n (p:Int)=some p:=by unfold KZ;rw[aaz (),aaz (),abQ]
def KI(h:A9 M d=some xs):mf M d=some xs:=by cases d <;> first| exact h| cases h
def Qa(h:A9 M d=some xs):Ho M d=some xs:=by cases d <;> first| exact h| cases h
def bM{o:MO}:(M++[o])[M.length]? =some o:=by simp
def wQ{k:Nat}(h:M[k]? =some (MO.lst xs)):A9 M (.loc k)=some xs:=by show(match M[k]? with| some (MO.lst xs)=>some xs| _=>none)=some xs;rw[h]
def gL{a c:MO}:(M++[a]).set M.length c=M++[c]:=by simp[List.set_append]
def Rv{E:Ms}{o:MO}:(M++o::E)[M.length]? =some o:=by simp
def Mj{E:Ms}{o c:MO}:(M++o::E).set M.length c=M++c::E:=by simp[List.set_append]
abbrev cL(l:List Int):Dt:=.lst (l.map Dt.int)
abbrev ku(ls:List (List Int)):Dt:=.lst (ls.map cL)
def E6{ls:List (List Int)}(h:j < ls.length):nY (ls.map cL) (j:Int)=some (cL ls[j]):=ak (by rw[aar,aaa h];rfl)
def jO{n:Nat}:∀(ls:List (List Int)),Dt.bX n (ls.map cL)
 | []=>trivial
 | l::ls=>⟨xN l,jO ls⟩
abbrev dw:=Bz.dw
def Ay(h:i < n):((List.replicate (n:Int).toNat [Dt.int 0]).flatten).set i (Dt.int 1)=(dw n i).map Dt.int:=by
 have e:(List.replicate (n:Int).toNat [Dt.int 0]).flatten=List.replicate n (Dt.int 0):=by
  rw[show((n:Int)).toNat=n by omega];clear h
  induction n with
  | zero=>rfl
  | succ n ih=>rw[abt,abI,ih];rfl
 rw[e];unfold dw Bz.dw;apply abv
 ·simp
 ·intro j h1 h2;rw[List.getElem_set];simp only[List.getElem_replicate,List.getElem_map,List.getElem_range,Bz.ind];split <;> rfl
def Om:DF:=λas M q _=>∃γ:List (List Int),as=[ku γ]/\γ.length<=12/\(∀r∈γ,r.length<=13)/\∀E,q (.loc M.length) (M++MO.lst (((List.range γ.length).map λi=>γ.getD i []++dw γ.length i).map cL)::E)
def dZ:Ε ["rows","told","number","row","weights"] ["rows"] (χ jK):=.of rfl
def sT(F:dh K "with_weights" "with_weights" jK f fd)(E:Ev K mg w Cm):aw P w K mg base (cw P w) 1 f fd ["rows"] (c7 K Om):=by
 refine F.dW dZ (λds M q x h=>?_) (λaW A outer s H E' hr=>⟨_,(η (ω 1 dZ.nd (kG θ))
   (η (dR (yL E.eW (Ο (jv 0) θ)) (jZ rfl (aV (av (i:=2) dZ.nd rfl (Or.inl rfl)) (aV (av (i:=3) dZ.nd rfl (Or.inl rfl)) gO))) lG (η (ω 4 dZ.nd (B8 (jI 3 (d:=.lst [.int 0]) (by rfl)) (dU E.cG (Ο (jv 0) θ))))
   (η (oJ (jv 4) (jv 2) υ)
   (μ (eB (e_ (jv 1) (ι (nq (jv 3) (jv 4)) θ bb)))))))
   (μ (Ζ (jv 1))))),λds M q x h=>?_⟩)
 ·have⟨γ,rfl,_⟩:=h;rfl
 ·have⟨γ,rfl,r12,r13,h⟩:=h;refine⟨@_,?_⟩;refine⟨ku γ,γ.map cL,λ_=>True,rfl,rfl,?_⟩;refine cf (λxs ρ M'=>∃(k:Nat) (rest:List (List Int)) (E:Ms) (o1 o2 o3:Option Dt),xs=jo k (rest.map cL)/\γ.drop k=rest/\k<=γ.length/\M'=M++MO.lst (((List.range k).map λi=>γ.getD i []++dw γ.length i).map cL)::E/\ρ=[some (ku γ),some (.loc M.length),o1,o2,o3]) (λxs ρ M' hj=>trivial) (λx xs ρ M' hj gT=>?_) (λρ M' hj=>?_) _ _ _ ⟨0,γ,[],none,none,none,rfl,rfl,ab4 _,rfl,rfl⟩
  ·have⟨k,rest,E,o1,o2,o3,ex,hd,hk,rfl,rfl⟩:=hj;cases rest with
   | nil=>cases ex
   | cons r rest=>
    cases ex;have A7:k < γ.length:=by
     rcases Nat.lt_or_ge k γ.length with z| z
     ·exact z
     ·rw[List.drop_of_length_le z]at hd;cases hd
    have rk:γ[k]=r:=by have:=aby A7;rw[hd]at this;exact(List.cons.inj this).1.symm
    have rg:γ.getD k []=r:=by rw[aab,aaa A7,rk];rfl
    have acY:=r13 r (by rw[<-rk];exact aaq A7);have ML:γ.drop (k+1)=rest:=by have:=aby A7;rw[hd]at this;exact(List.cons.inj this).2.symm
    dsimp only[g2];walk_at "vc";refine(aO (d:=ku γ) (xs:=γ.map cL) rfl ?_:iL [ku γ] _ _);rw[aae];refine⟨[.int 0],γ.length,rfl,rfl,(),(),?_,?_⟩
    ·show 1 * ((γ.length:Int)).toNat<=sizeLine;exact aax (show _<=12 by omega) @_
    generalize hM2:M++MO.lst (((List.range k).map λi=>γ.getD i []++dw γ.length i).map cL)::E=M2;refine⟨M2.length,k,_,k,rfl,rfl,bM,?_,?_⟩
    ·have:((List.replicate (γ.length:Int).toNat [Dt.int 0]).flatten).length=γ.length:=by have:=aa2 List.length (Ay A7);rw[abr,aae]at this;rw[this];unfold dw Bz.dw;simp
     rw[this];exact xu A7
    rw[gL,Ay A7];subst hM2;have eM:(M++MO.lst (((List.range k).map λi=>γ.getD i []++dw γ.length i).map cL)::E)++[MO.lst ((dw γ.length k).map Dt.int)]=M++MO.lst (((List.range k).map λi=>γ.getD i []++dw γ.length i).map cL)::(E++[MO.lst ((dw γ.length k).map Dt.int)]):=by simp
    have at3:((M++MO.lst (((List.range k).map λi=>γ.getD i []++dw γ.length i).map cL)::E)++[MO.lst ((dw γ.length k).map Dt.int)])[M.length]? =some (.lst (((List.range k).map λi=>γ.getD i []++dw γ.length i).map cL)):=by rw[eM];exact Rv
    refine⟨⟨M.length,_,rfl,at3⟩,r.map Dt.int,(dw γ.length k).map Dt.int,rfl,wQ bM,?_,M.length,_,_,rfl,rfl,at3,?_,?_⟩
    ·rw[aae,aae];unfold dw Bz.dw;rw[aae,aa9];exact aax (show _<=30 by omega) @_
    ·rw[aae,aae,aa9];exact aa3 (show k<=12 by omega) @_
    rw[eM,Mj];refine gT _ _ ⟨k+1,rest,E++[MO.lst ((dw γ.length k).map Dt.int)],_,_,_,rfl,ML,A7,?_,rfl⟩;rw[List.range_succ,aa7,aa7];simp only[List.map_cons,List.map_nil];rw[rg,<-aa7]
  ·have⟨k,rest,E,o1,o2,o3,ex,hd,hk,rfl,rfl⟩:=hj;cases rest with
   | cons r rest=>cases ex
   | nil=>
    have:k=γ.length:=by have:=aa2 List.length hd;rw[abW]at this;simp at this;omega
    subst this;exact h E
def Tu:DF:=λas M q _=>∃(ls:List (List Int)) (f c:Nat),as=[ku ls,.int (f:Int),.int (c:Int)]/\f<=ls.length/\ls.length<=12/\(∀l∈ls,c < l.length)/\
 ((∀(k:Nat),f<=k->k < ls.length->(ls.getD k []).getD c 0=0)->q .bU M)/\
 (∀(k:Nat),f<=k->k < ls.length->(ls.getD k []).getD c 0≠0->q (.int (k:Int)) M)
def kU:Ε ["lines","first","column","number"] ["lines","first","column"] (χ iN):=.of rfl
def qM(F:dh K "number_of_head" "number_of_head" iN f fd)(E:Ev K mg w Cm):aw P w K mg base (cw P w) 1 f fd ["lines","first","column"] (c7 K Tu):=by
 refine F.dW kU (λds M q x h=>?_) (λaW A outer s H E' hr=>⟨_,(η (ng (HW E.cU (Ο (jv 1) (ι (dU E.cG (Ο (jv 0) θ)) θ aY))) (av (i:=3) kU.nd rfl (Or.inl rfl)) bq (μ (aM (tQ hr (Ι (Ι (jv 0) (jv 3)) (jv 2)) υ) (μ (Ζ (jv 3))) Τ)))
   (μ (Ζ MN))),λds M q x h=>?_⟩)
 ·have⟨ls,f,c,rfl,_⟩:=h;rfl
 ·have⟨ls,f,c,rfl,hf,vd,hc,h1,h2⟩:=h;walk_at "vc";dsimp only[IB];walk_at "vc";refine(aO (d:=ku ls) (xs:=ls.map cL) rfl ?_:iL [ku ls] _ _);rw[aae];refine⟨⟨(),(),(),()⟩,?_⟩;refine gw (λzs ρ M'=>M'=M/\∃(n k:Nat) (o:Option Dt),zs=e6 k n/\f<=k/\k+n=ls.length/\(∀j,f<=j->j < k->(ls.getD j []).getD c 0=0)/\ρ=[some (ku ls),some (.int (f:Int)),some (.int (c:Int)),o]) (λx zs ρ M' hj gT=>?_) (λρ M' hj=>?_) _ _ _ ⟨rfl,ls.length - f,f,none,?_,aaj _,(),λj a b=>aaP a (),rfl⟩
  ·have⟨rfl,n,k,o,ex,hk,hn,hz,rfl⟩:=hj;have⟨m,rfl,rfl,rfl⟩:=fF ex;have kl:k < ls.length:=()
   have hl:=hc _ (aaq kl);have e1:(ls.getD k []).getD c 0=(ls[k])[c]:=by rw[aab,aab,aaa kl];show((ls[k])[c]?).getD 0=_;rw[aaa hl];rfl
   walk_at "vc";refine(Η (d:=ku ls) rfl (E6 kl) ?_:cI (ku ls) (.int (k:Int)) _ _);refine(Η (d:=cL ls[k]) rfl (j8 hl) ?_:cI (cL ls[k]) (.int (c:Int)) _ _);refine⟨λz=>?_,λz=>?_⟩
   ·have z:(!decide ((ls[k])[c]=0))=true:=z;refine h2 k hk kl ?_;rw[e1];intro y;rw[aaI y]at z;exact nomatch z
   ·have z:(!decide ((ls[k])[c]=0))=false:=z;have z0:(ls[k])[c]=0:=by
     rcases Decidable.em ((ls[k])[c]=0) with y| y
     ·exact y
     ·rw[aaG y]at z;exact nomatch z
    refine gT _ _ ⟨rfl,m,k+1,_,by simp,(),(),λj a b=>?_,rfl⟩;by_cases e:j=k
    ·rw[e,e1];exact z0
    ·exact hz j a ()
  ·have⟨rfl,n,k,o,ex,hk,hn,hz,rfl⟩:=hj;have hn0:n=0:=by have:=aa2 List.length ex;unfold e6 at this;simpa using this.symm
   exact h1 λj a b=>hz j a ()
  ·rw[show((ls.length:Int) - (f:Int)).toNat=ls.length - f by omega]
abbrev kK:=Bz.kK
def Kg:DF:=λas M q _=>∃(ls:List (List Int)) (f k:Nat),as=[ku ls,.int (f:Int),.int (k:Int)]/\f<=k/\k < ls.length/\ls.length<=12/\q (ku (kK ls f k)) M
def xi:Ε ["lines","first","number"] ["lines","first","number"] (χ kL):=.of rfl
def uW(F:dh K "moved_ahead" "moved_ahead" kL f fd)(E:Ev K mg w Cm):aw P w K mg base (cw P w) 1 f fd ["lines","first","number"] (c7 K Kg):=by
 refine F.dW xi (λds M q x h=>?_) (λaW A outer s H E' hr=>⟨_,(μ (Ζ (nq (nq (nq (dc (D9 (jv 0) (jv 1))) (oz (ι (Ι (jv 0) (jv 2)) θ bQ))) (dc (G_ (jv 0) (jv 1) (jv 2)))) (dc (qg (jv 0) (bA (jv 2) υ)))))),λds M q x h=>?_⟩)
 ·have⟨ls,f,k,rfl,_⟩:=h;rfl
 ·have⟨ls,f,k,rfl,hf,hk,vd,h⟩:=h;have gk:ls.getD k []=ls[k]:=by rw[aab,aaa hk];rfl
  have sz:∀{n:Nat},n<=40->n<=sizeLine:=λh=>aax h @_;refine⟨ls.map cL,f,rfl,rfl,?_⟩;rw[<-List.map_take];refine dX (jO _) ?_;walk_at "vc";refine(Η (d:=ku ls) rfl (E6 hk) ?_:cI (ku ls) (.int (k:Int)) _ _);refine⟨sz (by show 1<=40;decide),(ls.take f).map cL,[cL ls[k]],rfl,rfl,sz (by simp;omega),?_⟩;refine⟨f,rfl,ls.map cL,k,rfl,rfl,?_⟩;rw[<-List.map_drop,<-List.map_take];refine dX (jO _) ?_;refine⟨(ls.take f).map cL++[cL ls[k]],((ls.drop f).take (k - f)).map cL,rfl,rfl,sz (by simp;omega),?_⟩;refine⟨ls.map cL,k+1,rfl,rfl,?_⟩;rw[<-List.map_drop];refine dX (jO _) ?_;refine⟨(ls.take f).map cL++[cL ls[k]]++((ls.drop f).take (k - f)).map cL,(ls.drop (k+1)).map cL,rfl,rfl,sz (by simp;omega),?_⟩;unfold kK Bz.kK at h;rw[gk]at h;have e:(ls.take f).map cL++[cL ls[k]]++((ls.drop f).take (k - f)).map cL++(ls.drop (k+1)).map cL=(ls.take f++[ls[k]]++(ls.drop f).take (k - f)++ls.drop (k+1)).map cL:=by rw[aa7,aa7,aa7];rfl
  rw[e];exact h
abbrev dz:=Bz.dz
def Dg:DF:=λas M q _=>∃(l h:List Int) (c:Nat) (d:Int),as=[cL l,cL h,.int (c:Int),.int d]/\l.length=h.length/\h.length<=30/\c < h.length/\(∀x∈l,g7 x)/\(∀x∈h,g7 x)/\d≠0/\g7 d/\q (cL (dz l h c d)) M
def mx:Ε ["line","head","column","divisor"] ["line","head","column","divisor"] (χ jz):=.of rfl
def uh(F:dh K "cleared_line" "cleared_line" jz f fd)(E:Ev K mg w Cm):aw P w K mg base (cw P w) 1 f fd ["line","head","column","divisor"] (c7 K Dg):=by
 refine F.dW mx (λds M q x h=>?_) (λaW A outer s H E' hr=>⟨_,(μ (Ζ (Nx (ys:=["divisor","head","column","line"]) (af:=[3,1,2,0]) (.of mx rfl rfl rfl) (BJ E.vq (Ο (jv 0) (Ο (jv 1) θ))) (λC s H fp=>(CM (oB (aI (Ι (jv 3) (jv 4)) (jv 0)) (aI (Ι (jv 5) (jv 4)) (jv 1))) (jv 2)))))),λds M q x h=>?_⟩)
 ·have⟨l,h',c,d,rfl,_⟩:=h;rfl
 ·have⟨l,hd,c,d,rfl,hl,h30,hc,bl,bh,d0,bd,h⟩:=h;have cl:c < l.length:=()
  have g1:hd.getD c 0=hd[c]:=by rw[aab,aaa hc];rfl
  have g2':l.getD c 0=l[c]:=by rw[aab,aaa cl];rfl
  refine⟨cL l,cL hd,l.map Dt.int,hd.map Dt.int,λ_=>True,λ_=>True,rfl,rfl,rfl,?_⟩;have ez:qQ (l.map Dt.int) (hd.map Dt.int)=(l.zip hd).map λp=>.tup [.int p.1,.int p.2]:=by unfold qQ;rw[List.zip_map,aaN];rfl
  rw[ez];refine⟨?_,?_⟩
  ·rw[aae,abF];exact aax (show _<=30 by omega) @_
  refine qc ⟨trivial,trivial⟩ (λx=>match x with| .tup [.int a,.int b]=>.int ((hd.getD c 0 * a - l.getD c 0 * b).fdiv d)| _=>.bU) _ _ (λx hx q' hq=>?_) ?_
  ·have⟨p,hp,rfl⟩:=aai.mp hx;have hq:q' (.int ((hd.getD c 0 * p.1 - l.getD c 0 * p.2).fdiv d)) M:=hq;have p1:=bl p.1 (abK hp).1;have p2:=bh p.2 (abK hp).2;rw[g1,g2']at hq;have key:cI (cL hd) (.int (c:Int)) M (λx M1=>LD x (.int p.1) M1 λy M2=>cI (cL l) (.int (c:Int)) M2 λz M3=>LD z (.int p.2) M3 λu M4=>Lp y u M4 λv M5=>Fl v (.int d) M5 q'):=by refine Η (d:=cL hd) rfl (j8 hc) ⟨⟨bh _ (aaq hc),p1⟩,?_⟩;refine Η (d:=cL l) rfl (j8 cl) ⟨⟨bl _ (aaq cl),p2⟩,?_⟩;exact⟨⟨d0,bd⟩,hq⟩
   exact key
  ·rw[aaW,aaN];unfold dz Bz.dz at h;rw[show cL ((l.zip hd).map λp=>(hd.getD c 0 * p.1 - l.getD c 0 * p.2).fdiv d)= .lst ((l.zip hd).map λp=>Dt.int ((hd.getD c 0 * p.1 - l.getD c 0 * p.2).fdiv d)) by show Dt.lst _=_;rw[aaN];rfl]at h;exact h
def AF{a b:Int}(h0:0<=a)(h:a<=b):∀n:Nat,a ^ n<=b ^ n
 | 0=>by rw[acx,acx];exact acg _
 | n+1=>by rw[abD,abD];exact abb (AF h0 h n) h h0 (abZ ())
def BQ{x:Int}{r:Nat}(h:Bz.Ab x (Bz.top B r))(h1:1<=B)(hB:B<=2 ^ 450)(hr:r<=12):g7 x:=by
 have e1:Bz.top B r<=(12 * B) ^ 15:=Bz.ya h1 ();have e2:(12 * B) ^ 15<=(12 * 2 ^ 450) ^ 15:=AF () () 15;have e3:((12 * 2 ^ 450) ^ 15:Int) < ((2 ^ 8000:Nat):Int):=@_
 have:(x.natAbs:Int) < ((2 ^ 8000:Nat):Int):=by have⟨a,b⟩:=h;omega
 exact abG.mp this
section
variable{col:Nat}{ρ ξ:List Nat}{qq:Nat->Nat}{d:Int}
def Ba{m:Nat}(t:Bz.Turn A n col ρ ξ qq d W)(b:Bz.Bd A n m B)(hB:B<=2 ^ 450)(hm:col<=m)(hr:ρ.length<=12):(∀i,i < n->∀x∈Bz.aJ A n m (W i),g7 x)/\g7 d:=by
 have⟨a1,a2,a3⟩:=t.st.abs b (λc hc=>aat (t.cl c hc) hm) hr;refine⟨λi hi x hx=>?_,BQ a3 b.b1 hB hr⟩;unfold Bz.aJ at hx;rcases aaV.mp hx with z| z
 ·have⟨y,hy,rfl⟩:=aai.mp z;exact BQ (a2 i y hi (abu.mp hy)) b.b1 hB hr
 ·have⟨y,hy,rfl⟩:=aai.mp z;exact BQ (a1 i y hi) b.b1 hB hr
end
def n9(n:Nat):Dt:=.int n
def EO{n:Nat}:∀(l:List Nat),Dt.bX n (l.map n9)
 | []=>trivial
 | _::l=>⟨trivial,EO l⟩
def vY{m:Nat}{l:List Int}(h:l∈Bz.ah A n m W):∃i,i < n/\l=Bz.aJ A n m (W i):=by unfold Bz.ah at h;have⟨i,hi,e⟩:=aai.mp h;exact⟨i,abu.mp hi,e.symm⟩
def sy{α:Type}(a:α):∀u:Nat,(List.replicate u [a]).flatten=List.replicate u a
 | 0=>rfl
 | u+1=>by rw[abt,abI,sy a u];rfl
structure CV(γ:List (List Int))(u:Nat)(B:Int):Prop where
 n1:1<=γ.length
 LS:γ.length<=12
 Si:u<=12
 ml:∀r∈γ,r.length=u+1
 bd:Bz.Bd (Bz.arr γ) γ.length (u+1) B
 nI:B<=2 ^ 450
def Bg:DF:=λas M q _=>∃(γ:List (List Int)) (u:Nat) (B:Int),as=[ku γ,.int (u:Int)]/\CV γ u B/\
 ∀ρ ξ qq d W,Bz.Turn (Bz.arr γ) γ.length u ρ ξ qq d W->q (.tup [ku (Bz.ah (Bz.arr γ) γ.length (u+1) W),.loc M.length]) (M++[.lst (ξ.map n9)])
def bj:Ε ["rows","unknowns","lines","columns","divisor","column","rank","number","head","above","below"] ["rows","unknowns"] (χ tF):=.of rfl
def Bw(F:dh K "cleared" "cleared" tF f fd)(E:Ev K mg w Cm){yO:Addr}{yz:FuncData}(iH:ax P w K mg base 1 "with_weights" ["rows"] Om yO yz){u0:Addr}{uT:FuncData}(ic:ax P w K mg base 1 "number_of_head" ["lines","first","column"] Tu u0 uT){zR:Addr}{za:FuncData}(jC:ax P w K mg base 1 "moved_ahead" ["lines","first","number"] Kg zR za){xm:Addr}{xp:FuncData}(fY:ax P w K mg base 1 "cleared_line" ["line","head","column","divisor"] Dg xm xp):aw P w K mg base (cw P w) 2 f fd ["rows","unknowns"] (c7 K Bg):=by
 refine F.dW bj (λds M q x h=>?_) (λaW A outer s H E' hr=>⟨_,(η (ω 2 bj.nd (dc (ae iH hr ν (Ο (jv 0) θ))))
   (η (ω 3 bj.nd (kG θ))
   (η (ω 4 bj.nd υ)
   (η (ng (dF E.cU (Ο (jv 1) θ)) (av (i:=5) bj.nd rfl (Or.inr rfl)) bq (η (ω 6 bj.nd (dU E.cG (Ο (jv 3) θ)))
   (η (ω 7 bj.nd (ae ic hr ν (Ο (jv 2) (Ο (jv 6) (Ο (jv 5) θ)))))
   (η (aM (KA (jv 7) MN) (μ qw) Τ)
   (η (ω 2 bj.nd (ae jC hr ν (Ο (jv 2) (Ο (jv 6) (Ο (jv 7) θ)))))
   (η (ω 8 bj.nd (Ι (jv 2) (jv 6)))
   (η (iy (i:=9) bj.nd rfl (Or.inl rfl) (ys:=["head","column","divisor"]) (af:=[8,5,4]) (.of bj rfl rfl rfl) (bD (dc (D9 (jv 2) (jv 6)))) (λC s H fp=>(ae fY hr (fW (P:=P) (w:=w)) (Ο (jv 0) (Ο (jv 1) (Ο (jv 2) (Ο (jv 3) θ)))))))
   (η (iy (i:=10) bj.nd rfl (Or.inl rfl) (ys:=["head","column","divisor"]) (af:=[8,5,4]) (.of bj rfl rfl rfl) (bD (dc (qg (jv 2) (bA (jv 6) υ)))) (λC s H fp=>(ae fY hr (fW (P:=P) (w:=w)) (Ο (jv 0) (Ο (jv 1) (Ο (jv 2) (Ο (jv 3) θ)))))))
   (η (ω 2 bj.nd (nq (nq (jv 9) (oz (Ο (jv 8) θ))) (jv 10)))
   (η (ω 4 bj.nd (Ι (jv 8) (jv 5)))
   (μ (eB (e_ (jv 3) (Ο (jv 5) θ))))))))))))))
   (μ (Ζ (c_ (Ο (jv 2) (Ο (jv 3) θ))))))))),λds M q x h=>?_⟩)
 ·have⟨γ,u,B,rfl,_⟩:=h;rfl
 ·have⟨γ,u,B,rfl,ro,h⟩:=h;have n1:=ro.n1;have LS:=ro.LS;have Si:=ro.Si;refine⟨γ,rfl,LS,λr lY=>by rw[ro.ml r lY];omega,λE0'=>?_⟩;rw[Bz.AZ ro.ml];refine mG (d':=ku (Bz.ah (Bz.arr γ) γ.length (u+1) λi=>Bz.ind i)) (.Jj (Nat.le_refl _) (by simp) (jB.old (jO _))) ?_;generalize hA:Bz.arr γ=A at *
  generalize hn:γ.length=n at *
  refine⟨@_,?_⟩;walk_at "vc";refine⟨⟨(),()⟩,?_⟩;refine gw (λzs ρ' M'=>∃(c k:Nat) (ρ ξ:List Nat) (qq:Nat->Nat) (d:Int) (W:Nat->Bz.Row) (o1 o2 o3 o4 o5 o6:Option Dt),zs=e6 k c/\k+c=u/\Bz.Turn A n k ρ ξ qq d W/\M'=M++[MO.lst (ξ.map n9)]/\ρ'=[some (ku γ),some (.int (u:Int)),some (ku (Bz.ah A n (u+1) W)),some (.loc M.length),some (.int d),o1,o2,o3,o4,o5,o6]) (λx zs ρ' M' hj gT=>?_) (λρ' M' hj=>?_) _ _ _ ⟨u,0,[],[],id,1,_,none,none,none,none,none,none,by simp,by simp,Bz.Turn.start,rfl,rfl⟩
  ·have⟨c,k,ρ,ξ,qq,d,W,o1,o2,o3,o4,o5,o6,ex,hkc,t,rfl,rfl⟩:=hj;have⟨m,rfl,rfl,rfl⟩:=fF ex;have lc:ξ.length=ρ.length:=t.st.lc;have rn:ρ.length<=n:=t.st.rn;have hs1:mf (M++[MO.lst (ξ.map n9)]) (.loc M.length)=some (ξ.map n9):=KI (wQ bM);walk_at "vc";refine(aO (d:=.loc M.length) hs1 ?_:iL [.loc M.length] _ _);rw[aae,lc];refine⟨Bz.ah A n (u+1) W,ρ.length,k,rfl,by rw[Bz.dJ];exact rn,by rw[Bz.dJ];exact LS,λl hl=>?_,λhz=>?_,λk' h1 h2 h0=>?_⟩
   ·have⟨i,_,rfl⟩:=vY hl;rw[Bz.fc];omega
   ·refine⟨λ_=>?_,nofun⟩;refine gT _ _ ⟨m,k+1,ρ,ξ,qq,d,W,_,_,_,_,_,_,by simp,(),t.skip λi a b=>?_,rfl,rfl⟩;have:=hz i a (by rw[Bz.dJ];exact b);rw[Bz.lq b,Bz.iA ()]at this;exact this
   ·rw[Bz.dJ]at h2;rw[Bz.lq h2,Bz.iA (show k < u+1 by omega)]at h0;refine⟨nofun,λ_=>?_⟩;refine⟨Bz.ah A n (u+1) W,ρ.length,k',rfl,h1,by rw[Bz.dJ];exact h2,by rw[Bz.dJ];exact LS,?_⟩;rw[show kK (Bz.ah A n (u+1) W) ρ.length k'=_ from Bz.AG h1 h2];have t1:=t.move h1 h2;have So:ρ.length < n:=()
    have h0':Bz.rv A n (W (Bz.js ρ.length k' ρ.length)) k≠0:=by
     have:Bz.js ρ.length k' ρ.length=k':=by unfold Bz.js;rw[if_neg (Nat.lt_irrefl _),if_pos rfl]
     rw[this];exact h0
    clear h0 h1 h2 t;generalize hW1:(λi=>W (Bz.js ρ.length k' i))=W1 at *
    generalize Sv:(λi=>qq (Bz.js ρ.length k' i))=q1 at *
    have e1:W (Bz.js ρ.length k' ρ.length)=W1 ρ.length:=by rw[<-hW1]
    rw[e1]at h0';have⟨bl,bd⟩:=Ba t1 (m:=u+1) (by subst hA hn;exact ro.bd) ro.nI () ();have⟨W',t2,el⟩:=t1.step (m:=u+1) So () h0';have QR:(Bz.ah A n (u+1) W1).length=n:=Bz.dJ;have hdg:(Bz.ah A n (u+1) W1)[ρ.length]'(by rw[QR];exact So)=Bz.aJ A n (u+1) (W1 ρ.length):=by have:=Bz.lq (A:=A) (m:=u+1) (W:=W1) So;rw[aab,aaa (by rw[QR];exact So)]at this;exact this
    have clr:∀l∈Bz.ah A n (u+1) W1,∀q':DQ,q' (cL (dz l (Bz.aJ A n (u+1) (W1 ρ.length)) k d)) (M++[MO.lst (ξ.map n9)])->Dg [cL l,cL (Bz.aJ A n (u+1) (W1 ρ.length)),.int (k:Int),.int d] (M++[MO.lst (ξ.map n9)]) q' (λC fs M'=>l_ [] C fs M'):=λl hl q' nZ=>by have⟨i,hi,rfl⟩:=vY hl;exact⟨_,_,k,d,rfl,by rw[Bz.fc,Bz.fc],by rw[Bz.fc];omega,by rw[Bz.fc];omega,bl i hi,bl _ So,t1.d0,bd,nZ⟩
    walk_at "vc";refine(Η (d:=ku (Bz.ah A n (u+1) W1)) rfl (E6 (by rw[QR];exact So)) ?_:cI (ku (Bz.ah A n (u+1) W1)) (.int (ρ.length:Int)) _ _);rw[hdg];have sz:∀{z:Nat},z<=40->z<=sizeLine:=λh=>aax h @_;refine⟨(Bz.ah A n (u+1) W1).map cL,ρ.length,rfl,rfl,?_⟩;rw[<-List.map_take];refine dX (jO _) ⟨sz (by rw[aae,acu];omega),?_⟩;refine dt (F:=λx a=>x=cL a/\a∈Bz.ah A n (u+1) W1) (f:=λl=>cL (dz l (Bz.aJ A n (u+1) (W1 ρ.length)) k d)) trivial (λx a ha q' nZ=>by have⟨rfl,ha⟩:=ha;exact clr a ha q' nZ) (ig cL _ _ λ_ h=>acp h) ?_;rw[aaW];refine⟨(Bz.ah A n (u+1) W1).map cL,ρ.length+1,rfl,rfl,?_⟩;rw[<-List.map_drop];refine dX (jO _) ⟨sz (by rw[aae,abW];omega),?_⟩;refine dt (F:=λx a=>x=cL a/\a∈Bz.ah A n (u+1) W1) (f:=λl=>cL (dz l (Bz.aJ A n (u+1) (W1 ρ.length)) k d)) trivial (λx a ha q' nZ=>by have⟨rfl,ha⟩:=ha;exact clr a ha q' nZ) (ig cL _ _ λ_ h=>List.mem_of_mem_drop h) ?_;rw[aaW];refine⟨by show 1<=sizeLine;decide,_,_,rfl,rfl,sz (by simp;omega),_,_,rfl,rfl,sz (by simp;omega),?_⟩;have ek:k < (Bz.aJ A n (u+1) (W1 ρ.length)).length:=by rw[Bz.fc];omega
    have ev:(Bz.aJ A n (u+1) (W1 ρ.length))[k]=Bz.rv A n (W1 ρ.length) k:=by have:=Bz.iA (A:=A) (n:=n) (m:=u+1) (x:=k) (w:=W1 ρ.length) ();rw[aab,aaa ek]at this;exact this
    refine Η (d:=cL (Bz.aJ A n (u+1) (W1 ρ.length))) rfl (j8 ek) ?_;rw[ev];refine⟨⟨M.length,_,rfl,bM⟩,M.length,_,_,rfl,rfl,bM,?_,?_⟩
    ·rw[aae,lc];exact aa3 (show _<=12 by omega) @_
    rw[gL];have ee:=aa2 (List.map cL) el;rw[aa7,aa7,aaN,aaN]at ee;refine gT _ _ ⟨m,k+1,ρ++[q1 ρ.length],ξ++[k],q1,_,W',some (.int (k:Int)),some (.int (ρ.length:Int)),some (.int (k':Int)),some (cL (Bz.aJ A n (u+1) (W1 ρ.length))),some (.lst (((Bz.ah A n (u+1) W1).take ρ.length).map λl=>cL (dz l (Bz.aJ A n (u+1) (W1 ρ.length)) k d))),some (.lst (((Bz.ah A n (u+1) W1).drop (ρ.length+1)).map λl=>cL (dz l (Bz.aJ A n (u+1) (W1 ρ.length)) k d))),by simp,(),t2,by simp[n9],?_⟩;show _=[some (ku γ),some (Dt.int (u:Int)),some (Dt.lst ((Bz.ah A n (u+1) W').map cL)),some (Dt.loc M.length),some (Dt.int _),_,_,_,_,_,_];rw[<-ee];rfl
  ·have⟨c,k,ρ,ξ,qq,d,W,o1,o2,o3,o4,o5,o6,ex,hkc,t,rfl,rfl⟩:=hj;have hn0:c=0:=by have:=aa2 List.length ex;unfold e6 at this;simpa using this.symm
   have:k=u:=()
   subst this;exact⟨gV,h _ _ _ _ _ t⟩
def OP:DF:=λas M q _=>∃(γ:List (List Int)) (u:Nat) (B:Int) (ρ ξ:List Nat) (qq:Nat->Nat) (d:Int) (W:Nat->Bz.Row),as=[ku (Bz.ah (Bz.arr γ) γ.length (u+1) W),.lst (ξ.map n9),.int (u:Int),.int (u:Int)]/\CV γ u B/\Bz.Turn (Bz.arr γ) γ.length u ρ ξ qq d W/\ξ=List.range u/\
 q (.loc M.length) (M++[.lst ((List.range u).map λi=>Λ (aD (Bz.rv (Bz.arr γ) γ.length (W i) u) d))])
def ix:Ε ["lines","columns","unknowns","source","told","line","column"] ["lines","columns","unknowns","source"] (χ nu):=.of rfl
def x_(F:dh K "quotients" "quotients" nu f fd)(E:Ev K mg w Cm)(bF:ax P w K mg base 2 "fraction" ["top","bottom"] rH fJ fK):aw P w K mg base (cw P w) 3 f fd ["lines","columns","unknowns","source"] (c7 K OP):=by
 refine F.dW ix (λds M q x h=>?_) (λaW A outer s H E' hr=>⟨_,(η (ω 4 ix.nd (B8 (jI 3 (d:=.lst [.tup [.int 0,.int 1]]) (by rfl)) (jv 2)))
   (η (dR (BJ E.vq (Ο (jv 0) (Ο (jv 1) θ))) (jZ rfl (aV (av (i:=5) ix.nd rfl (Or.inl rfl)) (aV (av (i:=6) ix.nd rfl (Or.inl rfl)) gO))) lG (μ (oJ (jv 4) (jv 6) (ae bF hr ν (ι (Ι (jv 5) (jv 3)) (ι (Ι (jv 5) (jv 6)) θ bQ) bQ)))))
   (μ (Ζ (jv 4))))),λds M q x h=>?_⟩)
 ·have⟨γ,u,B,ρ,ξ,qq,d,W,rfl,_⟩:=h;rfl
 ·have⟨γ,u,B,ρ,ξ,qq,d,W,rfl,ro,t,hc,h⟩:=h;have Si:=ro.Si;have LS:=ro.LS;have hl:ρ.length=u:=by rw[<-t.st.lc,hc,aa9]
  have un:u<=γ.length:=by rw[<-hl];exact t.st.rn
  have⟨bl,bd⟩:=Ba t (m:=u+1) ro.bd ro.nI () ();have d0:=t.d0;have one:∀i,i < u->Bz.rv (Bz.arr γ) γ.length (W i) i=d:=λi hi=>by have:=t.st.one i i () ();rw[aaz rfl,hc,aab,aaT hi]at this;exact this
  generalize hA:Bz.arr γ=A at *
  generalize hn:γ.length=n at *
  let tl:Nat->List Dt:=λk=>(List.range u).map λi=>if i < k then Λ (aD (Bz.rv A n (W i) u) d) else Λ (0,1)
  have t0:(List.replicate (u:Int).toNat [Λ (0,1)]).flatten=tl 0:=by
   show _=(List.range u).map λi=>if i < 0 then _ else Λ (0,1)
   rw[show((u:Int)).toNat=u by omega];apply abv
   ·simp
   ·intro j h1 h2;have e:(List.replicate u [Λ (0,1)]).flatten=List.replicate u (Λ (0,1)):=sy _ u;simp[e]
  have ts:∀k,k < u->(tl k).set k (Λ (aD (Bz.rv A n (W k) u) d))=tl (k+1):=λk hk=>by
   apply abv
   ·simp[tl]
   ·intro j h1 h2;rw[List.getElem_set];simp only[tl,List.getElem_map,List.getElem_range];by_cases e:k=j
    ·subst e;rw[aaz rfl,aaz ()]
    ·rw[aaC e];by_cases f:j < k
     ·rw[aaz f,aaz ()]
     ·rw[aaC f,aaC ()]
  refine⟨[Λ (0,1)],u,rfl,rfl,(),(),?_,?_⟩
  ·show 1 * ((u:Int)).toNat<=sizeLine;exact aax (show _<=12 by omega) @_
  rw[t0];refine⟨ku (Bz.ah A n (u+1) W),.lst (ξ.map n9),_,_,λ_=>True,λ_=>True,rfl,rfl,rfl,?_⟩;have ez:qQ ((Bz.ah A n (u+1) W).map cL) (ξ.map n9)=(List.range u).map λi=>.tup [cL (Bz.aJ A n (u+1) (W i)),n9 i]:=by
   unfold qQ Bz.ah;rw[hc];apply abv
   ·simp;omega
   ·intro j h1 h2;simp
  rw[ez];refine cf (λzs ρ' M'=>∃(k:Nat) (o1 o2:Option Dt),k<=u/\zs=((List.range u).drop k).map (λi=>.tup [cL (Bz.aJ A n (u+1) (W i)),n9 i])/\M'=M++[MO.lst (tl k)]/\ρ'=[some (ku (Bz.ah A n (u+1) W)),some (.lst (ξ.map n9)),some (.int (u:Int)),some (.int (u:Int)),some (.loc M.length),o1,o2]) (λzs ρ' M' hj=>⟨trivial,trivial⟩) (λx zs ρ' M' hj gT=>?_) (λρ' M' hj=>?_) _ _ _ ⟨0,none,none,ab4 _,rfl,rfl,rfl⟩
  ·have⟨k,o1,o2,hk,ex,rfl,rfl⟩:=hj;have A7:k < u:=by
    rcases Nat.lt_or_ge k u with z| z
    ·exact z
    ·rw[List.drop_of_length_le (by simpa using z)]at ex;cases ex
   rw[List.drop_eq_getElem_cons (by simpa using A7),List.map_cons,List.getElem_range]at ex;cases ex;have ek:k < (Bz.aJ A n (u+1) (W k)).length:=by rw[Bz.fc];omega
   have eu:u < (Bz.aJ A n (u+1) (W k)).length:=by rw[Bz.fc];omega
   have v1:(Bz.aJ A n (u+1) (W k))[k]=d:=by have:=Bz.iA (A:=A) (n:=n) (m:=u+1) (x:=k) (w:=W k) ();rw[aab,aaa ek]at this;rw[<-one k A7];exact this
   have v2:(Bz.aJ A n (u+1) (W k))[u]=Bz.rv A n (W k) u:=by have:=Bz.iA (A:=A) (n:=n) (m:=u+1) (x:=u) (w:=W k) ();rw[aab,aaa eu]at this;exact this
   dsimp only[g2,xH];walk_at "vc";refine Η (d:=cL (Bz.aJ A n (u+1) (W k))) rfl (j8 eu) ?_;refine Η (d:=cL (Bz.aJ A n (u+1) (W k))) rfl (j8 ek) ?_;rw[v1,v2];refine⟨bd,λz=>aaP z d0,λ_=>?_⟩;refine⟨M.length,k,_,k,rfl,rfl,bM,?_,?_⟩
   ·rw[show(tl k).length=u by simp[tl]];exact xu A7
   rw[gL];refine gT _ _ ⟨k+1,_,_,A7,rfl,?_,rfl⟩;rw[<-ts k A7];rfl
  ·have⟨k,o1,o2,hk,ex,rfl,rfl⟩:=hj;have:k=u:=by have:=aa2 List.length ex;simp at this;omega
   subst this;have e:tl k=(List.range k).map λi=>Λ (aD (Bz.rv A n (W i) k) d):=abm λi hi=>by rw[aaz (abu.mp hi)]
   rw[e];exact h
def xv:DF:=λas M q _=>∃(γ:List (List Int)) (u:Nat) (B:Int) (ve:List Fr) (z:Bz.Row) (N:Int),as=[ku γ]/\CV γ u B/\1<=u/\ve.length=u/\Bz.PZ (Bz.arr γ) γ.length u z N/\N≠0/\
 (∀i,i < u->0 < (ve.getD i (0,1)).2/\Int.gcd (ve.getD i (0,1)).1 (ve.getD i (0,1)).2=1/\N * (ve.getD i (0,1)).1=z i * (ve.getD i (0,1)).2)/\
 (∀y:Bz.Row,(∀k,k < γ.length->Bz.Δ (λx=>Bz.arr γ k x * y x) u=0)->∀x,x < u->y x=0)/\q (.loc M.length) (M++[.lst (ve.map Λ)])
def eI:Ε ["rows","unknowns","found","lines","columns","line","answer"] ["rows"] (χ o_):=.of rfl
def Ak(F:dh K "answer_of" "answer_of" o_ f fd)(E:Ev K mg w Cm){Jx:Addr}{Km:FuncData}(pN:ax P w K mg base 2 "cleared" ["rows","unknowns"] Bg Jx Km){Dz:Addr}{Dj:FuncData}(lB:ax P w K mg base 3 "quotients" ["lines","columns","unknowns","source"] OP Dz Dj):aw P w K mg base (cw P w) 4 f fd ["rows"] (c7 K xv):=by
 refine F.dW eI (λds M q x h=>?_) (λaW A outer s H E' hr=>⟨_,(η (ω 1 eI.nd (oB (dU E.cG (ι (Ι (jv 0) υ) θ bQ)) υ))
   (η (ω 2 eI.nd (dc (ae pN hr ν (Ο (jv 0) (Ο (jv 1) θ)))))
   (η (ω 3 eI.nd (Ι (jv 2) υ))
   (η (ω 4 eI.nd (Ι (jv 2) υ))
   (η (dR (bD (dc (qg (jv 3) (dU E.cG (Ο (jv 4) θ))))) (av (i:=5) eI.nd rfl (Or.inl rfl)) bq (μ (aM (tQ hr (Ι (jv 5) (jv 1)) υ) (μ gf) Τ)))
   (η (ω 6 eI.nd (ae lB hr ν (Ο (jv 3) (Ο (jv 4) (Ο (jv 1) (Ο (jv 1) θ))))))
   (η (aM (vV (dU E.cG (Ο (jv 4) θ)) (jv 1)) (μ gf) Τ)
   (μ (Ζ (jv 6)))))))))),λds M q x h=>?_⟩)
 ·have⟨γ,u,B,ve,z,N,rfl,_⟩:=h;rfl
 ·have⟨γ,u,B,ve,z,N,rfl,ro,u1,dl,sol,hN,NS,Xp,h⟩:=h;have n1:=ro.n1;have LS:=ro.LS;have Si:=ro.Si;have r0:0 < γ.length:=()
  have m0:γ[0].length=u+1:=ro.ml _ (aaq r0);walk_at "vc";refine(Η (d:=ku γ) rfl (E6 r0) ?_:cI (ku γ) (.int 0) _ _);refine(aO (d:=cL γ[0]) (xs:=γ[0].map Dt.int) rfl ?_:iL [cL γ[0]] _ _);rw[aae,m0];dsimp only[Lp];rw[show(((u+1:Nat):Int) - 1)=(u:Int) by omega];refine⟨γ,u,B,rfl,ro,λρ ξ qq d W t=>?_⟩;have FA:ξ=List.range u:=by
   rcases t.all with e| ⟨x,hx,hf⟩
   ·exact e
   ·have⟨y,y1,y2⟩:=t.kernel hx hf;have:=Xp y y2 x hx;rw[this]at y1;exact aaP () t.d0
  have hl:ρ.length=u:=by rw[<-t.st.lc,FA,aa9]
  have un:u<=γ.length:=by rw[<-hl];exact t.st.rn
  refine mG (d':=.tup [ku (Bz.ah (Bz.arr γ) γ.length (u+1) W),.lst (ξ.map n9)]) (.tup (.cons (.old (jO _)) (.cons (.Jj (Nat.le_refl _) (by simp) (jB.old (EO _))) .nil))) ?_;have told:(List.range u).map (λi=>Λ (aD (Bz.rv (Bz.arr γ) γ.length (W i) u) d))=ve.map Λ:=by
   apply abv
   ·simp[dl]
   ·intro i h1 h2;have hi:i < u:=by simpa using h1
    simp only[List.getElem_map,List.getElem_range];have⟨p0,p1,p2⟩:=NS i hi;have gi:ve.getD i (0,1)=ve[i]:=by rw[aab,aaa ()];rfl
    rw[gi]at p0 p1 p2;have e:=t.told FA sol hi
    congr 1
    have:aD (Bz.rv (Bz.arr γ) γ.length (W i) u) d=(ve[i].1,ve[i].2):=yH t.d0 p0 p1 (by
     refine aaX hN ?_
     grind)
    exact this
  refine(Η (d:=.tup [ku (Bz.ah (Bz.arr γ) γ.length (u+1) W),.lst (ξ.map n9)]) rfl bP ?_:cI (.tup [ku (Bz.ah (Bz.arr γ) γ.length (u+1) W),.lst (ξ.map n9)]) (.int 0) _ _);refine(Η (d:=.tup [ku (Bz.ah (Bz.arr γ) γ.length (u+1) W),.lst (ξ.map n9)]) rfl (ak (j:=1) rfl) ?_:cI (.tup [ku (Bz.ah (Bz.arr γ) γ.length (u+1) W),.lst (ξ.map n9)]) (.int 1) _ _);have lcu:(ξ.map n9).length=u:=by rw[aae,FA,aa9]
  dsimp only[A0,ft,YN,UK];walk_at "vc";refine(aO (d:=.lst (ξ.map n9)) (xs:=ξ.map n9) rfl ?_:iL [.lst (ξ.map n9)] _ _);refine⟨(Bz.ah (Bz.arr γ) γ.length (u+1) W).map cL,(ξ.map n9).length,rfl,rfl,?_⟩;rw[lcu,<-List.map_drop];refine dX (jO _) ?_;have hz:∀l∈(Bz.ah (Bz.arr γ) γ.length (u+1) W).drop u,u < l.length/\l.getD u 0=0:=λl YR=>by
   have⟨j,hj,e⟩:=abl YR;rw[List.getElem_drop]at e;rw[abW,Bz.dJ]at hj;have hu:u+j < γ.length:=()
   have el:l=Bz.aJ (Bz.arr γ) γ.length (u+1) (W (u+j)):=by have:=Bz.lq (A:=Bz.arr γ) (m:=u+1) (W:=W) hu;rw[aab,aaa (by rw[Bz.dJ];exact hu)]at this;rw[<-e];exact this
   rw[el];refine⟨by rw[Bz.fc];omega,?_⟩;rw[Bz.iA ()];exact t.rest sol hN () hu
  refine cf (λzs ρ' M'=>M'=M/\∃(rest:List (List Int)) (o:Option Dt),zs=rest.map cL/\(∀l∈rest,u < l.length/\l.getD u 0=0)/\ρ'=[some (ku γ),some (.int (u:Int)),some (.tup [ku (Bz.ah (Bz.arr γ) γ.length (u+1) W),.lst (ξ.map n9)]),some (ku (Bz.ah (Bz.arr γ) γ.length (u+1) W)),some (.lst (ξ.map n9)),o,none]) (λzs ρ' M' hj=>trivial) (λx zs ρ' M' hj gT=>?_) (λρ' M' hj=>?_) _ _ _ ⟨rfl,_,none,rfl,hz,rfl⟩
  ·have⟨rfl,rest,o,ex,lY,rfl⟩:=hj;cases rest with
   | nil=>cases ex
   | cons l rest=>
    cases ex;have⟨l1,l2⟩:=lY l aad;have lv:l[u]=0:=by rw[aab,aaa l1]at l2;exact l2
    walk_at "vc";refine(Η (d:=cL l) rfl (j8 l1) ?_:cI (cL l) (.int (u:Int)) _ _);rw[lv];exact⟨nofun,λ_=>gT _ _ ⟨rfl,rest,_,rfl,λy hy=>lY y (aac _ hy),rfl⟩⟩
  ·have⟨rfl,rest,o,ex,lY,rfl⟩:=hj;refine⟨γ,u,B,ρ,ξ,qq,d,W,rfl,ro,t,FA,?_⟩;rw[told];walk_at "vc";refine(aO (d:=.lst (ξ.map n9)) (xs:=ξ.map n9) rfl ?_:iL [.lst (ξ.map n9)] _ _);rw[lcu];refine⟨λz=>?_,λ_=>h⟩;have z:(u:Int) < u:=aao z;omega
def KQ(cs ns:List Fr):qQ (cs.map Λ) (ns.map Λ)=(cs.zip ns).map λp=>.tup [Λ p.1,Λ p.2]:=by unfold qQ;rw[List.zip_map,aaN];rfl
structure Ch(B:Int)(c:Fr):Prop where
 pos:0 < c.2
 he:fh c B
 u:eF c
 sz:Sz 300 c
def rL{E B C:Int}(b0:0 < B)(e0:0 < E)(be:B * E < 2 ^ 2200)(c0:0<=C)(c1:C < 2 ^ 300):∀(ps:List (Fr×Fr)) (w:Fr) (j:Nat),j+ps.length<=6->Nb (B * E) (j * C) w->(∀p∈ps,Ch B p.1/\Nb E C p.2)->Nb (B * E) ((j+ps.length:Nat) * C) (ps.foldl (λw p=>dq w (aq p.1 p.2)) w)
 | [],w,j,_,hw,_=>hw
 | p::ps,w,j,hj,hw,h=>by
  rw[aau]at hj;have⟨h1,h2⟩:=h p aad;have jc:((j:Int)+1) * C=j * C+C:=by rw[Int.add_mul,Int.one_mul]
  have jm:((j:Int)+1) * C<=6 * C:=aaD () c0;have j0:0<=(j:Int) * C:=aba () c0;have ht:=Aj h1.pos h1.he h1.u h2 ⟨aap b0 e0,be,c0,acA c1 @_⟩;have hp:=NJ hw ht ⟨aap b0 e0,be,(),()⟩;rw[<-jc]at hp;have:=rL b0 e0 be c0 c1 ps _ (j+1) () (by exact_mod_cast hp) (λq hq=>h q (aac _ hq));rw[abE,aau,show j+(ps.length+1)=j+1+ps.length by omega];exact this
def rQ:DF:=λas M q _=>∃(cs ns:List Fr) (E B C:Int),as=[.lst (cs.map Λ),.lst (ns.map Λ)]/\cs.length<=6/\0 < B/\0 < E/\B * E < 2 ^ 2200/\0<=C/\C < 2 ^ 300/\(∀c∈cs,Ch B c)/\(∀n∈ns,Nb E C n)/\q (Λ (iJ (cs.zip ns))) M
def jd:Ε ["chances","numbers","whole","chance","number"] ["chances","numbers"] (χ uo):=.of rfl
def Cp(F:dh K "weighed" "weighed" uo f fd)(E:Ev K mg w Cm){Ax:Addr}{zL:FuncData}(iM:ax P w K mg base 3 "plus" ["one","other"] Eu Ax zL)(df:ax P w K mg base 3 "times" ["one","other"] tT ni nG):aw P w K mg base (cw P w) 4 f fd ["chances","numbers"] (c7 K rQ):=by
 refine F.dW jd (λds M q x h=>?_) (λaW A outer s H E' hr=>⟨_,(η (ω 2 jd.nd (c_ (ι υ (ι υ θ b_) b_)))
   (η (dR (BJ E.vq (Ο (jv 0) (Ο (jv 1) θ))) (jZ rfl (aV (av (i:=3) jd.nd rfl (Or.inl rfl)) (aV (av (i:=4) jd.nd rfl (Or.inl rfl)) gO))) lG (μ (ω 2 jd.nd (ae iM hr ν (Ο (jv 2) (ι (ae df hr ν (Ο (jv 3) (Ο (jv 4) θ))) θ aY))))))
   (μ (Ζ (jv 2))))),λds M q x h=>?_⟩)
 ·have⟨cs,ns,E,B,C,rfl,_⟩:=h;rfl
 ·have⟨cs,ns,Ep,B,C,rfl,hz,b0,e0,be,c0,c1,hc,hn,h⟩:=h;refine⟨gV,?_⟩;refine⟨.lst (cs.map Λ),.lst (ns.map Λ),cs.map Λ,ns.map Λ,λ_=>True,λ_=>True,rfl,rfl,rfl,?_⟩;rw[KQ];refine cf (λxs ρ M'=>M'=M/\∃(rest:List (Fr×Fr)) (w:Fr) (a b:Option Dt) (j:Nat),xs=rest.map (λp=>.tup [Λ p.1,Λ p.2])/\(∀p∈rest,Ch B p.1/\Nb Ep C p.2)/\Nb (B * Ep) (j * C) w/\j+rest.length<=6/\rest.foldl (λw p=>dq w (aq p.1 p.2)) w=iJ (cs.zip ns)/\ρ=[some (.lst (cs.map Λ)),some (.lst (ns.map Λ)),some (Λ w),a,b]) (λxs ρ M' hj=>⟨trivial,trivial⟩) (λx xs ρ M' hj gT=>?_) (λρ M' hj=>?_) _ _ _ ⟨rfl,cs.zip ns,(0,1),none,none,0,rfl,λp hp=>⟨hc _ (abK hp).1,hn _ (abK hp).2⟩,by rw[Int.natCast_zero,Int.zero_mul];exact Vd,?_,rfl,rfl⟩
  ·have⟨rfl,rest,w,a,b,j,ex,qI,hw,hj,hf,rfl⟩:=hj;cases rest with
   | nil=>cases ex
   | cons p rest=>
    cases ex;have⟨h1,h2⟩:=qI p aad;rw[aau]at hj;have ht:=Aj h1.pos h1.he h1.u h2 ⟨aap b0 e0,be,c0,acA c1 @_⟩;refine⟨p.1,p.2,300,2600,rfl,h1.sz,h2.sz,@_,w,aq p.1 p.2,2600,2600,rfl,hw.sz,ht.sz,@_,?_⟩;refine gT _ _ ⟨rfl,rest,_,_,_,j+1,rfl,λp hp=>qI p (aac _ hp),?_,(),hf,rfl⟩;exact rL b0 e0 be c0 c1 [p] w j (by simp;omega) hw (λq hq=>by rw[List.mem_singleton.mp hq];exact⟨h1,h2⟩)
  ·have⟨rfl,rest,w,a,b,j,ex,qI,hw,hj,hf,rfl⟩:=hj;cases rest with
   | nil=>rw[<-hf]at h;exact h
   | cons p rest=>cases ex
  ·rw[abF];omega
def lL:List Int->Int
 | []=>1
 | a::l=>a * lL l
def kD:∀{l:List Int},(∀a∈l,0 < a)->0 < lL l
 | [],_=>@_
 | a::l,h=>aap (h a aad) (kD λb hb=>h b (aac _ hb))
def rB:∀{l:List Int},(∀a∈l,0 < a/\a<=1000000)->lL l<=1000000 ^ l.length
 | [],_=>@_
 | a::l,h=>by have i:=rB λb hb=>h b (aac _ hb);have p:=kD (l:=l) λb hb=>(h b (aac _ hb)).1;have h0:=h a aad;show a * lL l<=_;rw[aau,abD,aa0 a];exact abb i h0.2 (aag h0.1) (abZ @_)
def nN:∀{l:List Int} {a:Int},a∈l->a∣lL l
 | b::l,a,h=>by
  rcases aaL.mp h with e| e
  ·rw[e];exact⟨lL l,rfl⟩
  ·have⟨c,hc⟩:=nN e;exact⟨b * c,by show b * lL l=_;rw[hc];grind⟩
def Bc{p:Fr}(h:p.2∣E):fh p E:=by have⟨k,e⟩:=h;exact⟨p.1 * k,by rw[e];grind⟩
def uz:∀{l:List Int} {a:Int},(∀b∈l,0 < b)->a∈l->a<=l.sum
 | b::l,a,h,ha=>by
  have ih:∀{l:List Int},(∀b∈l,0 < b)->0<=l.sum:=λ{l}=>by
   induction l with
   | nil=>intro _;exact acg _
   | cons c l ih=>
    intro h;have:=ih λd hd=>h d (aac _ hd);have:=h c aad;rw[List.sum_cons];omega
  rw[List.sum_cons];have h0:=h b aad;rcases aaL.mp ha with e| e
  ·have:=ih λd hd=>h d (aac _ hd);omega
  ·have:=uz (λd hd=>h d (aac _ hd)) e;omega
def Fh{cs:List Fr}(o:qH cs){c:Fr}(hc:c∈cs):0 < c.2/\c.2∣aN cs/\eF c/\Sz 300 c:=by
 have⟨a,b,d⟩:=o.Fe.2 c hc;have B0:=o.b0;have⟨_,_,hB⟩:=jh cs 1 0 @_ (acJ _) λc hc=>⟨(o.Fe.2 c hc).1,acJ _⟩;have dv:c.2∣aN cs:=hB c hc
 have le:=uz (l:=cs.map (j6 (aN cs))) (λb hb=>by
  have⟨x,hx,rfl⟩:=aai.mp hb
  exact o.pos x hx) (aai.mpr ⟨c,hc,rfl⟩)
 rw[o.sum]at le;have wp:=o.pos c hc;unfold j6 at le wp;have⟨m,em⟩:=dv;have em':aN cs / c.2=m:=by rw[em];exact abC m ()
 rw[em']at le wp;have m0:0 < m:=by
  rw[em]at B0;rcases ach 0 m with z| z
  ·exact z
  ·have:=aaA z (aag a);omega
 have c0:0<=c.1:=by
  rcases ach c.1 0 with z| z
  ·have:=aaD (aag z) (aag m0);omega
  ·exact z
 have c1:c.1<=c.2:=by rw[em]at le;exact Int.le_of_mul_le_mul_right le m0
 refine⟨a,⟨m,em⟩,⟨c0,c1⟩,j4 (k:=200) ⟨d,a,?_⟩ @_⟩;have:(c.2.natAbs:Int) < ((2 ^ 200:Nat):Int):=by rw[abe (aag a)];exact b
 exact abG.mp this
abbrev Pl:=List (Int×Int)
def kP(pl:Pl):List Key:=pl.map λp=>Sum.inl p.1
def vP(pl:Pl):List Dt:=pl.map λp=>Dt.int p.2
abbrev dP(pl:Pl):MO:=.fU (kP pl) (vP pl)
def Ξ:Pl->Int->Option Int
 | [],_=>none
 | p::r,i=>if p.1=i then some p.2 else Ξ r i
def iF(pl:Pl)(i v:Int):Pl:=if (Ξ pl i).isSome=true then pl.map (λp=>if p.1=i then (p.1,v) else p) else pl++[(i,v)]
def IP{a:Int}:(decide ((Sum.inl a:Key)=Sum.inl b))=decide (a=b):=by
 by_cases h:a=b
 ·rw[aaI h,aaI (aa2 Sum.inl h)]
 ·rw[aaG h,aaG λz=>h (Sum.inl.inj z)]
def Ae{i:Int}:∀{pl:Pl},eO (kP pl) (vP pl) (Sum.inl i)=(Ξ pl i).map Dt.int
 | []=>rfl
 | p::r=>by
  have ih:=Ae (i:=i) (pl:=r);unfold eO at ih⊢;show(List.find? (λq:Key×Dt=>decide (q.1=Sum.inl i)) ((Sum.inl p.1,Dt.int p.2)::(kP r).zip (vP r))).map (·.2)=Option.map Dt.int (if p.1=i then some p.2 else Ξ r i);rw[List.find?_cons,IP];by_cases h:p.1=i
  ·rw[aaI h,aaz h];rfl
  ·rw[aaG h,aaC h];exact ih
def Md{i:Int}:∀{pl:Pl},LX (kP pl) (Sum.inl i)=(Ξ pl i).isSome
 | []=>rfl
 | p::r=>by
  have ih:=Md (i:=i) (pl:=r);unfold LX at ih⊢;show(decide ((Sum.inl p.1:Key)=Sum.inl i)|| (kP r).any λc=>decide (c=Sum.inl i))=(if p.1=i then some p.2 else Ξ r i).isSome;rw[IP,ih];by_cases h:p.1=i
  ·rw[aaI h,aaz h];rfl
  ·rw[aaG h,aaC h,Bool.false_or]
def Eo{i v:Int}:∀{pl:Pl},mq (Sum.inl i:Key) (Dt.int v) (kP pl) (vP pl)=vP (pl.map λp=>if p.1=i then (p.1,v) else p)
 | []=>rfl
 | p::r=>by
  show(if (Sum.inl p.1:Key)=Sum.inl i then Dt.int v else Dt.int p.2)::mq (Sum.inl i:Key) (Dt.int v) (kP r) (vP r)=Dt.int (if p.1=i then (p.1,v) else p).2::vP (r.map λp=>if p.1=i then (p.1,v) else p);rw[Eo];by_cases h:p.1=i
  ·rw[aaz h,aaz (aa2 Sum.inl h)]
  ·rw[aaC h,aaC λz=>h (Sum.inl.inj z)]
def Bo{i v:Int}:∀{pl:Pl},kP (pl.map λp=>if p.1=i then (p.1,v) else p)=kP pl
 | []=>rfl
 | p::r=>by show(Sum.inl (if p.1=i then (p.1,v) else p).1:Key)::kP (r.map λp=>if p.1=i then (p.1,v) else p)=Sum.inl p.1::kP r;rw[Bo];split <;> rfl
def AO{pl:Pl}{i v:Int}:ia (kP pl) (Sum.inl i)=kP (iF pl i v):=by
 unfold ia iF;rw[Md];split
 ·exact Bo.symm
 ·unfold kP;rw[List.map_append];rfl
def ET{pl:Pl}{i v:Int}:fq (kP pl) (Sum.inl i) (vP pl) (Dt.int v)=vP (iF pl i v):=by
 unfold fq iF;rw[Md];split
 ·exact Eo
 ·unfold vP;rw[List.map_append];rfl
def rE{i v j:Int}:∀{pl:Pl},Ξ (pl.map λp=>if p.1=i then (p.1,v) else p) j=if j=i then (Ξ pl j).map λ_=>v else Ξ pl j
 | []=>by split <;> rfl
 | p::r=>by
  have ih:=rE (i:=i) (v:=v) (j:=j) (pl:=r);rw[aaQ];unfold Ξ;by_cases h:p.1=i
  ·rw[aaz h];by_cases hj:p.1=j
   ·rw[aaz hj,aaz hj,aaz ()];rfl
   ·rw[aaC hj,aaC hj];exact ih
  ·rw[aaC h];by_cases hj:p.1=j
   ·rw[aaz hj,aaz hj,aaC ()]
   ·rw[aaC hj,aaC hj];exact ih
def Fg{i j v:Int}:∀{pl:Pl},Ξ (pl++[(i,v)]) j=if (Ξ pl j).isSome=true then Ξ pl j else if i=j then some v else none
 | []=>rfl
 | p::r=>by
  have ih:=Fg (i:=i) (j:=j) (v:=v) (pl:=r);rw[List.cons_append];unfold Ξ;by_cases hj:p.1=j
  ·rw[aaz hj,aaz hj];rfl
  ·rw[aaC hj,aaC hj];exact ih
def Ez{pl:Pl}{i v j:Int}:Ξ (iF pl i v) j=if j=i then some v else Ξ pl j:=by
 unfold iF;split
 ·rename_i h;rw[rE];split
  ·rename_i e;subst e;have⟨x,hx⟩:=abM.mp h;rw[hx];rfl
  ·rfl
 ·rename_i h;rw[Fg];by_cases e:j=i
  ·subst e;rw[aaC h,aaz rfl,aaz rfl]
  ·rw[aaC e];cases hj:Ξ pl j with
   | none=>rw[if_neg (by simp),if_neg ()]
   | some x=>rfl
def BN(pl:Pl):Prop:=(pl.map (·.1)).Nodup
def FG{i v:Int}:∀{pl:Pl},Ξ pl i=some v->(i,v)∈pl
 | [],h=>by cases h
 | p::r,h=>by
  unfold Ξ at h;split at h
  ·rename_i e;have:p=(i,v):=by rw[<-e,<-aaJ h]
   rw[this];exact aad
  ·exact aac _ (FG h)
def eK{E:Ms}{k:Nat}{m:MO}(h:M[k]? =some m):(M++E)[k]? =some m:=by rw[aas (aaf.mp h).1];exact h
def eL(pl:Pl)(i:Nat)(n:Nat):Bool:=match Ξ pl i with
 | some v=>decide (0<=v)&&decide (v < n)
 | none=>false
def bK(p1 p2:Pl)(k:Str):Option Pl:=if k="one" then some p1 else if k="other" then some p2 else none
def j_(pf:Str->Option Pl)(i:Nat)(r:Rw):Bool:=match pf (kindOf r) with
 | some pl=>eL pl i (Ν r).length
 | none=>true
def gy(γ:List Rw)(pf:Str->Option Pl)(i:Nat):Bool:=match γ[i]? with
 | some r=>j_ pf i r
 | none=>true
def e9(γ:List Rw)(pf:Str->Option Pl):Nat->Pl
 | 0=>[]
 | n+1=>match (γ[n]?).bind λr=>pf (kindOf r) with
  | some pl=>iF (e9 γ pf n) n ((Ξ pl n).getD 0)
  | none=>e9 γ pf n
def yZ(γ:List Rw)(pf:Str->Option Pl):∀n,(e9 γ pf n).length<=n
 | 0=>aaj _
 | n+1=>by
  have ih:=yZ γ pf n;unfold e9;split
  ·unfold iF;split
   ·rw[aae];omega
   ·rw[aah];exact Nat.succ_le_succ ih
  ·omega
def jJ(γ:List Rw)(pf:Str->Option Pl):∀(n i:Nat),Ξ (e9 γ pf n) i=if i < n then ((γ[i]?).bind λr=>pf (kindOf r)).map λpl=>(Ξ pl i).getD 0 else none
 | 0,i=>by rw[aaC (abT _)];rfl
 | n+1,i=>by
  have ih:=jJ γ pf n i;have step:Ξ (e9 γ pf (n+1)) i=if i=n then (match (γ[n]?).bind λr=>pf (kindOf r) with| some pl=>some ((Ξ pl n).getD 0)| none=>Ξ (e9 γ pf n) i) else Ξ (e9 γ pf n) i:=by
   rw[e9];cases hb:(γ[n]?).bind λr=>pf (kindOf r) with
   | none=>dsimp only;split <;> rfl
   | some pl=>
    dsimp only;rw[Ez];by_cases e:i=n
    ·rw[aaz e,aaz ()]
    ·rw[aaC e,aaC ()]
  rw[step,ih];by_cases e:i=n
  ·subst e;rw[aaz rfl,aaC (abJ _),aaz (abA _)];cases(γ[i]?).bind λr=>pf (kindOf r) with
   | none=>rfl
   | some pl=>rfl
  ·rw[aaC e];by_cases h:i < n
   ·rw[aaz h,aaz ()]
   ·rw[aaC h,aaC ()]
def FP{p1 p2:Pl}{k:Str}(h:Γ k=false):bK p1 p2 k=none:=by unfold Γ at h;rw[Bool.or_eq_false_iff,beq_eq_false_iff_ne,beq_eq_false_iff_ne]at h;unfold bK;rw[aaC h.1,aaC h.2]
def R3(M:Ms)(k:Nat)(pf:Str->Option Pl):Prop:=∃ks ds,M[k]? =some (.fU ks ds)/\∀z:Str,LX ks (Sum.inr z)=(pf z).isSome/\∀pl,pf z=some pl->∃k',eO ks ds (Sum.inr z)=some (.loc k')/\M[k']? =some (dP pl)
def R3.app{E:Ms}{k:Nat}{pf:Str->Option Pl}(h:R3 M k pf):R3 (M++E) k pf:=by have⟨ks,ds,a,b⟩:=h;refine⟨ks,ds,eK a,λz=>⟨(b z).1,λpl e=>?_⟩⟩;have⟨k',c,d⟩:=(b z).2 pl e;exact⟨k',c,eK d⟩
def Tg(A:Addr):DF:=λas M q _=>∃ε γ i r k pl,as=[ao A ε γ,.loc k,.int (i:Nat)]/\M[k]? =some (dP pl)/\γ[i]? =some r/\iz r/\q (.bl (eL pl i (Ν r).length)) M
def Gs:Ε ["floor","plan","place"] ["floor","plan","place"] (χ rG):=.of rfl
def C5(F:dh K "has_door" "has_door" rG f fd)(E:Ev K mg w Cm)(ai:cy P w K mg base 2 Cm "doors" ["self","place"] (mz Cm) bx bz):aw P w K mg base (cw P w) 3 f fd ["floor","plan","place"] (c7 K (Tg Cm)):=by
 refine F.dW Gs (λds M q x h=>?_) (λaW A outer s H E' hr=>⟨_,(μ (Ζ (iR (UM hr (jv 2) (jv 1)) (iR (AN υ (pj hr (jv 1) (jv 2))) (jV (BV (pj hr (jv 1) (jv 2)) (dU E.cG (ι (dc (a_ ai hr ν (jv 0) (Ο (jv 2) θ))) θ aY)))))))),λds M q x h=>?_⟩)
 ·have⟨ε,γ,i,r,k,pl,rfl,_⟩:=h;rfl
 ·have⟨ε,γ,i,r,k,pl,rfl,hk,hi,ro,h⟩:=h;unfold eL at h;have gi:(Sum.inl (i:Int):Key)=Sum.inl ((i:Nat):Int):=rfl;refine⟨k,_,_,Sum.inl (i:Int),rfl,hk,rfl,?_⟩;rw[Md];cases hg:Ξ pl i with
  | none=>
   rw[hg]at h;exact⟨nofun,λ_=>h⟩
  | some v=>
   rw[hg]at h;have h:q (.bl (decide (0<=v)&&decide (v < ((Ν r).length:Int)))) M:=h;have dg:eO (kP pl) (vP pl) (Sum.inl (i:Int))=some (.int v):=by rw[Ae,hg];rfl
   refine⟨λ_=>?_,nofun⟩;refine⟨k,_,_,Sum.inl (i:Int),_,rfl,hk,rfl,dg,?_⟩;refine⟨λz=>?_,λz=>?_⟩
   ·have z:0<=v:=aao z;rw[aaI z,Bool.true_and]at h;refine⟨k,_,_,Sum.inl (i:Int),_,rfl,hk,rfl,dg,?_⟩;refine⟨⟨_,_,.inl rfl,rfl⟩,ε,γ,i,r,rfl,hi,ro,dX (gM _) ?_⟩;walk_at "vc";refine(aO (d:=.lst ((Ν r).map cZ)) (xs:=(Ν r).map cZ) rfl ?_:iL [.lst ((Ν r).map cZ)] _ _);rw[aae];exact h
   ·have z:¬0<=v:=aa4 z;rw[aaG z,acH]at h;have key:decide (0<=v)=false:=aaG z;exact h
def zP(A:Addr):DF:=λas M q _=>∃ε γ k pf,as=[ao A ε γ,.loc k]/\R3 M k pf/\k8 ε γ/\(∀i,i < γ.length->gy γ pf i=true)/\q (.loc M.length) (M++[dP (e9 γ pf γ.length)])
def l9:Ε ["floor","plans","doors","place","hand"] ["floor","plans"] (χ ug):=.of rfl
def BK(F:dh K "doors_of" "doors_of" ug f fd)(E:Ev K mg w Cm)(aZ:cy P w K mg base 1 Cm "size" ["self"] (Bm Cm) eN eP)(Κ:cy P w K mg base 1 Cm "kind" ["self","place"] (lu Cm) aB aC){Kn:Addr}{K9:FuncData}(p7:ax P w K mg base 3 "has_door" ["floor","plan","place"] (Tg Cm) Kn K9):aw P w K mg base (cw P w) 4 f fd ["floor","plans"] (c7 K (zP Cm)):=by
 refine F.dW l9 (λds M q x h=>?_) (λaW A outer s H E' hr=>⟨_,(η (ω 2 l9.nd CL)
   (η (ng (dF E.cU (ι (jX aZ hr ν (jv 0)) θ aY)) (av (i:=3) l9.nd rfl (Or.inl rfl)) bq (η (ω 4 l9.nd (a_ Κ hr ν (jv 0) (Ο (jv 3) θ)))
   (η (aM (GW hr (jv 4) (jv 1)) (μ qw) Τ)
   (η (aM (BA (jE (ae p7 hr ν (Ο (jv 0) (ι (pj hr (jv 1) (jv 4)) (Ο (jv 3) θ) bQ))))) (μ gf) Τ)
   (μ (yb hr (jv 2) (jv 3) (pj hr (pj hr (jv 1) (jv 4)) (jv 3))))))))
   (μ (Ζ (jv 2))))),λds M q x h=>?_⟩)
 ·have⟨ε,γ,k,pf,rfl,_⟩:=h;rfl
 ·have⟨ε,γ,k,pf,rfl,tw,pl,gd0,hg⟩:=h;have vd:=pl.len;have km:k≠M.length:=λe=>by have⟨ks,ds,a,_⟩:=tw;rw[e,abL (aaj _)]at a;cases a
  walk_at "vc";refine⟨⟨_,_,.inl rfl,rfl⟩,ε,γ,rfl,?_⟩;refine⟨(),?_⟩;rw[show((γ.length:Int)).toNat=γ.length by omega];refine gw (λzs ρ' M'=>∃(i m:Nat) (o3 o4:Option Dt),zs=e6 (i:Int) m/\i+m=γ.length/\M'=M++[dP (e9 γ pf i)]/\ρ'=[some (ao Cm ε γ),some (.loc k),some (.loc M.length),o3,o4]) (λx zs ρ' M' hj gT=>?_) (λρ' M' hj=>?_) _ _ _ ⟨0,γ.length,none,none,rfl,(),rfl,rfl⟩
  ·have⟨i,m,o3,o4,ex,im,rfl,rfl⟩:=hj;have⟨m',rfl,rfl,rfl⟩:=fF ex;have il:i < γ.length:=()
   have hi:γ[i]? =some γ[i]:=aaa il;generalize hr0:γ[i]=r at *
   have rm:r∈γ:=aak hi;have ro:=(pl.row r rm).1;have ga:gy γ pf i=j_ pf i r:=by unfold gy;rw[hi]
   have ac:∀Aa,pf (kindOf r)=some Aa->e9 γ pf (i+1)=iF (e9 γ pf i) i ((Ξ Aa i).getD 0):=λAa e=>by rw[e9,hi];show(match pf (kindOf r) with| some pl=>_| none=>_)=_;rw[e]
   have an:pf (kindOf r)=none->e9 γ pf (i+1)=e9 γ pf i:=λe=>by rw[e9,hi];show(match pf (kindOf r) with| some pl=>_| none=>_)=_;rw[e]
   have⟨ks,ds,ca,cb⟩:=(tw.app:R3 (M++[dP (e9 γ pf i)]) k pf);refine⟨⟨_,_,.inl rfl,rfl⟩,ε,γ,i,r,rfl,hi,?_⟩;refine⟨k,_,_,Sum.inr (kindOf r),rfl,ca,rfl,?_⟩;rw[(cb (kindOf r)).1];cases hh:pf (kindOf r) with
   | none=>
    refine⟨λ_=>?_,nofun⟩;have e:=hh;refine gT _ _ ⟨i+1,m',_,_,by rw[Int.natCast_add];rfl,(),by rw[an e],rfl⟩
   | some Aa=>
    refine⟨nofun,λ_=>?_⟩;have⟨k',g2,g4⟩:=(cb (kindOf r)).2 Aa hh;have g1:=ca;have g3:=hh;refine⟨k,ks,ds,Sum.inr (kindOf r),_,rfl,g1,rfl,g2,?_⟩;have gr:j_ pf i r=eL Aa i (Ν r).length:=by unfold j_;rw[g3]
    refine⟨ε,γ,i,r,k',Aa,rfl,g4,hi,ro,λz=>?_,λz=>?_⟩
    ·have z:eL Aa i (Ν r).length=false:=by simpa using z
     have:=gd0 i il;rw[ga,gr,z]at this;cases this
    ·have z:eL Aa i (Ν r).length=true:=by simpa using z
     obtain⟨v,hv⟩:∃v,Ξ Aa i=some v:=by
      unfold eL at z;cases hv:Ξ Aa i with
      | none=>rw[hv]at z;cases z
      | some v=>exact⟨v,rfl⟩
     have dg:eO (kP Aa) (vP Aa) (Sum.inl (i:Int))=some (.int v):=by rw[Ae,hv];rfl
     dsimp only[xl,OA];walk_at "vc";refine⟨k,ks,ds,Sum.inr (kindOf r),_,rfl,g1,rfl,g2,?_⟩;refine⟨k',_,_,Sum.inl (i:Int),_,rfl,g4,rfl,dg,?_⟩;refine⟨M.length,_,_,Sum.inl (i:Int),rfl,bM,rfl,?_,?_⟩
     ·unfold kP;rw[List.length_map];have:=yZ γ pf i;omega
     rw[AO (v:=v),ET,gL];have e:=ac Aa g3;rw[hv]at e;have e:e9 γ pf (i+1)=iF (e9 γ pf i) i v:=e;refine gT _ _ ⟨i+1,m',_,_,by rw[Int.natCast_add];rfl,(),by rw[e],rfl⟩
  ·have⟨i,m,o3,o4,ex,im,rfl,rfl⟩:=hj;have m0:m=0:=by have:=aa2 List.length ex;rw[gs]at this;exact this.symm
   have:i=γ.length:=()
   subst this;exact hg
structure iw(γ:List Rw)(Θ:Pl):Prop where
 hand:∀(i:Nat) (r:Rw),γ[i]? =some r->Γ (kindOf r)=true->∃j:Nat,Ξ Θ i=some (j:Int)/\j < (Ν r).length
 Fi:∀(i:Nat) (r:Rw),γ[i]? =some r->Γ (kindOf r)=false->Ξ Θ i=none
def Td{γ:List Rw}{p1 p2:Pl}(h:∀i,i < γ.length->gy γ (bK p1 p2) i=true):iw γ (e9 γ (bK p1 p2) γ.length):=by
 refine⟨λi r hi hk=>?_,λi r hi hk=>?_⟩
 ·have il:=(aaf.mp hi).1;have g:=h i il;unfold gy at g;rw[hi]at g;have g:j_ (bK p1 p2) i r=true:=g;obtain⟨pl,e⟩:∃pl,bK p1 p2 (kindOf r)=some pl:=by
   unfold Γ at hk;rw[Bool.or_eq_true,abH,abH]at hk;rcases hk with e| e <;> rw[e]
   ·exact⟨p1,rfl⟩
   ·exact⟨p2,rfl⟩
  unfold j_ at g;rw[e]at g;have g:eL pl i (Ν r).length=true:=g;unfold eL at g;cases hv:Ξ pl i with
  | none=>rw[hv]at g;cases g
  | some v=>
   rw[hv]at g;have g:(decide (0<=v)&&decide (v < ((Ν r).length:Int)))=true:=g;rw[aav,aam,aam]at g;refine⟨v.toNat,?_,()⟩;rw[jJ,aaz il,hi];show Option.map (λpl=>(Ξ pl i).getD 0) (bK p1 p2 (kindOf r))=_;rw[e];show some ((Ξ pl i).getD 0)=_;rw[hv,ab8 g.1];rfl
 ·have il:=(aaf.mp hi).1;rw[jJ,aaz il,hi];show Option.map (λpl=>(Ξ pl i).getD 0) (bK p1 p2 (kindOf r))=_;rw[FP hk];rfl
def aE(Θ:Pl)(i:Nat)(r:Rw):List bu:=match Ξ Θ i with
 | some j=>let d:=(Ν r).getD j.toNat d0;[(d.1,d.2.1,d.2.2++[(1,1)])]
 | none=>Ν r
def O8(A:Addr):DF:=λas M q _=>∃ε γ i r k Θ,as=[ao A ε γ,.int (i:Nat),.loc k]/\M[k]? =some (dP Θ)/\γ[i]? =some r/\iz r/\iw γ Θ/\q (.lst ((aE Θ i r).map cZ)) M
def tN:Ε ["floor","place","doors","ways"] ["floor","place","doors"] (χ pv):=.of rfl
def zj(F:dh K "ways_from" "ways_from" pv f fd)(E:Ev K mg w Cm)(ai:cy P w K mg base 2 Cm "doors" ["self","place"] (mz Cm) bx bz)(Κ:cy P w K mg base 1 Cm "kind" ["self","place"] (lu Cm) aB aC):aw P w K mg base (cw P w) 3 f fd ["floor","place","doors"] (c7 K (O8 Cm)):=by
 refine F.dW tN (λds M q x h=>?_) (λaW A outer s H E' hr=>⟨_,(η (ω 3 tN.nd (dc (a_ ai hr ν (jv 0) (Ο (jv 1) θ))))
   (η (aM (Dw (a_ Κ hr ν (jv 0) (Ο (jv 1) θ)) (EN E.rP)) (μ (Ζ (oz (ι (bA (Ι (jv 3) (pj hr (jv 2) (jv 1))) (jI 3 (d:=.tup [.tup [.int 1,.int 1]]) (by rfl))) θ bb)))) Τ)
   (μ (Ζ (jv 3))))),λds M q x h=>?_⟩)
 ·have⟨ε,γ,i,r,k,Θ,rfl,_⟩:=h;rfl
 ·have⟨ε,γ,i,r,k,Θ,rfl,hk,hi,ro,dk,h⟩:=h;refine⟨⟨_,_,.inl rfl,rfl⟩,ε,γ,i,r,rfl,hi,ro,dX (gM _) ?_⟩;refine⟨⟨_,_,.inl rfl,rfl⟩,ε,γ,i,r,rfl,hi,?_⟩;refine⟨_,_,_,rfl,rfl,rfl,?_⟩;rw[oK];cases hh:Γ (kindOf r) with
  | true=>
   refine⟨λ_=>?_,nofun⟩;have⟨j,hj,jl⟩:=dk.hand i r hi hh;have dg:eO (kP Θ) (vP Θ) (Sum.inl (i:Int))=some (.int (j:Int)):=by rw[Ae,hj];rfl
   have e:aE Θ i r=[(((Ν r).getD j d0).1,((Ν r).getD j d0).2.1,((Ν r).getD j d0).2.2++[(1,1)])]:=by unfold aE;rw[hj];rfl
   rw[e]at h;have gd:(Ν r).getD j d0=(Ν r)[j]:=by rw[aab,aaa jl];rfl
   have dm:(Ν r)[j].2.2.length<=1:=by
    cases r with
    | fin p=>exact aaP jl (abT _)
    | ο k' ds=>exact(ro.2.2.2 _ (aaq jl)).1
   rw[gd]at h;obtain⟨d,hd⟩:∃d,d=(Ν r)[j]:=⟨_,rfl⟩;rw[<-hd]at h dm;walk_at "vc";refine⟨k,_,_,Sum.inl (i:Int),_,rfl,hk,rfl,dg,?_⟩;refine(Η (d:=.lst ((Ν r).map cZ)) rfl (ON jl) ?_:cI (.lst ((Ν r).map cZ)) (.int (j:Int)) _ _);rw[<-hd];have sz:∀{z:Nat},z<=1000->z<=sizeLine:=λh=>aax h @_;refine⟨⟨nofun,sz ?_⟩,sz @_,?_⟩
   ·simp;omega
   have e2:cZ (d.1,d.2.1,d.2.2++[(1,1)])= .tup ((.int d.1::Λ d.2.1::d.2.2.map Λ)++[.tup [.int 1,.int 1]]):=by unfold cZ;rw[List.map_append];rfl
   have h:q (.lst [cZ (d.1,d.2.1,d.2.2++[(1,1)])]) M:=h;rw[e2]at h;exact h
  | false=>
   refine⟨nofun,λ_=>?_⟩;have e:aE Θ i r=Ν r:=by unfold aE;rw[dk.Fi i r hi hh]
   rw[e]at h;exact h
def dY(f:Nat->Rat):Nat->Rat
 | 0=>0
 | n+1=>dY f n+f n
def aj(f:bu->Rat):List bu->Rat
 | []=>0
 | d::ds=>f d+aj f ds
def eG{f g:Nat->Rat}:∀{n:Nat},(∀i,i < n->f i=g i)->dY f n=dY g n
 | 0,_=>rfl
 | n+1,h=>by show dY f n+f n=dY g n+g n;rw[eG λi hi=>h i (ab2 hi),h n (abA _)]
def tZ(a b:Rat)(f g:Nat->Rat):∀n,dY (λi=>a * f i - b * g i) n=a * dY f n - b * dY g n
 | 0=>by show(0:Rat)=a * 0 - b * 0;grind
 | n+1=>by show dY (λi=>a * f i - b * g i) n+(a * f n - b * g n)=a * (dY f n+f n) - b * (dY g n+g n);rw[tZ a b f g n];grind
def AK{t:Nat}(y:Nat->Rat):∀{n:Nat},n<=t->dY (λx=>(if x=t then 1 else 0) * y x) n=0
 | 0,_=>rfl
 | n+1,h=>by show dY (λx=>(if x=t then 1 else 0) * y x) n+(if n=t then 1 else 0) * y n=0;rw[AK y (),if_neg ()];grind
def tU{t:Nat}(y:Nat->Rat):∀{n:Nat},t < n->dY (λx=>(if x=t then 1 else 0) * y x) n=y t
 | 0,h=>aaP h (abT _)
 | n+1,h=>by
  show dY (λx=>(if x=t then 1 else 0) * y x) n+(if n=t then 1 else 0) * y n=y t;by_cases e:n=t
  ·subst e;rw[AK y (Nat.le_refl _),if_pos rfl];grind
  ·rw[tU y (),if_neg e];grind
def qd(f:Nat->Int):∀n,((Bz.Δ f n:Int):Rat)=dY (λi=>(f i:Rat)) n
 | 0=>rfl
 | n+1=>by show((Bz.Δ f n+f n:Int):Rat)=dY (λi=>(f i:Rat)) n+f n;rw[ab3,qd f n]
def ab(q:Rat):Rat:=if q < 0 then -q else q
def eh{x m:Rat}:ab x<=m↔ -m<=x/\x<=m:=by unfold ab;split <;> grind
def Nn(x:Rat):0<=ab x:=by unfold ab;split <;> grind
def K3(x:Nat->Rat):∀n,∃i,i < n+1/\∀j,j < n+1->ab (x j)<=ab (x i)
 | 0=>⟨0,(),λj hj=>by rw[show j=0 by omega];grind⟩
 | n+1=>by
  have⟨i,hi,h⟩:=K3 x n;by_cases c:ab (x i)<=ab (x (n+1))
  ·refine⟨n+1,(),λj hj=>?_⟩;by_cases e:j=n+1
   ·subst e;grind
   ·have:=h j ();grind
  ·refine⟨i,(),λj hj=>?_⟩;by_cases e:j=n+1
   ·subst e;grind
   ·exact h j ()
def LM{x:Nat->Rat}{s c:Rat}(s1:s < 1)(h:∀i,i < n->∀m,(∀j,j < n->ab (x j)<=m)->ab (x i)<=c+s * m):∀i,i < n->ab (x i) * (1 - s)<=c:=λi hi=>by obtain⟨k,rfl⟩:∃k,n=k+1:=⟨n - 1,()⟩;have⟨t,ht,T4⟩:=K3 x k;have h1:=h t ht _ T4;have h2:=T4 i hi;have:=Rat.mul_le_mul_of_nonneg_right h2 (show 0<=1 - s by grind);grind
def jQ{f g:bu->Rat}:∀{ds:List bu},(∀d∈ds,f d=g d)->aj f ds=aj g ds
 | [],_=>rfl
 | d::ds,h=>by show f d+aj f ds=g d+aj g ds;rw[h d aad,jQ λx hx=>h x (aac _ hx)]
def tH(f g:bu->Rat):∀ds:List bu,aj (λd=>f d - g d) ds=aj f ds - aj g ds
 | []=>by show(0:Rat)=0 - 0;grind
 | d::ds=>by show(f d - g d)+aj (λd=>f d - g d) ds=(f d+aj f ds) - (g d+aj g ds);rw[tH f g ds];grind
abbrev cV(d:bu):Rat:=val (τ d)
structure Dc(n:Nat)(Φ:List bu):Prop where
 to:∀d∈Φ,0<=d.1/\d.1 < n
 c0:∀d∈Φ,0<=cV d
 one:aj cV Φ<=1
def Er{n:Nat}{y:Nat->Rat}{m:Rat}(hm:∀j,j < n->ab (y j)<=m):∀{Φ:List bu},(∀d∈Φ,0<=d.1/\d.1 < n)->(∀d∈Φ,0<=cV d)->ab (aj (λd=>cV d * y d.1.toNat) Φ)<=aj cV Φ * m
 | [],_,_=>by show ab 0<=0 * m;unfold ab;rw[if_neg (by grind)];grind
 | d::Φ,h1,h2=>by have i:=Er hm (λx hx=>h1 x (aac _ hx)) (λx hx=>h2 x (aac _ hx));have⟨a,b⟩:=h1 d aad;have c:=h2 d aad;have y1:=eh.mp (hm d.1.toNat ());show ab (cV d * y d.1.toNat+aj (λd=>cV d * y d.1.toNat) Φ)<=(cV d+aj cV Φ) * m;have e1:=aaR y1.1 c;have e2:=aaR y1.2 c;have i:=eh.mp i;refine eh.mpr ⟨?_,?_⟩ <;> grind
def EG{Φ:List bu}(w:Dc n Φ)(n0:0 < n){y:Nat->Rat}{m:Rat}(hm:∀j,j < n->ab (y j)<=m):ab (aj (λd=>cV d * y d.1.toNat) Φ)<=m:=by
 have:=Er hm w.to w.c0;have m0:0<=m:=by have:=hm 0 n0;have:=Nn (y 0);grind
 have:=abj w.one m0;grind
def KO{c:Fr}(h:0 < c.2)(hd:c.2∣B):((j6 B c:Int):Rat)=val c * B:=by
 have⟨k,rfl⟩:=hd;unfold j6 val;rw[abC _ (),aaK,aaK];have:=aR (show c.2≠0 by omega);generalize (c.1:Rat)=a at *
 generalize (c.2:Rat)=b at *
 generalize (k:Rat)=e at *
 grind
def J6{B:Int}:∀{ds:List bu},(∀d∈ds,0 < (τ d).2/\(τ d).2∣B)->((((ds.map τ).map (j6 B)).sum:Int):Rat)=aj cV ds * B
 | [],_=>by show((0:Int):Rat)=0 * B;grind
 | d::ds,h=>by have i:=J6 (ds:=ds) λx hx=>h x (aac _ hx);have⟨a,b⟩:=h d aad;show(((j6 B (τ d)+((ds.map τ).map (j6 B)).sum:Int)):Rat)=(cV d+aj cV ds) * B;rw[Rat.intCast_add,i,KO a b];grind
def tO{c:Fr}(h:0 < c.2)(h0:0<=c.1):0<=val c:=by
 have e:val c * (c.2:Rat)=c.1:=by
  have:=aR (show c.2≠0 by omega);unfold val;generalize (c.1:Rat)=x at *
  generalize (c.2:Rat)=y at *
  grind
 have p:(0:Rat) < (c.2:Rat):=aaO.mpr h;have q:(0:Rat)<=(c.1:Rat):=aay.mpr h0;by_cases z:0<=val c
 ·exact z
 ·have:=Rat.mul_pos (show 0 < -val c by grind) p;grind
def EL{ds:List bu}(o:qH (ds.map τ)):aj cV ds=1/\∀d∈ds,0<=cV d:=by
 have⟨_,_,hB⟩:=jh (ds.map τ) 1 0 @_ (acJ _) λc hc=>⟨(o.Fe.2 c hc).1,acJ _⟩;have hm:∀d∈ds,τ d∈ds.map τ:=λd hd=>aai.mpr ⟨d,hd,rfl⟩;have e:=J6 (B:=aN (ds.map τ)) (ds:=ds) λd hd=>⟨(o.Fe.2 _ (hm d hd)).1,hB _ (hm d hd)⟩;rw[o.sum]at e;have b0:=aR (show aN (ds.map τ)≠0 by have:=o.b0;omega);refine⟨?_,λd hd=>?_⟩
 ·generalize ((aN (ds.map τ):Int):Rat)=b at *
  grind
 ·refine tO (o.Fe.2 _ (hm d hd)).1 ?_;have p:=o.pos _ (hm d hd);unfold j6 at p;have q0:0<=aN (ds.map τ) / (τ d).2:=acE (aag o.b0) (aag (o.Fe.2 _ (hm d hd)).1);rcases ach (τ d).1 0 with z| z
  ·have:=Int.mul_nonpos_of_nonpos_of_nonneg (aag z) q0;omega
  ·exact z
def vH{p q:Fr}(hp:0 < p.2)(hq:0 < q.2):val (gZ p q)=val p - val q:=by
 unfold gZ;rw[ji (aaZ (aap hp hq))];have h1:=aR (show p.2≠0 by omega);have h2:=aR (show q.2≠0 by omega);rw[Rat.intCast_sub,aaK,aaK,aaK];unfold val;generalize (p.1:Rat)=a at *
 generalize (p.2:Rat)=b at *
 generalize (q.1:Rat)=c at *
 generalize (q.2:Rat)=d at *
 grind
def Ce{p q:Fr}(hp:0 < p.2)(hq:0 < q.2)(h:fh p E)(h':fh q E):fh (gZ p q) E:=by have⟨N,e⟩:=h;have⟨N',e'⟩:=h';unfold gZ;exact oR (N:=N - N') (Int.ne_of_gt (Int.mul_pos hp hq)) (by grind)
def Gz{p q:Fr}{D:Int}(hp:0 < p.2)(hq:0 < q.2)(h:c8 p C)(h':c8 q D):c8 (gZ p q) (C+D):=by
 unfold gZ;have a:=cC h.1 (aag hq);have b:=cC h'.1 (aag hp);have c:=cC h.2 (aag hq);have d:=cC h'.2 (aag hp);refine nM (aap hp hq) ?_ ?_
 ·have e:p.2 * q.2 * (C+D)=p.2 * C * q.2+q.2 * D * p.2:=by grind
  have e2: -(q.2 * D) * p.2= -(q.2 * D * p.2):=by grind
  omega
 ·have e: -(p.2 * q.2 * (C+D))= -(p.2 * C) * q.2+ -(q.2 * D * p.2):=by grind
  omega
structure Nr(E C:Int)(p:Fr):Prop where
 red:Red p
 he:fh p E
 ab:c8 p C
structure mP(n:Nat)(E C:Int)(v:Nat->Rat)(ns:List Fr):Prop where
 len:ns.length=n
 nr:∀x,x < n->Nr E C (ns.getD x (0,1))
 val:∀x,x < n->val (ns.getD x (0,1))=v x
def sC(ε:Fr)(ns:List Fr)(d:bu):List Fr:=ns.set d.1.toNat (gZ (ns.getD d.1.toNat (0,1)) (aq ε (τ d)))
def gX(ε:Fr)(n i:Nat)(Φ:List bu):List Fr:=Φ.foldl (sC ε) ((List.replicate n ((0,1):Fr)).set i (1,1))
def ZA(c:0<=C):Nr E C (0,1):=⟨⟨@_,@_⟩,⟨0,by simp⟩,⟨by show(0:Int)<=1 * C;omega,by show -(1 * C)<=(0:Int);omega⟩⟩
def W8:Nr E 1 (1,1):=⟨⟨@_,@_⟩,⟨E,by simp⟩,⟨@_,@_⟩⟩
def Aw{ns:List Fr}{t x:Nat}{a:Fr}(h:t < ns.length):(ns.set t a).getD x (0,1)=if x=t then a else ns.getD x (0,1):=by
 rw[aab,List.getElem?_set];by_cases e:x=t
 ·subst e;rw[aaz rfl,aaz h,aaz rfl];rfl
 ·rw[aaC (Ne.symm e),aaC e,<-aab]
def K6(hi:i < n):mP n E 1 (λx=>if x=i then 1 else 0) ((List.replicate n ((0,1):Fr)).set i (1,1)):=by
 have g:∀x,((List.replicate n ((0,1):Fr)).set i (1,1)).getD x (0,1)=if x=i then (1,1) else (0,1):=λx=>by
  rw[Aw (by simpa using hi)]
  congr 1
  rw[aab,ab5];split <;> rfl
 refine⟨by simp,λx _=>?_,λx _=>?_⟩
 ·rw[g];split
  ·exact W8
  ·exact ZA @_
 ·rw[g];show Pg.val (if x=i then (1,1) else (0,1))=if x=i then 1 else 0
  unfold Pg.val;split
  ·show((1:Int):Rat) / ((1:Int):Rat)=1;grind
  ·show((0:Int):Rat) / ((1:Int):Rat)=0;grind
structure Sn(ε:Fr)(E:Int)(d:bu):Prop where
 s0:0 < ε.2
 su:eF ε
 c0:0 < (τ d).2
 cu:eF (τ d)
 he:fh (aq ε (τ d)) E
def Sn.nr{ε:Fr}{d:bu}(h:Sn ε E d):Nr E 1 (aq ε (τ d)):=by have p:=aap h.s0 h.c0;have u:=rS h.s0 h.c0 h.su h.cu;have r:Red (aq ε (τ d)):=aP (aaZ p);have rp:=r.pos;have⟨u1,u2⟩:=u;exact⟨r,h.he,⟨(),()⟩⟩
def Aq{ε:Fr}{v:Nat->Rat}{ns:List Fr}{d:bu}(h:mP n E C v ns)(c:0<=C)(hd:0<=d.1/\d.1 < n)(sc:Sn ε E d):mP n E (C+1) (λx=>v x - Pg.val ε * ((if d.1.toNat=x then 1 else 0) * cV d)) (sC ε ns d):=by
 have ht:d.1.toNat < ns.length:=by rw[h.len];omega
 have k:=sc.nr;have g:=λx=>Aw (x:=x) (a:=gZ (ns.getD d.1.toNat (0,1)) (aq ε (τ d))) ht;refine⟨by unfold sC;rw[List.length_set];exact h.len,λx hx=>?_,λx hx=>?_⟩
 ·unfold sC;rw[g];have a:=h.nr x hx;split
  ·rename_i e;rw[<-e];have p:=aap a.red.pos k.red.pos;exact⟨aP (aaZ p),Ce a.red.pos k.red.pos a.he k.he,Gz a.red.pos k.red.pos a.ab k.ab⟩
  ·have:=aaA (show C<=C+1 by omega) (aag a.red.pos);exact⟨a.red,a.he,⟨abc a.ab.1 this,by have:=a.ab.2;omega⟩⟩
 ·unfold sC;rw[g];have a:=h.nr x hx;have b:=h.val x hx;split
  ·rename_i e;rw[<-e,vH a.red.pos k.red.pos,b,eZ sc.s0 sc.c0,if_pos rfl];grind
  ·rename_i e;rw[b,if_neg (Ne.symm e)];grind
def vZ{n:Nat}{ε:Fr}{E:Int}:∀{Φ:List bu} {ns:List Fr} {v:Nat->Rat} {C:Int},(∀d∈Φ,(0<=d.1/\d.1 < n)/\Sn ε E d)->0<=C->mP n E C v ns->mP n E (C+Φ.length) (λx=>v x - Pg.val ε * aj (λd=>(if d.1.toNat=x then 1 else 0) * cV d) Φ) (Φ.foldl (sC ε) ns)
 | [],ns,v,C,_,_,h=>by
  refine⟨h.len,λx hx=>?_,λx hx=>?_⟩
  ·rw[acf,Int.natCast_zero,Int.add_zero];exact h.nr x hx
  ·show _=v x - Pg.val ε * 0;rw[show v x - Pg.val ε * 0=v x by grind];exact h.val x hx
 | d::Φ,ns,v,C,hw,c,h=>by have⟨h1,h2⟩:=hw d aad;have i:=vZ (Φ:=Φ) (λx hx=>hw x (aac _ hx)) () (Aq h c h1 h2);rw[abE,aau,show C+((Φ.length+1:Nat):Int)=C+1+Φ.length by omega];refine⟨i.len,i.nr,λx hx=>?_⟩;rw[i.val x hx];show v x - Pg.val ε * ((if d.1.toNat=x then 1 else 0) * cV d) - Pg.val ε * aj (λd=>(if d.1.toNat=x then 1 else 0) * cV d) Φ=v x - Pg.val ε * ((if d.1.toNat=x then 1 else 0) * cV d+aj (λd=>(if d.1.toNat=x then 1 else 0) * cV d) Φ);grind
def vW(s:Rat)(i:Nat)(Φ:List bu)(x:Nat):Rat:=(if x=i then 1 else 0) - s * aj (λd=>(if d.1.toNat=x then 1 else 0) * cV d) Φ
def NB{ε:Fr}{Φ:List bu}(hi:i < n)(hw:∀d∈Φ,(0<=d.1/\d.1 < n)/\Sn ε E d):mP n E (1+Φ.length) (vW (Pg.val ε) i Φ) (gX ε n i Φ):=vZ hw @_ (K6 hi)
def JB{n i:Nat}{s:Rat}(hi:i < n)(y:Nat->Rat):∀{Φ:List bu},(∀d∈Φ,0<=d.1/\d.1 < n)->dY (λx=>vW s i Φ x * y x) n=y i - s * aj (λd=>cV d * y d.1.toNat) Φ
 | [],_=>by rw[eG (g:=λx=>(if x=i then 1 else 0) * y x) λx _=>by show((if x=i then 1 else 0) - s * 0) * y x=_;grind];rw[tU y hi];show y i=y i - s * 0;grind
 | d::Φ,h=>by
  have⟨a,b⟩:=h d aad;have ih:=JB (s:=s) hi y (Φ:=Φ) λx hx=>h x (aac _ hx)
  rw[eG (g:=λx=>1 * (vW s i Φ x * y x) - (s * cV d) * ((if x=d.1.toNat then 1 else 0) * y x)) λx _=>by
   show((if x=i then 1 else 0) - s * ((if d.1.toNat=x then 1 else 0) * cV d+aj (λd=>(if d.1.toNat=x then 1 else 0) * cV d) Φ)) * y x=1 * (((if x=i then 1 else 0) - s * aj (λd=>(if d.1.toNat=x then 1 else 0) * cV d) Φ) * y x) - (s * cV d) * ((if x=d.1.toNat then 1 else 0) * y x);by_cases e:x=d.1.toNat
   ·rw[if_pos e,if_pos e.symm];grind
   ·rw[if_neg e,if_neg (Ne.symm e)];grind]
  rw[tZ,ih,tU y (show d.1.toNat < n by omega)];show _=y i - s * (cV d * y d.1.toNat+aj (λd=>cV d * y d.1.toNat) Φ);grind
def mC(ns:List Fr):List Int:=ns.map λc=>c.1 * (aN ns / c.2)
def AM{ns:List Fr}(h:∀c∈ns,Nr E C c)(e0:0 < E)(c0:0<=C):0 < aN ns/\aN ns<=E/\∀c∈ns,((j6 (aN ns) c:Int):Rat)=val c * (aN ns:Int)/\ -(C * E)<=j6 (aN ns) c/\j6 (aN ns) c<=C * E:=by
 have b0:0 < aN ns:=fN ns 1 @_ λc hc=>(h c hc).red.pos;have⟨d1,_,d3⟩:=jh ns 1 E @_ (Int.one_dvd _) λc hc=>⟨(h c hc).red.pos,q5 (h c hc).red (h c hc).he⟩;have le:=abY e0 d1;refine⟨b0,le,λc hc=>⟨KO (h c hc).red.pos (d3 c hc),?_⟩⟩;have hd:=d3 c hc;have cp:=(h c hc).red.pos;have⟨a1,a2⟩:=(h c hc).ab;have le:aN ns<=E:=le;have b0:0 < aN ns:=b0;generalize hL:aN ns=L at *
 have hd:c.2∣L:=by rw[<-hL];exact hd
 have⟨k,rfl⟩:=hd;unfold j6;rw[abC _ ()];have k0:0<=k:=by
  rcases ach k 0 with z| z
  ·have:=ab0 cp z;omega
  ·exact z
 have m1:=cC a1 k0;have m2:=cC a2 k0;have m3:=aaA le c0;have e1:c.2 * C * k=C * (c.2 * k):=by grind
 have e2: -(c.2 * C) * k= -(C * (c.2 * k)):=by grind
 exact⟨(),()⟩
def mY(ε:Fr)(n i:Nat)(Φ:List bu)(given:Fr):List Int:=mC (gX ε n i Φ++[given])
structure vn(ε:Fr)(n:Nat)(E C:Int)(Φ:List bu)(given:Fr):Prop where
 wo:Dc n Φ
 sc:∀d∈Φ,Sn ε E d
 gn:Nr E C given
 e0:0 < E
 cl:1+(Φ.length:Int)<=C
def Bb{D:Int}{p:Fr}(h:Nr E C p)(l:C<=D):Nr E D p:=by have:=aaA l (aag h.red.pos);have⟨a,b⟩:=h.ab;exact⟨h.red,h.he,⟨(),()⟩⟩
def Oh{ns:List Fr}{x:Nat}(h:x < ns.length):ns.getD x (0,1)∈ns:=by rw[aab,aaa h];exact aaq h
def BM{ε:Fr}{Φ:List bu}{given:Fr}(hi:i < n)(p:vn ε n E C Φ given):(mY ε n i Φ given).length=n+1/\(∀x∈mY ε n i Φ given,-(C * E)<=x/\x<=C * E)/\∃L:Rat,0 < L/\(∀y:Nat->Rat,dY (λx=>((mY ε n i Φ given).getD x 0:Rat) * y x) n=L * (y i - Pg.val ε * aj (λd=>cV d * y d.1.toNat) Φ))/\((mY ε n i Φ given).getD n 0:Rat)=L * Pg.val given:=by
 have no:=NB hi λd hd=>⟨p.wo.to d hd,p.sc d hd⟩;have c0:0<=C:=by have:=p.cl;omega
 have all:∀c∈gX ε n i Φ++[given],Nr E C c:=λc hc=>by
  rcases aaV.mp hc with z| z
  ·have⟨x,hx,e⟩:=abl z;have YU:x < n:=by rw[<-no.len];exact hx
   have:=no.nr x YU;rw[aab,aaa hx]at this;rw[<-e];exact Bb this p.cl
  ·rw[abq.mp z];exact p.gn
 have⟨b0,bE,hb⟩:=AM all p.e0 c0;have ln:(gX ε n i Φ).length=n:=no.len;have at_:∀x,x < n+1->(mY ε n i Φ given).getD x 0=j6 (aN (gX ε n i Φ++[given])) ((gX ε n i Φ++[given]).getD x (0,1)):=λx hx=>by
  unfold mY mC;have hx:x < (gX ε n i Φ++[given]).length:=by simp[ln];exact hx
  rw[aab,aar,aab,aaa hx];rfl
 have in_:∀x,x < n+1->(gX ε n i Φ++[given]).getD x (0,1)∈gX ε n i Φ++[given]:=λx hx=>Oh (by simp[ln];exact hx);refine⟨by unfold mY mC;simp[ln],λx hx=>?_,((aN (gX ε n i Φ++[given]):Int):Rat),?_,λy=>?_,?_⟩
 ·unfold mY mC at hx;have⟨c,hc,rfl⟩:=aai.mp hx;exact(hb c hc).2
 ·exact aaO.mpr b0
 ·rw[eG (g:=λx=>((aN (gX ε n i Φ++[given]):Int):Rat) * (vW (Pg.val ε) i Φ x * y x) - 0 * 0) λx hx=>by
   rw[at_ x (),(hb _ (in_ x ())).1];have:(gX ε n i Φ++[given]).getD x (0,1)=(gX ε n i Φ).getD x (0,1):=by rw[aab,aas (by rw[ln];exact hx),<-aab]
   rw[this,no.val x hx];grind]
  rw[tZ _ 0 (λx=>vW (Pg.val ε) i Φ x * y x) (λ_=>0),JB hi y p.wo.to];grind
 ·rw[at_ n (),(hb _ (in_ n ())).1];have:(gX ε n i Φ++[given]).getD n (0,1)=given:=by rw[aab,aan (by rw[ln];exact aaj _),ln,acz];rfl
  rw[this];grind
structure Sys(ε:Fr)(n:Nat)(B:Int)(ws:Nat->List bu)(gv:Nat->Fr):Prop where
 n1:1<=n
 s0:0<=Pg.val ε
 s1:Pg.val ε < 1
 b1:1<=B
 GA:∀i,i < n->∃E C,vn ε n E C (ws i) (gv i)/\C * E<=B
def iu(ε:Fr)(n:Nat)(ws:Nat->List bu)(gv:Nat->Fr):List (List Int):=(List.range n).map λi=>mY ε n i (ws i) (gv i)
section
variable{ε:Fr}{ws:Nat->List bu}{gv:Nat->Fr}
def Cd{k x:Nat}(h:k < n):Bz.arr (iu ε n ws gv) k x=(mY ε n k (ws k) (gv k)).getD x 0:=by
 unfold Bz.arr iu
 congr 1
 rw[aab,aar,aaT h];rfl
def lS:(iu ε n ws gv).length=n:=by unfold iu;simp
def Sys.eq(S:Sys ε n B ws gv){k:Nat}(hk:k < n):∃L:Rat,0 < L/\(∀y:Nat->Rat,dY (λx=>(Bz.arr (iu ε n ws gv) k x:Rat) * y x) n=L * (y k - Pg.val ε * aj (λd=>cV d * y d.1.toNat) (ws k)))/\(Bz.arr (iu ε n ws gv) k n:Rat)=L * Pg.val (gv k):=by
 have⟨E,C,p,_⟩:=S.GA k hk;have⟨_,_,L,l0,l1,l2⟩:=BM hk p;refine⟨L,l0,λy=>?_,?_⟩
 ·rw[<-l1 y];exact eG λx _=>by rw[Cd hk]
 ·rw[Cd hk];exact l2
def Sys.zero(S:Sys ε n B ws gv){y:Nat->Rat}(h:∀k,k < n->y k=Pg.val ε * aj (λd=>cV d * y d.1.toNat) (ws k)):∀k,k < n->y k=0:=λk hk=>by
 have:=LM (n:=n) (x:=y) (c:=0) S.s1 (λi hi m hm=>by
  have⟨E,C,p,_⟩:=S.GA i hi;have w:=eh.mp (EG p.wo () hm);have a:=aaR w.1 S.s0;have b:=aaR w.2 S.s0;rw[h i hi]
  refine eh.mpr ⟨?_,?_⟩ <;> grind) k hk
 have a0:=Nn (y k);have s1:=S.s1;have:ab (y k)=0:=by
  by_cases e:ab (y k)=0
  ·exact e
  ·have p:=Rat.mul_pos (show 0 < ab (y k) by grind) (show 0 < 1 - Pg.val ε by grind);grind
 unfold ab at this;split at this <;> grind
def Sys.ker(S:Sys ε n B ws gv)(y:Bz.Row)(h:∀k,k < n->Bz.Δ (λx=>Bz.arr (iu ε n ws gv) k x * y x) n=0):∀x,x < n->y x=0:=λx hx=>by
 have:=S.zero (y:=λx=>(y x:Rat)) (λk hk=>by
  have⟨L,l0,l1,_⟩:=S.eq hk;have e:=aa2 (λz:Int=>(z:Rat)) (h k hk);rw[qd,eG (g:=λx=>(Bz.arr (iu ε n ws gv) k x:Rat) * (y x:Rat)) λx _=>aaK _ _,l1 λx=>(y x:Rat)]at e;have e:L * ((y k:Rat) - Pg.val ε * aj (λd=>cV d * (y d.1.toNat:Rat)) (ws k))=0:=e;rcases Rat.mul_eq_zero.mp e with z| z
  ·grind
  ·grind) x hx
 exact Rat.intCast_eq_zero_iff.mp this
def Sys.bd(S:Sys ε n B ws gv):Bz.Bd (Bz.arr (iu ε n ws gv)) n (n+1) B:=⟨S.b1,λk c hk hc=>by
 have⟨E,C,p,hB⟩:=S.GA k hk;have⟨ln,hb,_⟩:=BM hk p;rw[Cd hk];have:=hb ((mY ε n k (ws k) (gv k)).getD c 0) (by rw[aab,aaa ()];exact aaq _)
 exact⟨(),()⟩⟩
structure Tab(ε:Fr)(n:Nat)(ws:Nat->List bu)(gv:Nat->Fr)(tb:List Fr):Prop where
 len:tb.length=n
 red:∀i,i < n->Red (tb.getD i (0,1))
 eq:∀i,i < n->Pg.val (tb.getD i (0,1))=Pg.val (gv i)+Pg.val ε * aj (λd=>cV d * Pg.val (tb.getD d.1.toNat (0,1))) (ws i)
def Sys.uniq(S:Sys ε n B ws gv){t t':List Fr}(h:Tab ε n ws gv t)(h':Tab ε n ws gv t'):t=t':=by
 have z:=S.zero (y:=λx=>Pg.val (t.getD x (0,1)) - Pg.val (t'.getD x (0,1))) (λk hk=>by
  rw[h.eq k hk,h'.eq k hk];rw[show(λd:bu=>cV d * (Pg.val (t.getD d.1.toNat (0,1)) - Pg.val (t'.getD d.1.toNat (0,1))))=λd=>cV d * Pg.val (t.getD d.1.toNat (0,1)) - cV d * Pg.val (t'.getD d.1.toNat (0,1)) by funext d;grind,tH]
  grind)
 apply abv
 ·rw[h.len,h'.len]
 ·intro i h1 h2;have hi:i < n:=by rw[<-h.len];exact h1
  have a:=h.red i hi;have b:=h'.red i hi;have c:=z i hi;rw[aab,aaa h1]at a c;rw[aab,aaa h2]at b c;exact FF a b (by have c:Pg.val t[i] - Pg.val t'[i]=0:=c;grind)
def Sys.ex(S:Sys ε n B ws gv)(LS:n<=12):∃(tb:List Fr) (z:Bz.Row) (N:Int),Bz.PZ (Bz.arr (iu ε n ws gv)) n n z N/\N≠0/\(∀i,i < n->N * (tb.getD i (0,1)).1=z i * (tb.getD i (0,1)).2)/\Tab ε n ws gv tb/\(∀i,i < n->(tb.getD i (0,1)).2<=(12 * B) ^ n)/\N<=(12 * B) ^ n/\ -N<=(12 * B) ^ n:=by
 have⟨ρ,ξ,q,d,W,t⟩:=Bz.Turn.exists (A:=Bz.arr (iu ε n ws gv)) (n:=n) n;have hc:ξ=List.range n:=by
  rcases t.all with e| ⟨x,h1,h2⟩
  ·exact e
  ·have⟨z,z1,z2⟩:=t.kernel h1 h2;have:=S.ker z z2 x h1;rw[z1]at this;exact aaP () t.d0
 have lr:ρ.length=n:=by rw[<-t.st.lc,hc,aa9]
 have sol:=t.SY λi h1 h2=>aaP h1 ();have d0:=t.d0;generalize hz:Bz.LQ (Bz.arr (iu ε n ws gv)) n W ξ n ξ.length=z at *
 have g:∀i,i < n->((List.range n).map λi=>aD (z i) d).getD i (0,1)=aD (z i) d:=λi hi=>by rw[aab,aar,aaT hi];rfl
 refine⟨(List.range n).map λi=>aD (z i) d,z,d,sol,d0,λi hi=>?_,⟨by simp,λi hi=>?_,λi hi=>?_⟩,λi hi=>?_,?_⟩
 ·rw[g i hi,<-cQ d0]
 ·rw[g i hi];exact aP d0
 ·have⟨L,l0,l1,l2⟩:=S.eq hi;have⟨E,C,p,_⟩:=S.GA i hi;have e:=aa2 (λz:Int=>(z:Rat)) (sol i hi);rw[qd,eG (g:=λx=>(Bz.arr (iu ε n ws gv) i x:Rat) * (z x:Rat)) λx _=>aaK _ _,l1 λx=>(z x:Rat),aaK,l2]at e;rw[g i hi,ji d0]
  rw[jQ (g:=λdd=>(1 / (d:Rat)) * (cV dd * (z dd.1.toNat:Rat)) - 0) λdd hdd=>by
   have⟨a,b⟩:=p.wo.to dd hdd;rw[g _ (),ji d0];have:=aR d0
   grind]
  have sc:∀(k:Rat) (ds:List bu),aj (λdd=>k * (cV dd * (z dd.1.toNat:Rat)) - 0) ds=k * aj (λdd=>cV dd * (z dd.1.toNat:Rat)) ds:=λk ds=>by
   induction ds with
   | nil=>show(0:Rat)=k * 0;grind
   | cons a ds ih=>
    show k * (cV a * (z a.1.toNat:Rat)) - 0+aj (λdd=>k * (cV dd * (z dd.1.toNat:Rat)) - 0) ds=k * (cV a * (z a.1.toNat:Rat)+aj (λdd=>cV dd * (z dd.1.toNat:Rat)) ds);rw[ih];grind
  rw[sc];have:=aR d0;have e:L * ((z i:Rat) - Pg.val ε * aj (λdd=>cV dd * (z dd.1.toNat:Rat)) (ws i))=(d:Rat) * (L * Pg.val (gv i)):=e;have e2:(z i:Rat) - Pg.val ε * aj (λdd=>cV dd * (z dd.1.toNat:Rat)) (ws i)=(d:Rat) * Pg.val (gv i):=by
   have:L * ((z i:Rat) - Pg.val ε * aj (λdd=>cV dd * (z dd.1.toNat:Rat)) (ws i) - (d:Rat) * Pg.val (gv i))=0:=by grind
   rcases Rat.mul_eq_zero.mp this with y| y
   ·grind
   ·grind
  grind
 ·rw[g i hi];have ad:=t.st.Ur S.bd (λc Bv=>aat (t.cl c Bv) (Nat.le_succ _)) ();rw[lr]at ad;have l:=i7 (t:=z i) d0;have q0:=bJ (t:=z i) d0;have⟨a1,a2⟩:=ad;omega
 ·have ad:=t.st.Ur S.bd (λc Bv=>aat (t.cl c Bv) (Nat.le_succ _)) ();rw[lr]at ad;have⟨a1,a2⟩:=ad;exact⟨(),()⟩
end
def LC{d:bu}{c:Fr}{q:DQ}(e:d.2.2=[c])(h:q (Λ c) M):cI (cZ d) (.int 2) M q:=by unfold cZ;rw[e];exact Η (xs:=[.int d.1,Λ d.2.1,Λ c]) rfl (ak (j:=2) rfl) h
def Q6{k:Nat}(h:M[k]? =some (MO.lst xs)):mf M (.loc k)=some xs:=by show(match M[k]? with| some (MO.lst xs)=>some xs| _=>none)=some xs;rw[h]
def Kk{p:Fr}(h:Nr E C p)(e0:0 < E)(e1:E < 2 ^ 190)(c0:0<=C)(c1:C < 2 ^ 110):Sz 300 p:=vI (k:=190) (m:=110) h.red h.he e0 e1 h.ab c0 c1
def J1:DF:=λas M q _=>∃(ns:List Fr) (E C:Int),as=[.lst (ns.map Λ)]/\ns.length<=13/\(∀c∈ns,Nr E C c)/\0 < E/\E < 2 ^ 190/\0<=C/\C < 2 ^ 110/\q (cL (mC ns)) M
def nD:Ε ["numbers","bottom"] ["numbers"] (χ oQ):=.of rfl
def AB(F:dh K "whole_row" "whole_row" oQ f fd)(E:Ev K mg w Cm){d_:Addr}{d8:FuncData}(aU:ax P w K mg base 2 "common_bottom" ["chances"] fR d_ d8):aw P w K mg base (cw P w) 3 f fd ["numbers"] (c7 K J1):=by
 refine F.dW nD (λds M q x h=>?_) (λaW A outer s H E' hr=>⟨_,(η (ω 1 nD.nd (ae aU hr ν (Ο (jv 0) θ)))
   (μ (Ζ (fS (ys:=["bottom"]) (af:=[1]) (.of nD rfl rfl rfl) (bD (jv 0)) (λC s H fp=>(aI (Ι (jv 0) υ) (eV (jv 1) (Ι (jv 0) υ)))))))),λds M q x h=>?_⟩)
 ·have⟨ns,E,C,rfl,_⟩:=h;rfl
 ·have⟨ns,Ep,C,rfl,hz,hn,e0,e1,c0,c1,h⟩:=h;have⟨b0,bE,_⟩:=AM hn e0 c0;have Y3:∀c∈ns,Sz 300 c:=λc hc=>Kk (hn c hc) e0 e1 c0 c1;have b2:∀c∈ns,c.2 < 2 ^ 200:=λc hc=>by have:=abY e0 (q5 (hn c hc).red (hn c hc).he);exact aaE this (acA e1 @_)
  refine⟨ns,rfl,⟨hz,λc hc=>⟨(hn c hc).red.pos,b2 c hc⟩⟩,?_⟩;walk_at "vc";refine bC (i:=0) rfl rfl ⟨by rw[aae];exact aax hz @_,?_⟩;refine fG (f:=λd=>.int (match d with| .tup [.int a,.int b]=>a * (aN ns / b)| _=>0)) trivial (λx hx q hq=>?_) ?_
  ·have⟨y,hy,rfl⟩:=aai.mp hx;have s:=Y3 y hy;have y0:=(hn y hy).red.pos;refine⟨⟨y0,dQ s @_⟩,⟨gK s @_,?_⟩,hq⟩;exact Co (k:=190) (acE (aag b0) (aag y0)) (aaE (acv _ (aag b0)) (aaE bE e1)) @_
  ·rw[aaW,aaN];have e:ns.map ((λd=>Dt.int (match d with| .tup [.int a,.int b]=>a * (aN ns / b)| _=>0)) ∘ Λ)=(mC ns).map Dt.int:=by unfold mC;rw[aaN];rfl
   rw[e];exact h
structure WJ(E C:Int):Prop where
 e1:E < 2 ^ 190
 c1:C < 2 ^ 110
def U1(A:Addr):DF:=λas M q _=>∃(ε:Fr) (γ:List Rw) (i:Nat) (Φ:List bu) (given:Fr) (E C:Int),as=[ao A ε γ,.int (i:Nat),.lst (Φ.map cZ),Λ ε,Λ given]/\i < γ.length/\γ.length<=12/\ay ε=true/\(∀d∈Φ,∃c,d.2.2=[c])/\vn ε γ.length E C Φ given/\WJ E C/\(∀d∈Φ,Sz 300 (τ d))/\∀E',q (cL (mY ε γ.length i Φ given)) (M++E')
def rK:Ε ["floor","place","ways","share","given","numbers","way"] ["floor","place","ways","share","given"] (χ yu):=.of rfl
def Hv(F:dh K "led_row" "led_row" yu f fd)(E:Ev K mg w Cm)(aZ:cy P w K mg base 1 Cm "size" ["self"] (Bm Cm) eN eP){CI:Addr}{Cy:FuncData}(lV:ax P w K mg base 3 "minus" ["one","other"] Cv CI Cy)(df:ax P w K mg base 3 "times" ["one","other"] tT ni nG){FL:Addr}{HP:FuncData}(mX:ax P w K mg base 3 "whole_row" ["numbers"] J1 FL HP):aw P w K mg base (cw P w) 5 f fd ["floor","place","ways","share","given"] (c7 K (U1 Cm)):=by
 refine F.dW rK (λds M q x h=>?_) (λaW A outer s H E' hr=>⟨_,(η (ω 5 rK.nd (B8 (jI 3 (d:=.lst [.tup [.int 0,.int 1]]) (by rfl)) (jX aZ hr ν (jv 0))))
   (η (oJ (jv 5) (jv 1) (c_ (ι υ (ι υ θ b_) b_)))
   (η (dR (bD (jv 2)) (av (i:=6) rK.nd rfl (Or.inl rfl)) bq (μ (oJ (jv 5) (Ι (jv 6) υ) (ae lV hr ν (ι (Ι (jv 5) (Ι (jv 6) υ)) (ι (ae df hr ν (Ο (jv 3) (ι (Ι (jv 6) υ) θ bQ))) θ aY) bQ)))))
   (μ (Ζ (ae mX hr ν (ι (nq (jv 5) (oz (Ο (jv 4) θ))) θ bb))))))),λds M q x h=>?_⟩)
 ·have⟨ε,γ,i,Φ,given,E,C,rfl,_⟩:=h;rfl
 ·have⟨ε,γ,i,Φ,given,Ep,C,rfl,il,vd,hs,HD,p,sz,hcs,h⟩:=h;have OQ:=ip hs;have e0:=p.e0;have c0:0<=C:=by have:=p.cl;omega
  generalize hn:γ.length=n at *
  refine⟨⟨_,_,.inl rfl,rfl⟩,ε,γ,rfl,?_⟩;rw[hn];refine⟨[Λ (0,1)],n,rfl,rfl,(),(),?_,?_⟩
  ·show 1 * ((n:Int)).toNat<=sizeLine;exact aax (show _<=12 by omega) @_
  rw[show((n:Int)).toNat=n by omega,sy];dsimp only[xH];walk_at "vc";refine⟨gV,?_⟩;refine⟨M.length,(i:Nat),_,i,rfl,rfl,bM,by rw[aa5];exact xu il,?_⟩;rw[gL];have e00:(List.replicate n (Λ (0,1))).set i (.tup [.int 1,.int 1])=((List.replicate n ((0,1):Fr)).set i (1,1)).map Λ:=by rw[List.map_set,List.map_replicate];rfl
  rw[e00];dsimp only[A0,ft];walk_at "vc";refine cf (λzs ρ' M'=>∃(gU rest:List bu) (ns:List Fr) (v:Nat->Rat) (o:Option Dt),Φ=gU++rest/\zs=rest.map cZ/\ns=gU.foldl (sC ε) ((List.replicate n ((0,1):Fr)).set i (1,1))/\mP n Ep (1+gU.length) v ns/\M'=M++[MO.lst (ns.map Λ)]/\ρ'=[some (ao Cm ε γ),some (.int (i:Int)),some (.lst (Φ.map cZ)),some (Λ ε),some (Λ given),some (.loc M.length),o]) (λzs ρ' M' hj=>trivial) (λx zs ρ' M' hj gT=>?_) (λρ' M' hj=>?_) _ _ _ ⟨[],Φ,_,_,none,rfl,rfl,rfl,K6 il,rfl,rfl⟩
  ·have⟨gU,rest,ns,v,o,ew,ex,en,no,rfl,rfl⟩:=hj;cases rest with
   | nil=>cases ex
   | cons d rest=>
    cases ex;have dm:d∈Φ:=by rw[ew];exact aaH _ aad
    have⟨t0,t1⟩:=p.wo.to d dm;have⟨c,hc⟩:=HD d dm;have ec:τ d=c:=by unfold τ;rw[hc];rfl
    have sc:=p.sc d dm;have GS:=hcs d dm;have dl:1+(gU.length:Int)<=C:=by have:=aa2 List.length ew;rw[aah,aau]at this;have:=p.cl;omega
    have tl:d.1.toNat < ns.length:=by rw[no.len];omega
    have Y3:=Kk (Bb (no.nr d.1.toNat ()) dl) e0 sz.e1 c0 sz.c1;have RJ:=Kk (Bb sc.nr (show(1:Int)<=C by omega)) e0 sz.e1 c0 sz.c1;have at_:nY (ns.map Λ) d.1=some (Λ (ns.getD d.1.toNat (0,1))):=by have:=zF tl;rw[show((d.1.toNat:Nat):Int)=d.1 by omega]at this;rw[this,aab,aaa tl];rfl
    have nx:∀o,_:=λo=>gT [some (ao Cm ε γ),some (.int (i:Int)),some (.lst (Φ.map cZ)),some (Λ ε),some (Λ given),some (.loc M.length),o] (M++[MO.lst ((sC ε ns d).map Λ)]) ⟨gU++[d],rest,sC ε ns d,_,o,by rw[ew];simp,rfl,by rw[List.foldl_append,<-en];rfl,by
     have:=Aq no () ⟨t0,t1⟩ sc;rw[show 1+((gU++[d]).length:Int)=1+(gU.length:Int)+1 by simp;omega]
     exact this,rfl,rfl⟩
    dsimp only[gN,xH];walk_at "vc";refine Fc ?_;refine(Η (d:=.loc M.length) (Q6 bM) at_ ?_:cI (.loc M.length) (.int d.1) _ _);refine LC hc ?_;rw[<-ec];refine⟨ε,τ d,11,300,rfl,OQ,GS,@_,?_⟩;refine⟨_,_,300,300,rfl,Y3,RJ,@_,?_⟩;refine Fc ?_;refine⟨M.length,d.1,_,d.1.toNat,rfl,rfl,bM,by rw[aae];have:=xu tl;rwa[show((d.1.toNat:Nat):Int)=d.1 by omega]at this,?_⟩;rw[gL];have:(ns.map Λ).set d.1.toNat (Λ (gZ (ns.getD d.1.toNat (0,1)) (aq ε (τ d))))=(sC ε ns d).map Λ:=by unfold sC;rw[List.map_set]
    rw[this];exact nx _
  ·have⟨gU,rest,ns,v,o,ew,ex,en,no,rfl,rfl⟩:=hj;cases rest with
   | cons d rest=>cases ex
   | nil=>
    rw[aa6]at ew;subst ew;have en:ns=gX ε n i Φ:=en;walk_at "vc";refine⟨by show 1<=sizeLine;decide,ns.map Λ,[Λ given],wQ bM,rfl,?_,?_⟩
    ·rw[aae,no.len];exact aax (show n+1<=13 by omega) @_
    refine⟨ns++[given],Ep,C,by rw[aa7];rfl,by rw[aah,no.len];show n+1<=13;omega,λc hc=>?_,e0,sz.e1,c0,sz.c1,?_⟩
    ·rcases aaV.mp hc with z| z
     ·have⟨x,hx,e⟩:=abl z;have:=no.nr x (by rw[<-no.len];exact hx);rw[aab,aaa hx]at this;rw[<-e];exact Bb this p.cl
     ·rw[abq.mp z];exact p.gn
    rw[en];exact h _
def zT:∀(ps:List (Fr×Fr)) (w:Fr),Red w->(∀p∈ps,0 < p.1.2/\0 < p.2.2)->Red (ps.foldl (λw p=>dq w (aq p.1 p.2)) w)
 | [],w,h,_=>h
 | p::ps,w,h,hp=>by have⟨a,b⟩:=hp p aad;have t:Red (aq p.1 p.2):=aP (aaZ (aap a b));exact zT ps _ (aP (aaZ (aap h.pos t.pos))) λx hx=>hp x (aac _ hx)
def wm:∀(Φ:List bu) (w:Fr),0 < w.2->(∀d∈Φ,0 < (τ d).2/\0 < d.2.1.2)->val (((Φ.map τ).zip (Φ.map (·.2.1))).foldl (λw p=>dq w (aq p.1 p.2)) w)=val w+aj (λd=>cV d * val d.2.1) Φ
 | [],w,_,_=>by show val w=val w+0;grind
 | d::Φ,w,h,hp=>by have⟨a,b⟩:=hp d aad;have t:Red (aq (τ d) d.2.1):=aP (aaZ (aap a b));have u:Red (dq w (aq (τ d) d.2.1)):=aP (aaZ (aap h t.pos));have ih:=wm Φ (dq w (aq (τ d) d.2.1)) u.pos λx hx=>hp x (aac _ hx);rw[aaQ,aaQ,abx,abE,ih,iX h t.pos,eZ a b];show _=val w+(cV d * val d.2.1+aj (λd=>cV d * val d.2.1) Φ);grind
structure FW(ε:Fr)(γ:List Rw)(X C:Int):Prop where
 pl:k8 ε γ
 n1:1<=γ.length
 Wu:∀k ds,Rw.ο k ds∈γ->Γ k=true->∀d∈ds,d.2.2=[]
 pay:∀k ds,Rw.ο k ds∈γ->∃E,0 < E/\E<=X/\∀d∈ds,Nr E C d.2.1
 fin:∀p,Rw.fin p∈γ->∃E,0 < E/\E<=X/\Nr E C p
 x1:X<=10 ^ 36
 c9:9<=C
 c1:C<=10 ^ 30
def bB(n:Nat):Int:=if n<=4 then 2 ^ 1040 else 2 ^ 1600
def AL(n:Nat):bB n<=2 ^ 1600:=by
 unfold bB;split
 ·decide
 ·exact acg _
def ma(X C:Int):Int:=6 * C * (1000000000 * X)
def Qg(Θ:Pl)(i:Nat):Rw->List bu
 | .fin _=>[]
 | .ο k ds=>aE Θ i (.ο k ds)
def R6(Θ:Pl)(i:Nat):Rw->Fr
 | .fin p=>p
 | .ο k ds=>iJ (((aE Θ i (.ο k ds)).map τ).zip ((aE Θ i (.ο k ds)).map (·.2.1)))
def gF(γ:List Rw)(i:Nat):Rw:=γ.getD i (.fin (0,1))
structure Z5(n:Nat)(B E C:Int)(d:bu):Prop where
 to:0<=d.1/\d.1 < n
 one:d.2.2=[τ d]
 ch:Ch B (τ d)
 py:Nr E C d.2.1
section
variable{ε:Fr}{γ:List Rw}{X:Int}{Θ:Pl}
def FW.Φ(fw:FW ε γ X C)(dk:iw γ Θ){k:Str}{ds:List bu}(hi:γ[i]? =some (.ο k ds)):(aE Θ i (.ο k ds)).length<=6/\aj cV (aE Θ i (.ο k ds))=1/\(∀d∈aE Θ i (.ο k ds),0<=cV d)/\∃B E,0 < B/\B<=1000000/\0 < E/\E<=X/\∀d∈aE Θ i (.ο k ds),Z5 γ.length B E C d:=by
 have rm:Rw.ο k ds∈γ:=aak hi;have dr:=bI fw.pl rm;have⟨E,e0,eX,hp⟩:=fw.pay k ds rm;cases hh:Γ k with
 | true=>
  have⟨j,hj,jl⟩:=dk.hand i _ hi hh;have jl:j < ds.length:=jl;have gd:ds.getD j d0=ds[j]:=by rw[aab,aaa jl];rfl
  have dm:=aaq jl;have e:aE Θ i (.ο k ds)=[(ds[j].1,ds[j].2.1,[(1,1)])]:=by unfold aE;rw[hj];show[((ds.getD ((j:Int)).toNat d0).1,(ds.getD ((j:Int)).toNat d0).2.1,(ds.getD ((j:Int)).toNat d0).2.2++[(1,1)])]=_;rw[abQ,gd,fw.Wu k ds rm hh _ dm];rfl
  have v1:cV (ds[j].1,ds[j].2.1,[((1,1):Fr)])=1:=by show((1:Int):Rat) / ((1:Int):Rat)=1;grind
  rw[e];refine⟨by simp,?_,λd hd=>?_,1,E,@_,@_,e0,eX,λd hd=>?_⟩
  ·show cV (ds[j].1,ds[j].2.1,[(1,1)])+0=1;rw[v1];grind
  ·rw[List.mem_singleton.mp hd,v1];grind
  ·rw[abq.mp hd];refine⟨dr.to ds[j] dm,rfl,?_,hp ds[j] dm⟩;show Ch 1 ((1,1):Fr);exact⟨@_,⟨1,@_⟩,⟨@_,@_⟩,j4 (k:=2) ⟨@_,@_,@_⟩ @_⟩
 | false=>
  have hc:k="chance"/\qH (ds.map τ):=by
   rcases dr.kd with z| ⟨_,z⟩
   ·rw[z]at hh;cases hh
   ·exact z
  have⟨rfl,co⟩:=hc;have e:aE Θ i (.ο "chance" ds)=ds:=by unfold aE;rw[dk.Fi i _ hi hh];rfl
  have⟨s1,s2⟩:=EL co;rw[e];refine⟨dr.l6,s1,s2,aN (ds.map τ),E,co.b0,co.b1,e0,eX,λd hd=>?_⟩;have⟨a,b,c,f⟩:=Fh co (aai.mpr ⟨d,hd,rfl⟩);exact⟨dr.to d hd,(dr.ro.2.2.1 rfl).1 d hd,⟨a,Bc b,c,f⟩,hp d hd⟩
def Oz{p:Fr}(h:Nr E C p)(e0:0 < E)(e1:E<=10 ^ 36)(c0:0<=C)(c1:C<=10 ^ 30):Nb E C p:=IK h.red h.he h.ab ⟨e0,aaE e1 @_,c0,aaE c1 @_⟩
def FW.sh(fw:FW ε γ X C):0 < ε.2/\ε.2<=1000/\eF ε/\0<=val ε/\val ε < 1/\1<=1000 * (1 - val ε):=by
 have h:=fw.pl.sh;have⟨a,b,c⟩:=Ll h;unfold ay at h;rw[aav,aav,aam,aam,aam]at h;have⟨h1,h2,h3⟩:=h;have ev:val ε * (ε.2:Rat)=ε.1:=by
  have:=aR (show ε.2≠0 by omega);unfold val;generalize (ε.1:Rat)=x at *
  generalize (ε.2:Rat)=y at *
  grind
 have p:(0:Rat) < (ε.2:Rat):=aaO.mpr a;have q:(ε.2:Rat)<=((1000:Int):Rat):=aay.mpr b;have r:(ε.1:Rat)+((1:Int):Rat)<=(ε.2:Rat):=by rw[<-ab3];exact aay.mpr ()
 have q:(ε.2:Rat)<=1000:=q;have r:(ε.1:Rat)+1<=(ε.2:Rat):=r;have lt:val ε < 1:=by
  by_cases z:val ε < 1
  ·exact z
  ·have:=Rat.mul_le_mul_of_nonneg_right (show 1<=val ε by grind) (Rat.le_of_lt p);grind
 refine⟨a,b,c,tO a h1,lt,?_⟩;have:=Rat.mul_le_mul_of_nonneg_right q (show 0<=1 - val ε by grind);grind
def FW.GA(fw:FW ε γ X C)(dk:iw γ Θ){r:Rw}(hi:γ[i]? =some r):∃E,vn ε γ.length E (6 * C) (Qg Θ i r) (R6 Θ i r)/\6 * C * E<=ma X C/\WJ E (6 * C)/\(∀d∈Qg Θ i r,∃c,d.2.2=[c])/\∀d∈Qg Θ i r,Sz 300 (τ d):=by
 have⟨s0,s1,su,_⟩:=fw.sh;have c9:=fw.c9;have c1:=fw.c1;have x1:=fw.x1;have rm:r∈γ:=aak hi;have Va:∀E,E<=1000000000 * X->6 * C * E<=ma X C:=λE h=>aaA h ();cases r with
 | fin p=>
  have⟨E,e0,eX,hp⟩:=fw.fin p rm;exact⟨E,⟨⟨λ_ z=>(nomatch z),λ_ z=>(nomatch z),by show(0:Rat)<=1;grind⟩,λ_ z=>(nomatch z),Bb hp (),e0,by show 1+0<=6 * C;omega⟩,Va E (),⟨Int.lt_of_le_of_lt eX (),()⟩,λ_ z=>(nomatch z),λ_ z=>(nomatch z)⟩
 | ο k ds=>
  have⟨l6,one,pos,B,E,b0,b1,e0,eX,hw⟩:=fw.Φ dk hi;show∃E,vn ε γ.length E (6 * C) (aE Θ i (.ο k ds)) (iJ (((aE Θ i (.ο k ds)).map τ).zip ((aE Θ i (.ο k ds)).map (·.2.1))))/\6 * C * E<=ma X C/\WJ E (6 * C)/\(∀d∈aE Θ i (.ο k ds),∃c,d.2.2=[c])/\∀d∈aE Θ i (.ο k ds),Sz 300 (τ d);generalize Wb:aE Θ i (.ο k ds)=ws at *
  have be0:0 < B * E:=aap b0 e0;have Z_:B * E<=1000000 * X:=abb b1 eX (aag e0) @_;have se0:0 < ε.2 * (B * E):=aap s0 be0;have se1:ε.2 * (B * E)<=1000 * (1000000 * X):=abb s1 Z_ (aag be0) @_
  have nb:=rL (E:=E) (B:=B) (C:=C) b0 e0 (aaE Z_ ()) () () ((ws.map τ).zip (ws.map (·.2.1))) (0,1) 0 (by rw[abF,aae,aae];omega) (by rw[Int.natCast_zero,Int.zero_mul];exact Vd) (λp hp=>by
   have⟨q1,q2⟩:=abK hp;have⟨d1,m1,x1⟩:=aai.mp q1;have⟨d2,m2,x2⟩:=aai.mp q2
   exact⟨by rw[<-x1];exact(hw d1 m1).ch,by rw[<-x2];exact Oz (hw d2 m2).py e0 () () c1⟩)
  have red:Red (iJ ((ws.map τ).zip (ws.map (·.2.1)))):=zT _ _ ⟨@_,@_⟩ λp hp=>by have⟨q1,q2⟩:=abK hp;have⟨d1,m1,x1⟩:=aai.mp q1;have⟨d2,m2,x2⟩:=aai.mp q2;exact⟨by rw[<-x1];exact(hw d1 m1).ch.pos,by rw[<-x2];exact(hw d2 m2).py.red.pos⟩
  refine⟨ε.2 * (B * E),⟨⟨λd hd=>(hw d hd).to,pos,by rw[one];grind⟩,λd hd=>⟨s0,su,(hw d hd).ch.pos,(hw d hd).ch.u,?_⟩,⟨red,?_,?_⟩,se0,()⟩,Va _ (),⟨Int.lt_of_le_of_lt se1 (),()⟩,λd hd=>⟨_,(hw d hd).one⟩,λd hd=>(hw d hd).ch.sz⟩
  ·have:=kB E (jS s0 (hw d hd).ch.pos (i5 ε) (hw d hd).ch.he);rwa[ack]at this
  ·have:=kB ε.2 nb.he;rwa[aa0]at this
  ·refine QK red.pos nb.ab ?_;refine aaD ?_ ();rw[abF,aae,aae];omega
def rw_at(h:i < γ.length):γ[i]? =some (gF γ i):=by unfold gF;rw[aab,aaa h];rfl
abbrev v8(γ:List Rw)(Θ:Pl)(i:Nat):List bu:=Qg Θ i (gF γ i)
abbrev vS(γ:List Rw)(Θ:Pl)(i:Nat):Fr:=R6 Θ i (gF γ i)
def FW.sys(fw:FW ε γ X C)(dk:iw γ Θ)(b1:1<=ma X C):Sys ε γ.length (ma X C) (v8 γ Θ) (vS γ Θ):=by have⟨_,_,_,v0,v1,_⟩:=fw.sh;refine⟨fw.n1,v0,v1,b1,λi hi=>?_⟩;have⟨E,p,l,_⟩:=fw.GA dk (rw_at hi);exact⟨E,_,p,l⟩
structure mh(ε:Fr)(γ:List Rw)(Θ:Pl)(tb:List Fr):Prop where
 tab:Tab ε γ.length (v8 γ Θ) (vS γ Θ) tb
 bot:∀i,i < γ.length->(tb.getD i (0,1)).2 < bB γ.length
 cb:∃N,0 < N/\N < bB γ.length/\∀i,i < γ.length->fh (tb.getD i (0,1)) N
end
def Jp(A:Addr):DF:=λas M q _=>∃ε γ i r k Θ X C,as=[ao A ε γ,.int (i:Nat),.loc k]/\M[k]? =some (dP Θ)/\γ[i]? =some r/\iw γ Θ/\FW ε γ X C/\∀E',q (cL (mY ε γ.length i (Qg Θ i r) (R6 Θ i r))) (M++E')
def oM:Ε ["floor","place","doors","ways","paid"] ["floor","place","doors"] (χ Cq):=.of rfl
def La(F:dh K "row_of" "row_of" Cq f fd)(E:Ev K mg w Cm)(Κ:cy P w K mg base 1 Cm "kind" ["self","place"] (lu Cm) aB aC){Nu:Addr}{Nf:FuncData}(nL:ax P w K mg base 5 "led_row" ["floor","place","ways","share","given"] (U1 Cm) Nu Nf){jn:Addr}{i6:FuncData}(cX:cy P w K mg base 2 Cm "pay" ["self","place"] (ME Cm) jn i6){lI:Addr}{lH:FuncData}(cN:cy P w K mg base 1 Cm "share" ["self"] (DG Cm) lI lH){Hh:Addr}{Hu:FuncData}(nh:ax P w K mg base 3 "ways_from" ["floor","place","doors"] (O8 Cm) Hh Hu){sF:Addr}{tI:FuncData}(gR:ax P w K mg base 4 "weighed" ["chances","numbers"] rQ sF tI):aw P w K mg base (cw P w) 6 f fd ["floor","place","doors"] (c7 K (Jp Cm)):=by
 refine F.dW oM (λds M q x h=>?_) (λaW A outer s H E' hr=>⟨_,(η (aM (cD hr (a_ Κ hr ν (jv 0) (Ο (jv 1) θ)) gP) (μ (Ζ (ae nL hr ν (Ο (jv 0) (Ο (jv 1) (ι (oz θ) (ι (jX cN hr ν (jv 0)) (ι (a_ cX hr ν (jv 0) (Ο (jv 1) θ)) θ aY) aY))))))) Τ)
   (η (ω 3 oM.nd (ae nh hr ν (Ο (jv 0) (Ο (jv 1) (Ο (jv 2) θ)))))
   (η (ω 4 oM.nd (ae gR hr ν (ι (fS (ys:=[]) (af:=[]) (.of oM rfl rfl rfl) (bD (jv 3)) (λC s H fp=>(Ι (jv 0) υ))) (ι (fS (ys:=[]) (af:=[]) (.of oM rfl rfl rfl) (bD (jv 3)) (λC s H fp=>(Ι (jv 0) υ))) θ))))
   (μ (Ζ (ae nL hr ν (Ο (jv 0) (Ο (jv 1) (Ο (jv 3) (ι (jX cN hr ν (jv 0)) (Ο (jv 4) θ) aY)))))))))),λds M q x h=>?_⟩)
 ·have⟨ε,γ,i,r,k,Θ,X,C,rfl,_⟩:=h;rfl
 ·have⟨ε,γ,i,r,k,Θ,X,C,rfl,hk,hi,dk,fw,h⟩:=h;have il:=(aaf.mp hi).1;have vd:=fw.pl.len;have rm:r∈γ:=aak hi;have ro:=(fw.pl.row r rm).1;have⟨Ep,p,_,sz,one,GS⟩:=fw.GA dk hi;have sl:∀{z:Nat},z<=1000->z<=sizeLine:=λh=>aax h @_;refine⟨⟨_,_,.inl rfl,rfl⟩,ε,γ,i,r,rfl,hi,?_⟩;cases r with
  | fin pp=>
   refine⟨λ_=>?_,nofun⟩;walk_at "vc";refine⟨sl @_,?_⟩;refine⟨⟨_,_,.inl rfl,rfl⟩,ε,γ,rfl,?_⟩;refine⟨⟨_,_,.inl rfl,rfl⟩,ε,γ,i,.fin pp,rfl,hi,ro,?_⟩;exact⟨ε,γ,i,[],pp,Ep,6 * C,rfl,il,vd,fw.pl.sh,one,p,sz,GS,h⟩
  | ο kd ds=>
   refine⟨λz=>aaP (aao z) ro.1,λ_=>?_⟩;have⟨l6,_,_,B,E,b0,b1,e0,eX,hw⟩:=fw.Φ dk hi;have c9:=fw.c9;have c1:=fw.c1;have x1:=fw.x1;have h:∀E',q (cL (mY ε γ.length i (aE Θ i (.ο kd ds)) (iJ (((aE Θ i (.ο kd ds)).map τ).zip ((aE Θ i (.ο kd ds)).map (·.2.1)))))) (M++E'):=h;have p:vn ε γ.length Ep (6 * C) (aE Θ i (.ο kd ds)) (iJ (((aE Θ i (.ο kd ds)).map τ).zip ((aE Θ i (.ο kd ds)).map (·.2.1)))):=p;have one:∀d∈aE Θ i (.ο kd ds),∃c,d.2.2=[c]:=one;have GS:∀d∈aE Θ i (.ο kd ds),Sz 300 (τ d):=GS;refine⟨ε,γ,i,.ο kd ds,k,Θ,rfl,hk,hi,ro,dk,?_⟩;generalize aE Θ i (.ο kd ds)=ws at *
   dsimp only[sX,ft];walk_at "vc";refine⟨by rw[aae];exact sl (),?_⟩;refine dt (F:=λx d=>x=cZ d/\d∈ws) (f:=λd=>Λ (τ d)) (as:=ws) trivial (λx d hx qq hq=>?_) (ig cZ ws ws λx hx=>hx) ?_
   ·have⟨rfl,hd⟩:=hx;walk_at "vc";exact LC (hw d hd).one hq
   rw[aaW];refine⟨by rw[aae];exact sl (),?_⟩;refine dt (F:=λx d=>x=cZ d/\d∈ws) (f:=λd=>Λ d.2.1) (as:=ws) trivial (λx d hx qq hq=>?_) (ig cZ ws ws λx hx=>hx) ?_
   ·have⟨rfl,hd⟩:=hx;walk_at "vc";exact KW hq
   rw[aaW];refine⟨ws.map τ,ws.map (·.2.1),E,B,C,by rw[aaN,aaN];rfl,by rw[aae];exact l6,b0,e0,?_,(),(),λc hc=>?_,λc hc=>?_,?_⟩
   ·have:B * E<=1000000 * X:=abb b1 eX (aag e0) @_;exact aaE this ()
   ·have⟨d,hd,rfl⟩:=aai.mp hc;exact(hw d hd).ch
   ·have⟨d,hd,rfl⟩:=aai.mp hc;exact Oz (hw d hd).py e0 () () c1
   refine⟨⟨_,_,.inl rfl,rfl⟩,ε,γ,rfl,?_⟩;exact⟨ε,γ,i,ws,_,Ep,6 * C,rfl,il,vd,fw.pl.sh,one,p,sz,GS,h⟩
def Sx(A:Addr):DF:=λas M q _=>∃ε γ k Θ X C,as=[ao A ε γ,.loc k]/\M[k]? =some (dP Θ)/\iw γ Θ/\FW ε γ X C/\ma X C<=2 ^ 450/\(12 * ma X C) ^ γ.length < bB γ.length/\∀tb,mh ε γ Θ tb->q (.loc M.length) (M++[.lst (tb.map Λ)])
def tR:Ε ["floor","doors"] ["floor","doors"] (χ p_):=.of rfl
def Be(F:dh K "worths_by" "worths_by" p_ f fd)(E:Ev K mg w Cm){Hi:Addr}{Hb:FuncData}(nv:ax P w K mg base 4 "answer_of" ["rows"] xv Hi Hb)(aZ:cy P w K mg base 1 Cm "size" ["self"] (Bm Cm) eN eP){Pz:Addr}{Rt:FuncData}(yG:ax P w K mg base 6 "row_of" ["floor","place","doors"] (Jp Cm) Pz Rt):aw P w K mg base (cw P w) 7 f fd ["floor","doors"] (c7 K (Sx Cm)):=by
 refine F.dW tR (λds M q x h=>?_) (λaW A outer s H E' hr=>⟨_,(μ (Ζ (ae nv hr ν (ι (LJ (ys:=["floor","doors"]) (af:=[0,1]) (.of tR rfl rfl rfl) (dF E.cU (ι (jX aZ hr ν (jv 0)) θ aY)) (λC s H fp=>(dc (ae yG hr (fW (P:=P) (w:=w)) (Ο (jv 1) (Ο (jv 0) (Ο (jv 2) θ))))))) θ)))),λds M q x h=>?_⟩)
 ·have⟨ε,γ,k,Θ,X,C,rfl,_⟩:=h;rfl
 ·have⟨ε,γ,k,Θ,X,C,rfl,hk,dk,fw,nI,xw,h⟩:=h;have vd:=fw.pl.len;have n1:=fw.n1;have b1:1<=ma X C:=by have⟨E,p,l,_⟩:=fw.GA dk (rw_at (show 0 < γ.length by omega));have c9:=fw.c9;have:=aaA (show 1<=E by have:=p.e0;omega) (show 0<=6 * C by omega);omega
  have S:=fw.sys dk b1;have⟨tb,z,N,sol,n0,Ji,tab,bot,nb1,nb2⟩:=S.ex vd;have sl:∀{z:Nat},z<=1000->z<=sizeLine:=λh=>aax h @_;walk_at "vc";dsimp only[zX];walk_at "vc";refine⟨⟨_,_,.inl rfl,rfl⟩,ε,γ,rfl,?_⟩;refine⟨⟨(),()⟩,by rw[gs];exact sl (),?_⟩;refine qi (f:=λx=>match x with| .int j=>cL ((iu ε γ.length (v8 γ Θ) (vS γ Θ)).getD j.toNat [])| _=>.bU) _ _ (λx MJ q' hq=>?_) ?_
  ·have⟨j,hj,rfl⟩:=k7 MJ;have hj:j < γ.length:=()
   rw[Int.zero_add]at hq⊢;have hq:q' (cL ((iu ε γ.length (v8 γ Θ) (vS γ Θ)).getD j [])) M:=hq;have e:(iu ε γ.length (v8 γ Θ) (vS γ Θ)).getD j []=mY ε γ.length j (v8 γ Θ j) (vS γ Θ j):=by unfold iu;rw[aab,aar,aaT hj];rfl
   rw[e]at hq;exact⟨ε,γ,j,gF γ j,k,Θ,X,C,rfl,hk,rw_at hj,dk,fw,λE'=>mG (.old (xN _)) hq⟩
  have er:=D4 (iu ε γ.length (v8 γ Θ) (vS γ Θ)) [] cL;rw[lS]at er;rw[aaW,show((γ.length:Int)).toNat=γ.length by omega];refine(λ(key:∀l,l=(iu ε γ.length (v8 γ Θ) (vS γ Θ)).map cL->xv [.lst l] M q _)=>key _ er) λl hl=>?_;subst hl;have ln:∀r∈iu ε γ.length (v8 γ Θ) (vS γ Θ),r.length=γ.length+1:=λr lY=>by unfold iu at lY;have⟨i,hi,rfl⟩:=aai.mp lY;have⟨E,p,_⟩:=fw.GA dk (rw_at (abu.mp hi));exact(BM (abu.mp hi) p).1
  have bd:=S.bd;refine⟨iu ε γ.length (v8 γ Θ) (vS γ Θ),γ.length,ma X C,tb,z,N,rfl,⟨by rw[lS];exact n1,by rw[lS];exact vd,vd,ln,by rw[lS];exact bd,nI⟩,n1,tab.len,by rw[lS];exact sol,n0,λi hi=>⟨(tab.red i hi).pos,(tab.red i hi).low,Ji i hi⟩,by rw[lS];exact S.ker,?_⟩;refine h tb ⟨tab,λi hi=>aaE (bot i hi) xw,?_⟩;rcases ach 0 N with z0| z0
  ·exact⟨N,z0,(),λi hi=>⟨z i,by rw[aa0];exact Ji i hi⟩⟩
  ·exact⟨-N,(),(),λi hi=>⟨-z i,by have:=Ji i hi;grind⟩⟩
def JF(x:Nat->Rat):∀n,∃i,i < n+1/\∀j,j < n+1->x i<=x j
 | 0=>⟨0,(),λj hj=>by rw[show j=0 by omega];grind⟩
 | n+1=>by
  have⟨i,hi,h⟩:=JF x n;by_cases c:x (n+1)<=x i
  ·refine⟨n+1,(),λj hj=>?_⟩;by_cases e:j=n+1
   ·rw[e];grind
   ·have:=h j ();grind
  ·refine⟨i,(),λj hj=>?_⟩;by_cases e:j=n+1
   ·rw[e];grind
   ·exact h j ()
def xo{n:Nat}{y:Nat->Rat}{m:Rat}(hm:∀j,j < n->m<=y j):∀{Φ:List bu},(∀d∈Φ,0<=d.1/\d.1 < n)->(∀d∈Φ,0<=cV d)->aj cV Φ * m<=aj (λd=>cV d * y d.1.toNat) Φ
 | [],_,_=>by show(0:Rat) * m<=0;grind
 | d::Φ,h1,h2=>by have i:=xo hm (λx hx=>h1 x (aac _ hx)) (λx hx=>h2 x (aac _ hx));have t:=h1 d aad;have:=aaR (hm d.1.toNat ()) (h2 d aad);show(cV d+aj cV Φ) * m<=cV d * y d.1.toNat+aj (λd=>cV d * y d.1.toNat) Φ;grind
def Q9{s:Rat}{ws:Nat->List bu}{δ r:Nat->Rat}(s0:0<=s)(s1:s < 1)(wo:∀i,i < n->Dc n (ws i))(h:∀i,i < n->δ i=r i+s * aj (λd=>cV d * δ d.1.toNat) (ws i))(r0:∀i,i < n->0<=r i):∀i,i < n->r i<=δ i:=λi hi=>by
 obtain⟨k,rfl⟩:∃k,n=k+1:=⟨n - 1,()⟩;have⟨t,ht,T4⟩:=JF δ k;have nn:0<=δ t:=by
  by_cases c:0<=δ t
  ·exact c
  ·have g:=xo T4 (wo t ht).to (wo t ht).c0;have o:=Rat.mul_le_mul_of_nonneg_right (wo t ht).one (show 0<= -δ t by grind);have g2:δ t<=aj (λd=>cV d * δ d.1.toNat) (ws t):=by grind
   have g3:=aaR g2 s0;have e:=h t ht;have r:=r0 t ht;have:=Rat.mul_pos (show 0 < 1 - s by grind) (show 0 < -δ t by grind);grind
 have g:=xo (y:=δ) (m:=0) (λj hj=>by have:=T4 j hj;grind) (wo i hi).to (wo i hi).c0;have:=Rat.mul_nonneg s0 (show 0<=aj (λd=>cV d * δ d.1.toNat) (ws i) by grind);have e:=h i hi;grind
def vN(c:Rat)(f:bu->Rat):∀ds:List bu,aj (λd=>c * f d) ds=c * aj f ds
 | []=>by show(0:Rat)=c * 0;grind
 | d::ds=>by show c * f d+aj (λd=>c * f d) ds=c * (f d+aj f ds);rw[vN c f ds];grind
section
variable{ε:Fr}{ws:Nat->List bu}{gv:Nat->Fr}{tb:List Fr}
def j3(ε:Fr)(ws:Nat->List bu)(gv:Nat->Fr)(x:Nat->Rat)(i:Nat):Rat:=val (gv i)+val ε * aj (λd=>cV d * x d.1.toNat) (ws i)
def Tab.cmp(S:Sys ε n B ws gv)(h:Tab ε n ws gv tb){x:Nat->Rat}{sg:Rat}(hr:∀i,i < n->0<=sg * (j3 ε ws gv x i - x i)):∀i,i < n->sg * (j3 ε ws gv x i - x i)<=sg * (val (tb.getD i (0,1)) - x i):=by
 refine Q9 (δ:=λi=>sg * (val (tb.getD i (0,1)) - x i)) (r:=λi=>sg * (j3 ε ws gv x i - x i)) S.s0 S.s1 (ws:=ws) (λi hi=>?_) (λi hi=>?_) hr
 ·have⟨E,C,p,_⟩:=S.GA i hi;exact p.wo
 ·have e:=h.eq i hi;have l:aj (λd=>cV d * (sg * (val (tb.getD d.1.toNat (0,1)) - x d.1.toNat))) (ws i)=sg * (aj (λd=>cV d * val (tb.getD d.1.toNat (0,1))) (ws i) - aj (λd=>cV d * x d.1.toNat) (ws i)):=by rw[<-tH,<-vN];exact jQ λd _=>by grind
  show sg * (val (tb.getD i (0,1)) - x i)=sg * (j3 ε ws gv x i - x i)+val ε * aj (λd=>cV d * (sg * (val (tb.getD d.1.toNat (0,1)) - x d.1.toNat))) (ws i);rw[l,e];unfold j3;grind
end
def aA:List (Int×Nat)->Pl->Prop
 | [],[]=>True
 | (k,c)::r,(k',v)::p=>k=k'/\0<=v/\v < c/\aA r p
 | _,_=>False
def qG:List (Int×Nat)->List Pl
 | []=>[[]]
 | (k,c)::r=>(List.range c).flatMap λj:Nat=>(qG r).map λp=>(k,(j:Int))::p
def r8:∀{kc:List (Int×Nat)} {p:Pl},aA kc p->p∈qG kc
 | [],[],_=>abq.mpr rfl
 | (k,c)::r,(k',v)::p,h=>by have⟨rfl,v0,v1,h⟩:=h;refine List.mem_flatMap.mpr ⟨v.toNat,abu.mpr (),aai.mpr ⟨p,r8 h,?_⟩⟩;rw[ab8 v0]
 | [],_::_,h=>h.elim
 | _::_,[],h=>h.elim
def bZ:∀{kc:List (Int×Nat)} {p:Pl},aA kc p->p.map (·.1)=kc.map (·.1)
 | [],[],_=>rfl
 | (k,c)::r,(k',v)::p,h=>by have⟨rfl,_,_,h⟩:=h;rw[aaQ,aaQ,bZ h]
 | [],_::_,h=>h.elim
 | _::_,[],h=>h.elim
def Bh:∀{kc:List (Int×Nat)} {p:Pl} {i v:Int},aA kc p->Ξ p i=some v->∃c,(i,c)∈kc/\0<=v/\v < (c:Int)
 | [],[],_,_,_,h=>by cases h
 | (k,c)::r,(k',v')::p,i,v,h,g=>by
  have⟨rfl,v0,v1,h⟩:=h;unfold Ξ at g;split at g
  ·rename_i e;have e:k=i:=e;cases g;exact⟨c,by rw[<-e];exact aad,v0,v1⟩
  ·have⟨c',m,a⟩:=Bh h g;exact⟨c',aac _ m,a⟩
 | [],_::_,_,_,h,_=>h.elim
 | _::_,[],_,_,h,_=>h.elim
def Bi:∀{kc:List (Int×Nat)} {p:Pl} {i v:Int},aA kc p->(∀c,(i,c)∈kc->0<=v/\v < (c:Int))->aA kc (p.map λq=>if q.1=i then (q.1,v) else q)
 | [],[],_,_,_,_=>trivial
 | (k,c)::r,(k',v')::p,i,v,h,g=>by
  have⟨rfl,v0,v1,h⟩:=h;have ih:=Bi h λc hc=>g c (aac _ hc);show aA ((k,c)::r) ((if k=i then (k,v) else (k,v'))::p.map λq=>if q.1=i then (q.1,v) else q);by_cases e:k=i
  ·rw[aaz e];have:=g c (by rw[<-e];exact aad);exact⟨rfl,this.1,this.2,ih⟩
  ·rw[aaC e];exact⟨rfl,v0,v1,ih⟩
 | [],_::_,_,_,h,_=>h.elim
 | _::_,[],_,_,h,_=>h.elim
def nQ{i:Int}:∀{p:Pl},i∈p.map (·.1)->(Ξ p i).isSome=true
 | q::p,h=>by
  unfold Ξ;split
  ·rfl
  ·rcases aaL.mp h with e| e
   ·rename_i ne;exact aaP e.symm ne
   ·exact nQ e
def Lr{p:Pl}{i v:Int}(h:aA kc p)(hk:i∈kc.map (·.1))(g:∀c,(i,c)∈kc->0<=v/\v < (c:Int)):aA kc (iF p i v):=by unfold iF;rw[aaz (nQ (by rw[bZ h];exact hk))];exact Bi h g
def CG{α:Type}{P Q:α->Bool}:∀{l:List α},(∀a∈l,P a=true->Q a=true)->∀{b:α},b∈l->Q b=true->P b=false->l.countP P < l.countP Q
 | a::l,h,b,hb,hq,hp=>by
  have le:l.countP P<=l.countP Q:=List.countP_mono_left λx hx=>h x (aac _ hx);rw[List.countP_cons,List.countP_cons];rcases aaL.mp hb with e| e
  ·subst e;rw[hq,hp];show l.countP P+0 < l.countP Q+1;omega
  ·have:=CG (λx hx=>h x (aac _ hx)) e hq hp;have ha:=h a aad;cases hP:P a with
   | false=>rw[aaC @_];split <;> omega
   | true=>rw[ha hP,aaz rfl];omega
noncomputable def ZH(ε:Fr)(γ:List Rw)(Θ:Pl)(i:Nat):Rat:=open Classical in if h:∃tb,mh ε γ Θ tb then val (h.choose.getD i (0,1)) else 0
noncomputable def BH(ε:Fr)(γ:List Rw)(sg:Rat)(Θ:Pl):Rat:=dY (λi=>sg * ZH ε γ Θ i) γ.length
def yo{ε:Fr}{γ:List Rw}{Θ:Pl}{X:Int}{tb:List Fr}(fw:FW ε γ X C)(dk:iw γ Θ)(b1:1<=ma X C)(h:mh ε γ Θ tb)(i:Nat):ZH ε γ Θ i=val (tb.getD i (0,1)):=by have ex:∃tb,mh ε γ Θ tb:=⟨tb,h⟩;unfold ZH;rw[dif_pos ex,(fw.sys dk b1).uniq ex.choose_spec.tab h.tab]
def xk{f g:Nat->Rat}:∀{n:Nat},(∀i,i < n->f i<=g i)->∀{k:Nat},k < n->f k < g k->dY f n < dY g n
 | n+1,h,k,hk,hl=>by
  have le:∀{m:Nat},(∀i,i < m->f i<=g i)->dY f m<=dY g m:=λ{m}=>by
   induction m with
   | zero=>intro _;show(0:Rat)<=0;grind
   | succ m ih=>
    intro h;have:=ih λi hi=>h i (ab2 hi);have:=h m (abA _);show dY f m+f m<=dY g m+g m;grind
  show dY f n+f n < dY g n+g n;by_cases e:k=n
  ·subst e;have:=le λi hi=>h i (ab2 hi);grind
  ·have:=xk (λi hi=>h i (ab2 hi)) (show k < n by omega) hl;have:=h n (abA _);grind
noncomputable def above(ε:Fr)(γ:List Rw)(sg:Rat)(mk:Pl->Pl)(kc:List (Int×Nat))(p:Pl):Nat:=open Classical in (qG kc).countP λq=>decide (BH ε γ sg (mk p) < BH ε γ sg (mk q))
def J5{ε:Fr}{γ:List Rw}{sg:Rat}{mk:Pl->Pl}{p q:Pl}(hq:aA kc q)(lt:BH ε γ sg (mk p) < BH ε γ sg (mk q)):above ε γ sg mk kc q < above ε γ sg mk kc p:=by unfold above;refine CG (λa _ ha=>?_) (r8 hq) (decide_eq_true lt) (decide_eq_false (by grind));have:=aao ha;exact decide_eq_true (by grind)
def nc(ns:List Fr):Fr:=ns.foldl (λf n=>if dG f n then n else f) (ns.headD (0,1))
def mS(ns:List Fr):Fr:=ns.foldl (λf n=>if dG n f then n else f) (ns.headD (0,1))
def BU:DF:=λas M q _=>∃p r k l,as=[Λ p,Λ r]/\Sz k p/\Sz l r/\k+l+1<=8000/\q (.bl (dG p r)) M
def L8:Ε ["one","other"] ["one","other"] (χ Cj):=.of rfl
def Ky(F:dh K "under" "under" Cj f fd)(E:Ev K mg w Cm):aw P w K mg base (cw P w) 1 f fd ["one","other"] (c7 K BU):=by
 refine F.dW L8 (λds M q x h=>?_) (λaW A outer s H E' hr=>⟨_,(μ (Ζ (BV (aI (Ι (jv 0) υ) (Ι (jv 1) υ)) (aI (Ι (jv 1) υ) (Ι (jv 0) υ))))),λds M q x h=>?_⟩)
 ·have⟨p,r,k,l,rfl,_⟩:=h;rfl
 ·have⟨p,r,k,l,rfl,hp,lY,hk,h⟩:=h;exact⟨⟨gK hp (),dQ lY ()⟩,⟨gK lY (),dQ hp ()⟩,h⟩
def x'(f:List Fr->Fr):DF:=λas M q _=>∃ns:List Fr,as=[.lst (ns.map Λ)]/\ns≠[]/\(∀n∈ns,Sz 1870 n)/\q (Λ (f ns)) M
def jT:Ε ["numbers","found","number"] ["numbers"] (χ pG):=.of rfl
def y9(F:dh K "greatest" "greatest" pG f fd)(E:Ev K mg w Cm){Dd:Addr}{Ck:FuncData}(l7:ax P w K mg base 1 "under" ["one","other"] BU Dd Ck):aw P w K mg base (cw P w) 2 f fd ["numbers"] (c7 K (x' nc)):=by
 refine F.dW jT (λds M q x h=>?_) (λaW A outer s H E' hr=>⟨_,(η (ω 1 jT.nd (Ι (jv 0) υ))
   (η (dR (bD (jv 0)) (av (i:=2) jT.nd rfl (Or.inl rfl)) bq (μ (aM (jE (ae l7 hr ν (Ο (jv 1) (Ο (jv 2) θ)))) (μ (ω 1 jT.nd (jv 2))) Τ)))
   (μ (Ζ (jv 1))))),λds M q x h=>?_⟩)
 ·have⟨ns,rfl,_⟩:=h;rfl
 ·have⟨ns,rfl,h0,hn,h⟩:=h;have⟨n0,ns',rfl⟩:=abw h0;walk_at "vc";refine Η (d:=.lst ((n0::ns').map Λ)) rfl bP ?_;refine bC (i:=0) (d:=.lst ((n0::ns').map Λ)) rfl rfl ?_;refine cf (λxs ρ M'=>M'=M/\∃(rest:List Fr) (f:Fr) (a:Option Dt),xs=rest.map Λ/\(∀p∈rest,Sz 1870 p)/\Sz 1870 f/\rest.foldl (λf n=>if dG f n then n else f) f=nc (n0::ns')/\ρ=[some (.lst ((n0::ns').map Λ)),some (Λ f),a]) (λxs ρ M' hj=>trivial) (λx xs ρ M' hj gT=>?_) (λρ M' hj=>?_) _ _ _ ⟨rfl,n0::ns',n0,none,rfl,hn,hn n0 aad,rfl,rfl⟩
  ·have⟨rfl,rest,f,a,ex,qI,hw,hf,rfl⟩:=hj;cases rest with
   | nil=>cases ex
   | cons p rest=>
    cases ex;have hp:=qI p aad;rw[abE]at hf;refine⟨f,p,1870,1870,rfl,hw,hp,@_,λz=>?_,λz=>?_⟩
    ·rw[z,aaz rfl]at hf;exact gT _ _ ⟨rfl,rest,p,_,rfl,λp hp=>qI p (aac _ hp),hp,hf,rfl⟩
    ·rw[z,aaC @_]at hf;exact gT _ _ ⟨rfl,rest,f,_,rfl,λp hp=>qI p (aac _ hp),hw,hf,rfl⟩
  ·have⟨rfl,rest,f,a,ex,qI,hw,hf,rfl⟩:=hj;cases rest with
   | nil=>rw[<-hf]at h;exact h
   | cons p rest=>cases ex
def qZ:Ε ["numbers","found","number"] ["numbers"] (χ BX):=.of rfl
def Ls(F:dh K "least" "least" BX f fd)(E:Ev K mg w Cm){Dd:Addr}{Ck:FuncData}(l7:ax P w K mg base 1 "under" ["one","other"] BU Dd Ck):aw P w K mg base (cw P w) 2 f fd ["numbers"] (c7 K (x' mS)):=by
 refine F.dW qZ (λds M q x h=>?_) (λaW A outer s H E' hr=>⟨_,(η (ω 1 qZ.nd (Ι (jv 0) υ))
   (η (dR (bD (jv 0)) (av (i:=2) qZ.nd rfl (Or.inl rfl)) bq (μ (aM (jE (ae l7 hr ν (Ο (jv 2) (Ο (jv 1) θ)))) (μ (ω 1 qZ.nd (jv 2))) Τ)))
   (μ (Ζ (jv 1))))),λds M q x h=>?_⟩)
 ·have⟨ns,rfl,_⟩:=h;rfl
 ·have⟨ns,rfl,h0,hn,h⟩:=h;have⟨n0,ns',rfl⟩:=abw h0;walk_at "vc";refine Η (d:=.lst ((n0::ns').map Λ)) rfl bP ?_;refine bC (i:=0) (d:=.lst ((n0::ns').map Λ)) rfl rfl ?_;refine cf (λxs ρ M'=>M'=M/\∃(rest:List Fr) (f:Fr) (a:Option Dt),xs=rest.map Λ/\(∀p∈rest,Sz 1870 p)/\Sz 1870 f/\rest.foldl (λf n=>if dG n f then n else f) f=mS (n0::ns')/\ρ=[some (.lst ((n0::ns').map Λ)),some (Λ f),a]) (λxs ρ M' hj=>trivial) (λx xs ρ M' hj gT=>?_) (λρ M' hj=>?_) _ _ _ ⟨rfl,n0::ns',n0,none,rfl,hn,hn n0 aad,rfl,rfl⟩
  ·have⟨rfl,rest,f,a,ex,qI,hw,hf,rfl⟩:=hj;cases rest with
   | nil=>cases ex
   | cons p rest=>
    cases ex;have hp:=qI p aad;rw[abE]at hf;refine⟨p,f,1870,1870,rfl,hp,hw,@_,λz=>?_,λz=>?_⟩
    ·rw[z,aaz rfl]at hf;exact gT _ _ ⟨rfl,rest,p,_,rfl,λp hp=>qI p (aac _ hp),hp,hf,rfl⟩
    ·rw[z,aaC @_]at hf;exact gT _ _ ⟨rfl,rest,f,_,rfl,λp hp=>qI p (aac _ hp),hw,hf,rfl⟩
  ·have⟨rfl,rest,f,a,ex,qI,hw,hf,rfl⟩:=hj;cases rest with
   | nil=>rw[<-hf]at h;exact h
   | cons p rest=>cases ex
structure Cg(ε:Fr)(γ:List Rw)(tb:List Fr):Prop where
 sh:ay ε=true
 len:γ.length<=12
 row:∀r∈γ,iz r/\gI r γ.length=true
 tl:tb.length=γ.length
 ts:∀t∈tb,Sz 1720 t
def fv(ε:Fr)(tb:List Fr):Rw->Fr
 | .fin p=>p
 | .ο k ds=>if k="one" then nc (ds.map (Ψ ε tb)) else mS (ds.map (Ψ ε tb))
def de(ε:Fr)(tb:List Fr):Rw->List Nat
 | .fin _=>[]
 | .ο k ds=>if Γ k then (List.range ds.length).filter λj=>decide (Ψ ε tb (ds.getD j d0)=fv ε tb (.ο k ds)) else []
def y_{ε:Fr}{γ:List Rw}{tb:List Fr}{k:Str}{ds:List bu}(f:Cg ε γ tb)(h:Rw.ο k ds∈γ):ar ds γ.length=true/\(Γ k=true\/k="chance"):=by
 have h2:=(f.row _ h).2;have h2:(if Γ k then ar ds γ.length else if k="chance" then ar ds γ.length&&au (ds.map τ) else false)=true:=h2;by_cases hk:Γ k=true
 ·rw[aaz hk]at h2;exact⟨h2,.inl hk⟩
 ·rw[aaC hk]at h2;by_cases hc:k="chance"
  ·rw[aaz hc,aav]at h2;exact⟨h2.1,.inr hc⟩
  ·rw[aaC hc]at h2;cases h2
def yE{ε:Fr}{γ:List Rw}{tb:List Fr}{k:Str}{ds:List bu}{d:bu}(f:Cg ε γ tb)(h:Rw.ο k ds∈γ)(hd:d∈ds):0<=d.1/\d.1 < γ.length/\Sz 101 d.2.1:=by have h2:=(y_ f h).1;unfold ar at h2;rw[aav,aav]at h2;have h3:=List.all_eq_true.mp h2.2 d hd;unfold aQ at h3;rw[aav,aav,aam,aam]at h3;exact⟨h3.1,h3.2.1,BI h3.2.2 ((f.row _ h).1.2.2.2 d hd).2⟩
def Jo{ε:Fr}{γ:List Rw}{tb:List Fr}{k:Str}{ds:List bu}(f:Cg ε γ tb)(h:Rw.ο k ds∈γ):1<=ds.length/\ds.length<=6:=by have h2:=(y_ f h).1;unfold ar at h2;rw[aav,aav,aam,aam]at h2;exact h2.1
def jD{ε:Fr}{γ:List Rw}{tb:List Fr}(f:Cg ε γ tb)(h0:0<=t)(h1:t < γ.length):nY (tb.map Λ) t=some (Λ (kn tb t))/\Sz 1720 (kn tb t):=by
 have hl:t.toNat < tb.length:=by rw[f.tl];omega
 have e:kn tb t=tb[t.toNat]:=by unfold kn;rw[List.getD_eq_getElem?_getD,List.getElem?_eq_getElem hl];rfl
 refine⟨?_,by rw[e];exact f.ts _ (aaq hl)⟩;have e2:(tb.map Λ)[t.toNat]? =some (Λ (kn tb t)):=by rw[aar,aaa hl,e];rfl
 have:=ak e2;rwa[show((t.toNat:Nat):Int)=t by omega]at this
def zo{ε:Fr}{γ:List Rw}{tb:List Fr}{k:Str}{ds:List bu}{d:bu}(f:Cg ε γ tb)(h:Rw.ο k ds∈γ)(hd:d∈ds):Sz 1870 (Ψ ε tb d):=by have⟨a,b,c⟩:=yE f h hd;exact j4 (N2 c (oG (ip f.sh) (jD f a b).2)) @_
def Yn(p q:Fr):pS [.int p.1,.int p.2] [.int q.1,.int q.2]=decide (p=q):=by
 have⟨a,b⟩:=p;have⟨c,d⟩:=q;show((a==c)&&((b==d)&&true))=_;rw[Bool.and_true];by_cases h1:a=c
 ·by_cases h2:b=d
  ·subst h1 h2;simp
  ·have:¬((a,b)=(c,d)):=λz=>h2 (Prod.mk.inj z).2;rw[decide_eq_false this];simp[h2]
 ·have:¬((a,b)=(c,d)):=λz=>h1 (Prod.mk.inj z).1;rw[decide_eq_false this];simp[h1]
def T2{p r:Fr}{k:Bool->Ms->Prop}(h:k (decide (p=r)) M):zJ (Λ p) (Λ r) M (λd M1=>match d with| .bl b=>k b M1| _=>False):=by show k (pS [.int p.1,.int p.2] [.int r.1,.int r.2]) M;rw[Yn];exact h
def qz(p:Fr->Bool):∀(xs:List Fr) (n:Nat),((jo n (xs.map Λ)).filter (λx=>match x with| .tup [_,.tup [.int a,.int b]]=>p (a,b)| _=>false)).map (λx=>match x with| .tup [i,_]=>i| _=>.bU)=((List.range xs.length).filter λj=>p (xs.getD j (0,1))).map λj:Nat=>Dt.int ((n+j:Nat):Int)
 | [],n=>rfl
 | x::xs,n=>by
  have ih:=qz p xs (n+1);rw[aau,abU,aaQ];show(List.filter _ (.tup [.int n,Λ x]::jo (n+1) (xs.map Λ))).map _=_;have e1:((List.map Nat.succ (List.range xs.length)).filter λj=>p ((x::xs).getD j (0,1)))=((List.range xs.length).filter λj=>p (xs.getD j (0,1))).map Nat.succ:=by rw[List.filter_map];rfl
  by_cases hp:p x=true
  ·have h1:(match Dt.tup [.int n,Λ x] with| .tup [_,.tup [.int a,.int b]]=>p (a,b)| _=>false)=true:=hp;rw[ab9 (by exact h1),ab9 (by exact hp),aaQ,aaQ,ih,e1,aaN]
   congr 1
   apply abm;intro j _;show Dt.int _=Dt.int _
   congr 2;omega
  ·have h1:¬(match Dt.tup [.int n,Λ x] with| .tup [_,.tup [.int a,.int b]]=>p (a,b)| _=>false)=true:=hp;rw[aca (by exact h1),aca (by exact hp),ih,e1,aaN];apply abm;intro j _;show Dt.int _=Dt.int _
   congr 2;omega
def C2(C:Addr):DF:=λas M q _=>∃ε γ tb i j k ds d,as=[ao C ε γ,.int (i:Nat),.int (j:Nat),.lst (tb.map Λ)]/\γ[i]? =some (.ο k ds)/\ds[j]? =some d/\Cg ε γ tb/\q (Λ (Ψ ε tb d)) M
def nP:Ε ["self","place","door","table","taken"] ["self","place","door","table"] (χ ly):=.of rfl
def uS(F:dh K "shown" "Floor.shown" ly f fd)(E:Ev K mg w Cm){Ax:Addr}{zL:FuncData}(iM:ax P w K mg base 3 "plus" ["one","other"] Eu Ax zL)(df:ax P w K mg base 3 "times" ["one","other"] tT ni nG):aw P w K mg base (cw P w) 4 f fd ["self","place","door","table"] (c7 K (C2 Cm)):=by
 refine F.dW nP (λds M q x h=>?_) (λaW A outer s H E' hr=>⟨_,(η (ω 4 nP.nd (Ι (Ι (Ι (sk E.d9 E.cR (jv 0)) (jv 1)) υ) (jv 2)))
   (μ (Ζ (ae iM hr ν (ι (Ι (jv 4) υ) (ι (ae df hr ν (ι (sk E.d9 E.fQ (jv 0)) (ι (Ι (jv 3) (Ι (jv 4) υ)) θ bQ))) θ aY) bQ))))),λds M q x h=>?_⟩)
 ·have⟨ε,γ,tb,i,j,k,ds,d,rfl,_⟩:=h;rfl
 ·have⟨ε,γ,tb,i,j,k,ds,d,rfl,hi,hj,f,h⟩:=h;have hm:Rw.ο k ds∈γ:=aak hi;have hd:d∈ds:=aak hj;have⟨a,b,c⟩:=yE f hm hd;have⟨t1,t2⟩:=jD f a b;have JZ:(ds.map cZ)[j]? =some (cZ d):=by rw[aar,hj];rfl
  refine⟨_,_,_,.inl rfl,rfl,?_⟩;walk_at "vc";refine Η (xs:=γ.map aL) rfl (ak (jN hi)) (Uu (Η (d:=.lst (ds.map cZ)) rfl (ak JZ) ?_));refine KW ⟨_,_,_,.inl rfl,rfl,Fc (Η (d:=.lst (tb.map Λ)) rfl t1 ⟨ε,kn tb d.1,11,1720,rfl,ip f.sh,t2,@_,d.2.1,_,101,1731,rfl,c,oG (ip f.sh) t2,@_,h⟩)⟩
def qa(C:Addr):DF:=λas M q _=>∃ε γ tb i k ds,as=[ao C ε γ,.int (i:Nat),.lst (tb.map Λ)]/\γ[i]? =some (.ο k ds)/\Cg ε γ tb/\q (.lst (ds.map λd=>Λ (Ψ ε tb d))) M
def ki:Ε ["self","place","table"] ["self","place","table"] (χ g8):=.of rfl
def pO(F:dh K "all_shown" "Floor.all_shown" g8 f fd)(E:Ev K mg w Cm)(ai:cy P w K mg base 2 Cm "doors" ["self","place"] (mz Cm) bx bz){kQ:Addr}{kN:FuncData}(dN:cy P w K mg base 4 Cm "shown" ["self","place","door","table"] (C2 Cm) kQ kN):aw P w K mg base (cw P w) 5 f fd ["self","place","table"] (c7 K (qa Cm)):=by
 refine F.dW ki (λds M q x h=>?_) (λaW A outer s H E' hr=>⟨_,(μ (Ζ (LJ (ys:=["place","table","self"]) (af:=[1,2,0]) (.of ki rfl rfl rfl) (dF E.cU (ι (dU E.cG (ι (dc (a_ ai hr ν (jv 0) (Ο (jv 1) θ))) θ aY)) θ aY)) (λC s H fp=>(a_ dN hr (fW (P:=P) (w:=w)) (jv 3) (Ο (jv 1) (Ο (jv 0) (Ο (jv 2) θ)))))))),λds M q x h=>?_⟩)
 ·have⟨ε,γ,tb,i,k,ds,rfl,_⟩:=h;rfl
 ·have⟨ε,γ,tb,i,k,ds,rfl,hi,f,h⟩:=h;have hm:Rw.ο k ds∈γ:=aak hi;have ro:=(f.row _ hm).1;have l6:=Jo f hm;refine⟨⟨_,_,.inl rfl,rfl⟩,ε,γ,i,.ο k ds,rfl,hi,ro,dX (ds:=ds.map cZ) (gM ds) ?_⟩;walk_at "vc";refine aO (d:=.lst (ds.map cZ)) (xs:=ds.map cZ) rfl ?_;rw[aae];refine⟨⟨(),()⟩,by rw[gs];exact aax (show _<=6 by omega) @_,?_⟩;refine qi (f:=λx=>match x with| .int j=>Λ (Ψ ε tb (ds.getD j.toNat d0))| _=>.bU) _ _ (λx MJ q' hq=>?_) ?_
  ·have⟨j,hj,rfl⟩:=k7 MJ;have hj:j < ds.length:=()
   have e:ds.getD (0+(j:Int)).toNat d0=ds[j]:=by rw[show(0+(j:Int)).toNat=j by omega,aab,aaa hj];rfl
   have hq:q' (Λ (Ψ ε tb (ds.getD (0+(j:Int)).toNat d0))) M:=hq;rw[e]at hq;refine⟨⟨_,_,.inl rfl,rfl⟩,ε,γ,tb,i,j,k,ds,ds[j],by rw[Int.zero_add],hi,aaa hj,f,hq⟩
  ·rw[aaW,show((ds.length:Int)).toNat=ds.length by omega];exact(λ(key:∀l,l=ds.map (λd=>Λ (Ψ ε tb d))->q (.lst l) M)=>key _ (D4 ds d0 (λd=>Λ (Ψ ε tb d)))) λl hl=>by rw[hl];exact h
def O_(C:Addr):DF:=λas M q _=>∃ε γ tb i r,as=[ao C ε γ,.int (i:Nat),.lst (tb.map Λ)]/\γ[i]? =some r/\Γ (kindOf r)=true/\Cg ε γ tb/\q (Λ (fv ε tb r)) M
def kC:Ε ["self","place","table","kind"] ["self","place","table"] (χ nB):=.of rfl
def yD(F:dh K "look" "Floor.look" nB f fd)(E:Ev K mg w Cm)(Κ:cy P w K mg base 1 Cm "kind" ["self","place"] (lu Cm) aB aC){jn:Addr}{i6:FuncData}(cX:cy P w K mg base 2 Cm "pay" ["self","place"] (ME Cm) jn i6){sF:Addr}{tI:FuncData}(gR:ax P w K mg base 4 "weighed" ["chances","numbers"] rQ sF tI){hJ:Addr}{h9:FuncData}(aX:cy P w K mg base 5 Cm "all_shown" ["self","place","table"] (qa Cm) hJ h9)(ai:cy P w K mg base 2 Cm "doors" ["self","place"] (mz Cm) bx bz){GG:Addr}{HV:FuncData}(mL:ax P w K mg base 2 "greatest" ["numbers"] (x' nc) GG HV){Rz:Addr}{Qk:FuncData}(yw:ax P w K mg base 2 "least" ["numbers"] (x' mS) Rz Qk):aw P w K mg base (cw P w) 6 f fd ["self","place","table"] (c7 K (O_ Cm)):=by
 refine F.dW kC (λds M q x h=>?_) (λaW A outer s H E' hr=>⟨_,(η (ω 3 kC.nd (a_ Κ hr ν (jv 0) (Ο (jv 1) θ)))
   (η (aM (cD hr (jv 3) gP) (μ (Ζ (a_ cX hr ν (jv 0) (Ο (jv 1) θ)))) Τ)
   (η (aM (cD hr (jv 3) gP) (μ (Ζ (ae gR hr ν (ι (fS (ys:=[]) (af:=[]) (.of kC rfl rfl rfl) (bD (dc (a_ ai hr ν (jv 0) (Ο (jv 1) θ)))) (λC s H fp=>(Ι (jv 0) υ))) (ι (a_ aX hr ν (jv 0) (Ο (jv 1) (Ο (jv 2) θ))) θ aY))))) Τ)
   (η (aM (cD hr (jv 3) gP) (μ (Ζ (ae mL hr ν (ι (a_ aX hr ν (jv 0) (Ο (jv 1) (Ο (jv 2) θ))) θ aY)))) Τ)
   (μ (Ζ (ae yw hr ν (ι (a_ aX hr ν (jv 0) (Ο (jv 1) (Ο (jv 2) θ))) θ aY)))))))),λds M q x h=>?_⟩)
 ·have⟨ε,γ,tb,i,r,rfl,_⟩:=h;rfl
 ·have⟨ε,γ,tb,i,r,rfl,hi,hand,f,h⟩:=h;have hm:r∈γ:=aak hi;have ro:=(f.row _ hm).1;refine⟨⟨_,_,.inl rfl,rfl⟩,ε,γ,i,r,rfl,hi,?_⟩;cases r with
  | fin p=>exact⟨λ_=>⟨⟨_,_,.inl rfl,rfl⟩,ε,γ,i,.fin p,rfl,hi,ro,h⟩,nofun⟩
  | ο k ds=>
   have l6:=Jo f hm;have eS:ds.map (λd=>Λ (Ψ ε tb d))=(ds.map (Ψ ε tb)).map Λ:=by rw[aaN];rfl
   have hS:∀n∈ds.map (Ψ ε tb),Sz 1870 n:=λn hn=>by have⟨d,hd,rfl⟩:=aai.mp hn;exact zo f hm hd
   have hN:ds.map (Ψ ε tb)≠[]:=λz=>by have:=aa2 List.length z;rw[aae]at this;simp at this;rw[this]at l6;exact aaP l6.1 @_
   refine⟨λz=>aaP (aao z) ro.1,λ_=>⟨λz=>?_,λz=>?_⟩⟩
   ·have z:k="chance":=aao z;rw[z]at hand;exact aaP hand (by show¬Γ (Str.ofString "chance")=true;decide)
   ·have z:k≠"chance":=aa4 z;refine⟨λz1=>?_,λz1=>?_⟩
    ·have z1:k="one":=aao z1;have e1:fv ε tb (.ο k ds)=nc (ds.map (Ψ ε tb)):=aaz z1;rw[e1]at h;refine⟨⟨_,_,.inl rfl,rfl⟩,ε,γ,tb,i,k,ds,rfl,hi,f,?_⟩;rw[eS];exact⟨_,rfl,hN,hS,h⟩
    ·have z1:k≠"one":=aa4 z1;have e1:fv ε tb (.ο k ds)=mS (ds.map (Ψ ε tb)):=aaC z1;rw[e1]at h;refine⟨⟨_,_,.inl rfl,rfl⟩,ε,γ,tb,i,k,ds,rfl,hi,f,?_⟩;rw[eS];exact⟨_,rfl,hN,hS,h⟩
def O6(C:Addr):DF:=λas M q _=>∃ε γ tb i r,as=[ao C ε γ,.int (i:Nat),.lst (tb.map Λ)]/\γ[i]? =some r/\Cg ε γ tb/\q (.lst ((de ε tb r).map λj:Nat=>Dt.int j)) M
def lK:Ε ["self","place","table","look"] ["self","place","table"] (χ mK):=.of rfl
def xa(F:dh K "best" "Floor.best" mK f fd)(E:Ev K mg w Cm)(Κ:cy P w K mg base 1 Cm "kind" ["self","place"] (lu Cm) aB aC){BS:Addr}{C9:FuncData}(kX:cy P w K mg base 6 Cm "look" ["self","place","table"] (O_ Cm) BS C9){hJ:Addr}{h9:FuncData}(aX:cy P w K mg base 5 Cm "all_shown" ["self","place","table"] (qa Cm) hJ h9):aw P w K mg base (cw P w) 7 f fd ["self","place","table"] (c7 K (O6 Cm)):=by
 refine F.dW lK (λds M q x h=>?_) (λaW A outer s H E' hr=>⟨_,(η (aM (vK (a_ Κ hr ν (jv 0) (Ο (jv 1) θ)) (EN E.rP)) (μ (Ζ (oz θ))) Τ)
   (η (ω 3 lK.nd (a_ kX hr ν (jv 0) (Ο (jv 1) (Ο (jv 2) θ))))
   (μ (Ζ (Iq (ys:=["look"]) (af:=[3]) (.of lK rfl rfl rfl) (yL E.eW (ι (a_ aX hr ν (jv 0) (Ο (jv 1) (Ο (jv 2) θ))) θ aY)) (λC s H fp=>(cD hr (jv 1) (jv 2))) (λC s H fp=>(jv 0))))))),λds M q x h=>?_⟩)
 ·have⟨ε,γ,tb,i,r,rfl,_⟩:=h;rfl
 ·have⟨ε,γ,tb,i,r,rfl,hi,f,h⟩:=h;have hm:r∈γ:=aak hi;have ro:=(f.row _ hm).1;refine⟨⟨_,_,.inl rfl,rfl⟩,ε,γ,i,r,rfl,hi,.str (kindOf r),[.str "one",.str "other"],[.str "one",.str "other"],rfl,rfl,rfl,?_⟩;rw[oK];cases r with
  | fin p=>exact⟨λ_=>⟨@_,h⟩,λz=>(nomatch (show(!Γ "end")=false from z))⟩
  | ο k ds=>
   have l6:=Jo f hm;refine⟨λz=>?_,λz=>?_⟩
   ·have z:Γ k=false:=by have:(!Γ k)=true:=z;simpa using this
    have e1:de ε tb (.ο k ds)=[]:=aaC (by rw[z];decide);rw[e1]at h;exact⟨@_,h⟩
   ·have z:Γ k=true:=by have:(!Γ k)=false:=z;simpa using this
    have e1:de ε tb (.ο k ds)=(List.range ds.length).filter λj=>decide (Ψ ε tb (ds.getD j d0)=fv ε tb (.ο k ds)):=aaz z;rw[e1]at h;refine⟨⟨_,_,.inl rfl,rfl⟩,ε,γ,tb,i,.ο k ds,rfl,hi,z,f,?_⟩;refine⟨⟨_,_,.inl rfl,rfl⟩,ε,γ,tb,i,k,ds,rfl,hi,f,?_⟩;generalize fv ε tb (.ο k ds)=lk at *
    have eS:ds.map (λd=>Λ (Ψ ε tb d))=(ds.map (Ψ ε tb)).map Λ:=by rw[aaN];rfl
    rw[eS];refine⟨_,_,_,rfl,rfl,by rw[j5,aae,aae];exact aax l6.2 @_,?_⟩;refine e7 trivial (λx=>match x with| .tup [_,.tup [.int a,.int b]]=>decide ((a,b)=lk)| _=>false) (λx=>match x with| .tup [i,_]=>i| _=>.bU) _ _ (λx hx q' p' h1 h2=>?_) ?_
    ·have⟨j,hj,ej⟩:=abl hx;have⟨y,hy,rfl⟩:=pC (n:=0) (i:=j) (aaf.mpr ⟨hj,ej⟩);rw[aar]at hy;have⟨s0,hs0,rfl⟩:=Option.map_eq_some_iff.mp hy;have h1:decide (s0=lk)=true->q' (.int ((0+j:Nat):Int)) M:=h1;have h2:decide (s0=lk)=false->p' M:=h2;clear hx hj ej hy;have key:zJ (Λ s0) (Λ lk) M (λd M1=>match d with| .bl b=>(match b with| true=>q' (.int ((0+j:Nat):Int)) M1| false=>p' M1)| _=>False):=by
      refine T2 (k:=λb M1=>match b with| true=>q' (.int ((0+j:Nat):Int)) M1| false=>p' M1) ?_;cases hb:decide (s0=lk) with
      | true=>exact h1 hb
      | false=>exact h2 hb
     exact key
    ·rw[aaW,qz (λs0=>decide (s0=lk)) (ds.map (Ψ ε tb)) 0,aae];have e3:∀j∈List.range ds.length,decide ((ds.map (Ψ ε tb)).getD j (0,1)=lk)=decide (Ψ ε tb (ds.getD j d0)=lk):=λj hj=>by have hj:=abu.mp hj;rw[aab,aar,aab,aaa hj];rfl
     rw[List.filter_congr e3];have e4:∀l:List Nat,(l.map λj:Nat=>Dt.int ((0+j:Nat):Int))=l.map λj:Nat=>Dt.int j:=λl=>abm λj _=>by rw[Nat.zero_add]
     rw[e4];exact h
end
end Pg
namespace L2
open PySem
def Ap{g:Dt->En->(En->Prop)->Prop}{tb:DS}{Dn:k_}{k:Nat}{u:Addr->HO}{m:MO}(J:List Key->En->Ms->Prop)(bc:∀xs ρ M,J xs ρ M->M[k]? =some (.raw u))
  (step:∀x xs ρ M,J (x::xs) ρ M->(∀ρ M,J xs ρ M->uZ g tb Dn k u m xs ρ M)->g (Ku x) ρ λρ'=>tb {Dn with nx:=uZ g tb Dn k u m xs,ct:=uZ g tb Dn k u m xs,bk:=λρ M=>M[k]? =some (.raw u)/\Dn.nx ρ (M.set k m)} ρ' M)
  (fin:∀ρ M,J [] ρ M->Dn.nx ρ (M.set k m)):∀(xs:List Key) (ρ:En) (M:Ms),J xs ρ M->uZ g tb Dn k u m xs ρ M
 | [],ρ,M,h=>⟨bc _ _ _ h,fin _ _ h⟩
 | x::xs,ρ,M,h=>⟨bc _ _ _ h,step x xs ρ M h λρ' M' h'=>Ap J bc step fin xs ρ' M' h'⟩
end L2
namespace Pg
open PySem L2 Fr0 Tx
variable{M:Ms}{mg:Str->Option Value}{f aB bR cP:Addr}{fd aC bT cT:FuncData}{ε p:Fr}{γ rs:List Rw}{tb Bs cs:List Fr}{ds:List bu}{X C E a:Int}{Θ cJ:Pl}{i j n m:Nat}{r:Rw}{d:bu}{ψ:Str}{its:Array Value}{ns:List Int}{v:Rat}
def iU(ε:Fr)(γ:List Rw)(tb:List Fr)(i:Int):List Nat:=match γ[i.toNat]? with
 | some r=>de ε tb r
 | none=>[]
def Br(l:List Nat)(v:Int):Bool:=RG (.int v) (l.map λj:Nat=>V.int j)
def qK(ε:Fr)(γ:List Rw)(tb:List Fr)(p:Int×Int):Pl:=if Br (iU ε γ tb p.1) p.2 then [] else [(p.1,((iU ε γ tb p.1).headD 0:Nat))]
def Β(ε:Fr)(γ:List Rw)(tb:List Fr)(pl:Pl):Pl:=pl.flatMap (qK ε γ tb)
def vB:∀l:List Nat,iq (l.map λj:Nat=>Dt.int j)=some (l.map λj:Nat=>V.int j)
 | []=>rfl
 | j::l=>by have ih:=vB l;rw[aaQ,aaQ];unfold iq;rw[ih];rfl
def LN{k:Nat}{m:MO}(h:M[k]? =some m):M.set k m=M:=by
 apply acG;intro i;rw[List.getElem?_set];split
 ·rename_i e;subst e;rw[aaz (aaf.mp h).1,h]
 ·rfl
def wU(pl:Pl):vP pl=(pl.map (·.2)).map Dt.int:=by unfold vP;rw[List.map_map];rfl
def f_{ε:Fr}{γ:List Rw}{tb:List Fr}{i:Int}:∀{pl:Pl},i∈(Β ε γ tb pl).map (·.1)->i∈pl.map (·.1)
 | p::r,h=>by
  unfold Β at h;rw[List.flatMap_cons,aa7]at h;rcases aaV.mp h with z| z
  ·unfold qK at z;split at z
   ·cases z
   ·rw[aaQ];exact aaL.mpr (.inl (abq.mp z))
  ·exact aac _ (f_ z)
def jA{ε:Fr}{γ:List Rw}{tb:List Fr}:∀pl:Pl,(Β ε γ tb pl).length<=pl.length
 | []=>aaj _
 | p::r=>by
  have ih:=jA (ε:=ε) (γ:=γ) (tb:=tb) r;unfold Β at ih⊢;rw[List.flatMap_cons,aah,aau];have:(qK ε γ tb p).length<=1:=by
   unfold qK;split
   ·exact ab4 _
   ·exact aaj _
  omega
def oI{i:Int}:∀{pl:Pl},i∉pl.map (·.1)->Ξ pl i=none
 | [],_=>rfl
 | p::r,h=>by unfold Ξ;rw[aaC λz=>h (by rw[<-z];exact aad)];exact oI λz=>h (aac _ z)
section
variable{P:Program}{w:World}{K:fI}{base:Heap}{Cm:Addr}
def yQ(A:Addr):DF:=λas M q _=>∃(ε:Fr) (γ:List Rw) (tb:List Fr) (k:Nat) (pl:Pl),as=[ao A ε γ,.loc k,.lst (tb.map Λ)]/\M[k]? =some (dP pl)/\Cg ε γ tb/\BN pl/\pl.length<=12/\(∀p∈pl,0<=p.1/\∃r,γ[p.1.toNat]? =some r/\Γ (kindOf r)=true/\de ε tb r≠[])/\q (.loc M.length) (M++[dP (Β ε γ tb pl)])
def fP:Ε ["floor","plan","table","better","place","best"] ["floor","plan","table"] (χ jR):=.of rfl
def sA(F:dh K "better_doors" "better_doors" jR f fd)(E:Ev K mg w Cm){Cz:Addr}{DC:FuncData}(k4:cy P w K mg base 7 Cm "best" ["self","place","table"] (O6 Cm) Cz DC):aw P w K mg base (cw P w) 8 f fd ["floor","plan","table"] (c7 K (yQ Cm)):=by
 refine F.dW fP (λds M q x h=>?_) (λaW A outer s H E' hr=>⟨_,(η (ω 3 fP.nd CL)
   (η (Nt (jv 1) (av (i:=4) fP.nd rfl (Or.inl rfl)) bq (η (ω 5 fP.nd (a_ k4 hr ν (jv 0) (Ο (jv 4) (Ο (jv 2) θ))))
   (μ (aM (vK (Mi (jv 1) (jv 4)) (jv 5)) (μ (yb hr (jv 3) (jv 4) (Ι (jv 5) υ))) Τ))))
   (μ (Ζ (jv 3))))),λds M q x h=>?_⟩)
 ·have⟨ε,γ,tb,k,pl,rfl,_⟩:=h;rfl
 ·have⟨ε,γ,tb,k,pl,rfl,hk,f,nd,vd,hp,h⟩:=h;have kl:k < M.length:=(aaf.mp hk).1;walk_at "vc";refine⟨k,kP pl,pl.map (·.2),rfl,by rw[<-wU];exact eK hk,λep=>?_⟩;show uZ _ _ _ k (Ow P w (kP pl) (pl.map (·.2)) ep) _ _ _ ((M++[MO.fU [] []]).set k (.raw (Ow P w (kP pl) (pl.map (·.2)) ep)));have Pc:∀p∈pl,eO (kP pl) ((pl.map (·.2)).map Dt.int) (Sum.inl p.1)=some (.int p.2):=λp hm=>by
   rw[<-wU,Ae];have:∀{l:Pl},BN l->p∈l->Ξ l p.1=some p.2:=λ{l}=>by
    induction l with
    | nil=>intro _ z;cases z
    | cons a l ih=>
     intro nl hm;unfold BN at nl;rw[aaQ,abS]at nl;unfold Ξ;rcases aaL.mp hm with e| e
     ·rw[aaz (by rw[e]),e]
     ·rw[aaC λz=>nl.1 (by rw[z];exact aai.mpr ⟨p,e,rfl⟩)];exact ih nl.2 e
   rw[this nd hm];rfl
  generalize hu:Ow P w (kP pl) (pl.map (·.2)) ep=u;have YM:(M++[MO.fU [] []]).set k (.raw u)=M.set k (.raw u)++[dP []]:=by rw[ab1 _ _ kl];rfl
  have hb:∀Θ,((M.set k (.raw u)++[dP Θ]).set k (.fU (kP pl) (vP pl)))=M++[dP Θ]:=λΘ=>by
   rw[ab1 _ _ (by rw[abr];exact kl),List.set_set]
   congr 1
   exact LN hk
  rw[YM];refine Ap (λxs ρ' M'=>∃(gU rest:Pl) (o4 o5:Option Dt),pl=gU++rest/\xs=kP rest/\M'=M.set k (.raw u)++[dP (Β ε γ tb gU)]/\ρ'=[some (ao Cm ε γ),some (.loc k),some (.lst (tb.map Λ)),some (.loc M.length),o4,o5]) (λxs ρ' M' hj=>?_) (λx xs ρ' M' hj gT=>?_) (λρ' M' hj=>?_) _ _ _ ⟨[],pl,none,none,rfl,rfl,rfl,rfl⟩
  ·have⟨gU,rest,o4,o5,e,rfl,rfl,rfl⟩:=hj;exact eK (by rw[abo kl])
  ·have⟨gU,rest,o4,o5,e,ex,rfl,rfl⟩:=hj;cases rest with
   | nil=>cases ex
   | cons p rest=>
    cases ex;have pm:p∈pl:=by rw[e];simp
    have⟨p0,r,VL,qI,hr3⟩:=hp p pm;have⟨p1,v⟩:=p;obtain⟨i,rfl⟩:∃i:Nat,p1=(i:Int):=⟨p1.toNat,by have:0<=p1:=p0;omega⟩;have VL:γ[i]? =some r:=VL;have hbA:iU ε γ tb (i:Int)=de ε tb r:=by unfold iU;rw[abQ,VL]
    have MD:(M.set k (.raw u)++[dP (Β ε γ tb gU)])[k]? =some (.raw u):=eK (by rw[abo kl]);have SD:(M.set k (.raw u)++[dP (Β ε γ tb gU)])[M.length]? =some (dP (Β ε γ tb gU)):=by have:=bM (M:=M.set k (.raw u)) (o:=dP (Β ε γ tb gU));rwa[abr]at this
    have bsn:Β ε γ tb (gU++[((i:Int),v)])=Β ε γ tb gU++qK ε γ tb ((i:Int),v):=by unfold Β;rw[List.flatMap_append];simp
    have HR:∀Θ o5,Θ=Β ε γ tb (gU++[((i:Int),v)])->_:=λΘ o5 ea=>gT [some (ao Cm ε γ),some (.loc k),some (.lst (tb.map Λ)),some (.loc M.length),some (.int (i:Int)),o5] (M.set k (.raw u)++[dP Θ]) ⟨gU++[((i:Int),v)],rest,_,o5,by rw[e,aaY];rfl,rfl,by rw[ea],rfl⟩;have hg:=Pc _ pm;rw[<-hu]at MD SD HR⊢;walk_at "vc";refine⟨⟨_,_,.inl rfl,rfl⟩,ε,γ,tb,i,r,rfl,VL,f,?_⟩;generalize de ε tb r=bl at *
    refine⟨k,kP pl,(pl.map λx:Int×Int=>x.2),ep,Sum.inl (i:Int),v,rfl,MD,rfl,hg,?_⟩;refine⟨.int v,_,_,rfl,rfl,vB bl,λz=>?_,λz=>?_⟩
    ·have z:(!Br bl v)=true:=z;have z:¬Br bl v=true:=by simpa using z
     have⟨j,bl',rfl⟩:=abw hr3;dsimp only[xl];walk_at "vc";refine(Η (d:=.lst ((j::bl').map λj:Nat=>Dt.int j)) rfl bP ?_:cI (.lst ((j::bl').map λj:Nat=>Dt.int j)) (.int 0) _ _);have ll:=jA (ε:=ε) (γ:=γ) (tb:=tb) gU;have dl:gU.length<=12:=by have:=aa2 List.length e;rw[aah]at this;omega
     refine⟨M.length,_,_,Sum.inl (i:Int),rfl,SD,rfl,by unfold kP;rw[List.length_map];omega,?_⟩;rw[AO (v:=(j:Int)),ET];have gn:Ξ (Β ε γ tb gU) (i:Int)=none:=oI λy=>by have y:=f_ y;rw[e]at nd;unfold BN at nd;rw[aa7,acF]at nd;exact nd.2.2 _ y _ aad rfl
     have e1:iF (Β ε γ tb gU) (i:Int) (j:Int)=Β ε γ tb (gU++[((i:Int),v)]):=by rw[bsn];unfold iF qK;rw[gn,hbA,aaC z,aaC @_];rfl
     rw[e1,aci (h:=by rw[abr];exact aaj _),abr,acz];exact HR _ _ rfl
    ·have z:(!Br bl v)=false:=z;have z:Br bl v=true:=by simpa using z
     exact HR _ _ (by rw[bsn];unfold qK;rw[hbA,if_pos z,List.append_nil])
  ·have⟨gU,rest,o4,o5,e,ex,rfl,rfl⟩:=hj;have:rest=[]:=by cases rest with| nil=>rfl| cons p r=>cases ex
   subst this;rw[aa6]at e;rw[wU]at hb;rw[hb,<-e];exact h
def fo(γ:List Rw)(i:Nat):Str:=match γ[i]? with
 | some r=>kindOf r
 | none=>""
def iY(γ:List Rw)(hand:Str):List Nat:=(List.range γ.length).filter λi=>decide (fo γ i=hand)
def oZ(γ:List Rw)(hand:Str):Pl:=(iY γ hand).map λi:Nat=>((i:Int),0)
def CY(p:Nat->Bool)(n:Nat):((e6 0 n).filter λx=>match x with| .int j=>p j.toNat| _=>false)=((List.range n).filter p).map λi:Nat=>Dt.int i:=by
 unfold e6;rw[List.filter_map];have e:((λx:Dt=>match x with| .int j=>p j.toNat| _=>false) ∘ λi:Nat=>Dt.int (0+(i:Int)))=p:=funext λi=>by show p (0+(i:Int)).toNat=p i;rw[show(0+(i:Int)).toNat=i by omega]
 rw[e];exact abm λi _=>by show Dt.int (0+(i:Int))=Dt.int i;rw[Int.zero_add]
def ER(A:Addr):DF:=λas M q _=>∃(ε:Fr) (γ:List Rw) (hand:Str),as=[ao A ε γ,.str hand]/\γ.length<=12/\q (.lst ((iY γ hand).map λi:Nat=>Dt.int i)) M
def tL:Ε ["floor","hand"] ["floor","hand"] (χ pd):=.of rfl
def zU(F:dh K "places_of" "places_of" pd f fd)(E:Ev K mg w Cm){eN:Addr}{eP:FuncData}(aZ:cy P w K mg base 1 Cm "size" ["self"] (Bm Cm) eN eP)(Κ:cy P w K mg base 1 Cm "kind" ["self","place"] (lu Cm) aB aC):aw P w K mg base (cw P w) 2 f fd ["floor","hand"] (c7 K (ER Cm)):=by
 refine F.dW tL (λds M q x h=>?_) (λaW A outer s H E' hr=>⟨_,(μ (Ζ (zG (ys:=["hand","floor"]) (af:=[1,0]) (.of tL rfl rfl rfl) (Lu (dF E.cU (ι (jX aZ hr ν (jv 0)) θ aY))) (λC s H fp=>(cD hr (a_ Κ hr (fW (P:=P) (w:=w)) (jv 2) (Ο (jv 0) θ)) (jv 1))) (λC s H fp=>(jv 0))))),λds M q x h=>?_⟩)
 ·have⟨ε,γ,hand,rfl,_⟩:=h;rfl
 ·have⟨ε,γ,hand,rfl,vd,h⟩:=h;have sl:∀{z:Nat},z<=1000->z<=sizeLine:=λh=>aax h @_;walk_at "vc";dsimp only[Du,kOf];walk_at "vc";refine⟨⟨_,_,.inl rfl,rfl⟩,ε,γ,rfl,?_⟩;refine⟨(),by rw[gs];exact sl (),?_⟩;rw[show((γ.length:Int)).toNat=γ.length by omega];refine e7 trivial (λx=>match x with| .int j=>decide (fo γ j.toNat=hand)| _=>false) (λx=>x) _ _ (λx hx q' p' h1 h2=>?_) ?_
  ·have⟨j,hj,rfl⟩:=k7 hx;rw[Int.zero_add]at h1 h2⊢;have hr:γ[j]? =some γ[j]:=aaa hj;have Pb:fo γ j=kindOf γ[j]:=by unfold fo;rw[hr]
   have h1:decide (fo γ j=hand)=true->q' (.int (j:Int)) M:=h1;have h2:decide (fo γ j=hand)=false->p' M:=h2;rw[Pb]at h1 h2;refine⟨⟨_,_,.inl rfl,rfl⟩,ε,γ,j,γ[j],rfl,hr,?_⟩;show(match decide (kindOf γ[j]=hand) with| true=>q' (.int (j:Int)) M| false=>p' M);cases hb:decide (kindOf γ[j]=hand) with
   | true=>exact h1 hb
   | false=>exact h2 hb
  ·rw[aaW,List.map_id'];exact(λ(key:∀l,l=(iY γ hand).map (λi:Nat=>Dt.int i)->q (.lst l) M)=>key _ (CY (λi=>decide (fo γ i=hand)) γ.length)) λl hl=>by rw[hl];exact h
def yR(A:Addr):DF:=λas M q _=>∃(ε:Fr) (γ:List Rw) (hand:Str),as=[ao A ε γ,.str hand]/\γ.length<=12/\q (.loc M.length) (M++[dP (oZ γ hand)])
def kW:Ε ["floor","hand","plan","place"] ["floor","hand"] (χ nF):=.of rfl
def x5(F:dh K "first_plan" "first_plan" nF f fd)(E:Ev K mg w Cm){Hz:Addr}{G9:FuncData}(mR:ax P w K mg base 2 "places_of" ["floor","hand"] (ER Cm) Hz G9):aw P w K mg base (cw P w) 3 f fd ["floor","hand"] (c7 K (yR Cm)):=by
 refine F.dW kW (λds M q x h=>?_) (λaW A outer s H E' hr=>⟨_,(η (ω 2 kW.nd CL)
   (η (dR (bD (ae mR hr ν (Ο (jv 0) (Ο (jv 1) θ)))) (av (i:=3) kW.nd rfl (Or.inl rfl)) bq (μ (yb hr (jv 2) (jv 3) υ)))
   (μ (Ζ (jv 2))))),λds M q x h=>?_⟩)
 ·have⟨ε,γ,hand,rfl,_⟩:=h;rfl
 ·have⟨ε,γ,hand,rfl,vd,h⟩:=h;have adN:(iY γ hand).length<=12:=by have:=List.length_filter_le (λi=>decide (fo γ i=hand)) (List.range γ.length);rw[aa9]at this;unfold iY;omega
  have pnd:(iY γ hand).Nodup:=List.nodup_range.filter _;walk_at "vc";dsimp only[A0,ft];walk_at "vc";refine⟨ε,γ,hand,rfl,vd,?_⟩;refine cf (λxs ρ' M'=>∃(gU rest:List Nat) (o3:Option Dt),iY γ hand=gU++rest/\xs=rest.map (λi:Nat=>Dt.int i)/\M'=M++[dP (gU.map λi:Nat=>((i:Int),0))]/\ρ'=[some (ao Cm ε γ),some (.str hand),some (.loc M.length),o3]) (λxs ρ' M' hj=>trivial) (λx xs ρ' M' hj gT=>?_) (λρ' M' hj=>?_) _ _ _ ⟨[],iY γ hand,none,rfl,rfl,rfl,rfl⟩
  ·have⟨gU,rest,o3,e,ex,rfl,rfl⟩:=hj;cases rest with
   | nil=>cases ex
   | cons i rest=>
    cases ex;have dl:gU.length<=12:=by have:=aa2 List.length e;rw[aah]at this;omega
    dsimp only[xl];walk_at "vc";refine⟨M.length,_,_,Sum.inl (i:Int),rfl,bM,rfl,by unfold kP;rw[List.length_map,List.length_map];omega,?_⟩;rw[AO (v:=0),ET,gL];have gn:Ξ (gU.map λi:Nat=>((i:Int),0)) (i:Int)=none:=oI λy=>by
     rw[aaN]at y;have⟨j,hj,ej⟩:=aai.mp y;have ej:(j:Int)=(i:Int):=ej;have:j=i:=()
     subst this;rw[e,acF]at pnd;exact pnd.2.2 _ hj _ aad rfl
    refine gT _ _ ⟨gU++[i],rest,_,by rw[e,aaY];rfl,rfl,?_,rfl⟩;unfold iF;rw[gn,aaC @_,aa7];rfl
  ·have⟨gU,rest,o3,e,ex,rfl,rfl⟩:=hj;have:rest=[]:=by cases rest with| nil=>rfl| cons p r=>cases ex
   subst this;rw[aa6]at e;rw[<-e];exact h
def bG:Pl->Pl->Pl
 | p,[]=>p
 | p,e::r=>bG (iF p e.1 e.2) r
def DZ:∀{r p:Pl},qu (kP p) (kP r)=kP (bG p r)
 | [],p=>rfl
 | e::r,p=>by show qu (ia (kP p) (Sum.inl e.1)) (kP r)=kP (bG (iF p e.1 e.2) r);rw[AO (v:=e.2)];exact DZ
def Ew:∀{r p:Pl},tm (kP p) (vP p) (kP r) (vP r)=vP (bG p r)
 | [],p=>rfl
 | e::r,p=>by show tm (ia (kP p) (Sum.inl e.1)) (fq (kP p) (Sum.inl e.1) (vP p) (.int e.2)) (kP r) (vP r)=vP (bG (iF p e.1 e.2) r);rw[AO (v:=e.2),ET];exact Ew
def ff{i:Int}:∀{r p:Pl},BN r->Ξ (bG p r) i=match Ξ r i with| some v=>some v| none=>Ξ p i
 | [],p,_=>rfl
 | e::r,p,nd=>by
  unfold BN at nd;rw[aaQ,abS]at nd;have ih:=ff (i:=i) (r:=r) (p:=iF p e.1 e.2) nd.2;show Ξ (bG (iF p e.1 e.2) r) i=match (if e.1=i then some e.2 else Ξ r i) with| some v=>some v| none=>Ξ p i
  rw[ih,Ez];by_cases h:e.1=i
  ·have hn:Ξ r i=none:=by
    cases hg:Ξ r i with
    | none=>rfl
    | some v=>exact aaP (aai.mpr ⟨_,FG hg,h.symm⟩) nd.1
   rw[hn,aaz h,aaz h.symm]
  ·rw[aaC h,aaC (Ne.symm h)]
def TF(A:Addr):DF:=λas M q _=>∃(ε:Fr) (γ:List Rw) (kh ka:Nat) (ph pa:Pl) (X C:Int),as=[ao A ε γ,.loc kh,.loc ka]/\M[kh]? =some (dP ph)/\M[ka]? =some (dP pa)/\ph.length+pa.length<=1000/\iw γ (bG ph pa)/\FW ε γ X C/\ma X C<=2 ^ 450/\(12 * ma X C) ^ γ.length < bB γ.length/\∀tb,mh ε γ (bG ph pa) tb->q (.loc (M.length+1)) (M++[dP (bG ph pa),.lst (tb.map Λ)])
def kf:Ε ["floor","held","answer","doors"] ["floor","held","answer"] (χ hV):=.of rfl
def pU(F:dh K "worths_against" "worths_against" hV f fd)(E:Ev K mg w Cm){Hl:Addr}{HH:FuncData}(mH:ax P w K mg base 7 "worths_by" ["floor","doors"] (Sx Cm) Hl HH):aw P w K mg base (cw P w) 8 f fd ["floor","held","answer"] (c7 K (TF Cm)):=by
 refine F.dW kf (λds M q x h=>?_) (λaW A outer s H E' hr=>⟨_,(η (ω 3 kf.nd (K0 E.tE (Ο (jv 1) θ)))
   (η (eB (CN (jv 3) (jv 2)))
   (μ (Ζ (ae mH hr ν (Ο (jv 0) (Ο (jv 3) θ))))))),λds M q x h=>?_⟩)
 ·have⟨ε,γ,kh,ka,ph,pa,X,C,rfl,_⟩:=h;rfl
 ·have⟨ε,γ,kh,ka,ph,pa,X,C,rfl,hh,ha,lz,dk,fw,nI,xw,h⟩:=h;walk_at "vc";refine⟨kh,_,_,rfl,hh,?_⟩;dsimp only[EF];walk_at "vc";have kl:ka < M.length:=(aaf.mp ha).1;refine⟨⟨M.length,_,_,rfl,bM⟩,M.length,ka,_,_,_,_,rfl,rfl,(),bM,eK ha,by unfold kP;rw[List.length_map,List.length_map];exact lz,?_⟩;rw[DZ,Ew,gL];refine⟨ε,γ,_,_,X,C,rfl,bM,dk,fw,nI,xw,λtb wt=>?_⟩;have:=h tb wt;simpa [List.append_assoc] using this
def LB{a b:Fr}(ha:0 < a.2)(hb:0 < b.2):a.1 * b.2<=b.1 * a.2↔val a<=val b:=by
 have e1:val a * (a.2:Rat)=a.1:=by
  have:=aR (show a.2≠0 by omega);unfold val;generalize (a.1:Rat)=x at *
  generalize (a.2:Rat)=y at *
  grind
 have e2:val b * (b.2:Rat)=b.1:=by
  have:=aR (show b.2≠0 by omega);unfold val;generalize (b.1:Rat)=x at *
  generalize (b.2:Rat)=y at *
  grind
 have p1:(0:Rat) < (a.2:Rat):=aaO.mpr ha;have p2:(0:Rat) < (b.2:Rat):=aaO.mpr hb;have pp:=Rat.mul_pos p1 p2;rw[<-aay,aaK,aaK,<-e1,<-e2];generalize (a.2:Rat)=y at *
 generalize (b.2:Rat)=z at *
 generalize val a=u at *
 generalize val b=v at *
 constructor
 ·intro h;by_cases c:u<=v
  ·exact c
  ·have:=Rat.mul_pos (show 0 < u - v by grind) pp;grind
 ·intro h;have:=abj h (Rat.le_of_lt pp);grind
def wj{f n:Fr}(h1:0 < f.2)(h2:0 < n.2):dG f n=true↔val f < val n:=by
 unfold dG;rw[aam];have:=LB h2 h1;constructor
 ·intro h;by_cases c:val n<=val f
  ·have:=this.mpr c;omega
  ·grind
 ·intro h;by_cases c:n.1 * f.2<=f.1 * n.2
  ·have:=this.mp c;grind
  ·omega
def mF:∀(ns:List Fr) (f:Fr),0 < f.2->(∀n∈ns,0 < n.2)->(ns.foldl (λf n=>if dG f n then n else f) f∈f::ns)/\val f<=val (ns.foldl (λf n=>if dG f n then n else f) f)/\∀n∈ns,val n<=val (ns.foldl (λf n=>if dG f n then n else f) f)
 | [],f,_,_=>⟨List.mem_cons_self,by show val f<=val f;grind,λ_ z=>nomatch z⟩
 | a::ns,f,h,hn=>by
  have ha:=hn a aad;have u:=wj h ha;rw[abE];by_cases c:dG f a=true
  ·rw[aaz c];have⟨m,l,al⟩:=mF ns a ha λn z=>hn n (aac _ z);have:=u.mp c;refine⟨List.mem_cons_of_mem _ m,by grind,λn z=>?_⟩;rcases aaL.mp z with e| e
   ·rw[e];exact l
   ·exact al n e
  ·rw[aaC c];have⟨m,l,al⟩:=mF ns f h λn z=>hn n (aac _ z);have c2:¬val f < val a:=λz=>c (u.mpr z);refine⟨?_,l,λn z=>?_⟩
   ·rcases aaL.mp m with e| e
    ·rw[e];exact aad
    ·exact aac _ (aac _ e)
   ·rcases aaL.mp z with e| e
    ·rw[e];grind
    ·exact al n e
def mT:∀(ns:List Fr) (f:Fr),0 < f.2->(∀n∈ns,0 < n.2)->(ns.foldl (λf n=>if dG n f then n else f) f∈f::ns)/\val (ns.foldl (λf n=>if dG n f then n else f) f)<=val f/\∀n∈ns,val (ns.foldl (λf n=>if dG n f then n else f) f)<=val n
 | [],f,_,_=>⟨List.mem_cons_self,by show val f<=val f;grind,λ_ z=>nomatch z⟩
 | a::ns,f,h,hn=>by
  have ha:=hn a aad;have u:=wj ha h;rw[abE];by_cases c:dG a f=true
  ·rw[aaz c];have⟨m,l,al⟩:=mT ns a ha λn z=>hn n (aac _ z);have:=u.mp c;refine⟨List.mem_cons_of_mem _ m,by grind,λn z=>?_⟩;rcases aaL.mp z with e| e
   ·rw[e];exact l
   ·exact al n e
  ·rw[aaC c];have⟨m,l,al⟩:=mT ns f h λn z=>hn n (aac _ z);have c2:¬val a < val f:=λz=>c (u.mpr z);refine⟨?_,l,λn z=>?_⟩
   ·rcases aaL.mp m with e| e
    ·rw[e];exact aad
    ·exact aac _ (aac _ e)
   ·rcases aaL.mp z with e| e
    ·rw[e];grind
    ·exact al n e
def kj(k:Str):Rat:=if k="one" then 1 else -1
section
variable{k:Str}
def wb(h0:ds≠[])(hp:∀d∈ds,0 < (Ψ ε tb d).2):fv ε tb (.ο k ds)∈ds.map (Ψ ε tb)/\∀d∈ds,kj k * val (Ψ ε tb d)<=kj k * val (fv ε tb (.ο k ds)):=by
 have⟨d1,qx,rfl⟩:=abw h0;have hn:∀n∈(d1::qx).map (Ψ ε tb),0 < n.2:=λn hn=>by have⟨d,hd,rfl⟩:=aai.mp hn;exact hp d hd
 have h1:=hp d1 aad;unfold kj;by_cases e:k="one"
 ·have e1:fv ε tb (.ο k (d1::qx))=nc ((d1::qx).map (Ψ ε tb)):=aaz e;have⟨m,l,al⟩:=mF ((d1::qx).map (Ψ ε tb)) (Ψ ε tb d1) h1 hn;have e2:nc ((d1::qx).map (Ψ ε tb))=((d1::qx).map (Ψ ε tb)).foldl (λf n=>if dG f n then n else f) (Ψ ε tb d1):=rfl;rw[e1,e2,aaz e];refine⟨?_,λd hd=>?_⟩
  ·rcases aaL.mp m with y| y
   ·rw[y];exact aad
   ·exact y
  ·have:=al _ (aai.mpr ⟨d,hd,rfl⟩);grind
 ·have e1:fv ε tb (.ο k (d1::qx))=mS ((d1::qx).map (Ψ ε tb)):=aaC e;have⟨m,l,al⟩:=mT ((d1::qx).map (Ψ ε tb)) (Ψ ε tb d1) h1 hn;have e2:mS ((d1::qx).map (Ψ ε tb))=((d1::qx).map (Ψ ε tb)).foldl (λf n=>if dG n f then n else f) (Ψ ε tb d1):=rfl;rw[e1,e2,aaC e];refine⟨?_,λd hd=>?_⟩
  ·rcases aaL.mp m with y| y
   ·rw[y];exact aad
   ·exact y
  ·have:=al _ (aai.mpr ⟨d,hd,rfl⟩);grind
end
def xK{l:List Nat}{v:Int}:Br l v=true↔∃j∈l,(j:Int)=v:=by
 unfold Br RG;rw[List.any_eq_true];constructor
 ·rintro⟨u,hu,e⟩;have⟨j,hj,rfl⟩:=aai.mp hu;refine⟨j,hj,?_⟩;unfold Bq at e;simpa using e
 ·rintro⟨j,hj,e⟩;refine⟨.int j,aai.mpr ⟨j,hj,rfl⟩,?_⟩;unfold Bq;simpa using e
section
variable{k:Str}
def jx(hi:γ[i]? =some r):gF γ i=r:=by unfold gF;rw[aab,hi];rfl
def jk(hh:Γ k=true):j∈de ε tb (.ο k ds)↔j < ds.length/\Ψ ε tb (ds.getD j d0)=fv ε tb (.ο k ds):=by have e:de ε tb (.ο k ds)=(List.range ds.length).filter λj=>decide (Ψ ε tb (ds.getD j d0)=fv ε tb (.ο k ds)):=aaz hh;rw[e,List.mem_filter,abu,aam]
def MX(hh:Γ k=true)(h0:ds≠[])(hp:∀d∈ds,0 < (Ψ ε tb d).2):de ε tb (.ο k ds)≠[]:=by have⟨m,_⟩:=wb (k:=k) h0 hp;have⟨d,hd,e⟩:=aai.mp m;have⟨j,jl,ej⟩:=abl hd;have:j∈de ε tb (.ο k ds):=(jk hh).mpr ⟨jl,by rw[aab,aaa jl];show Ψ ε tb ds[j]=_;rw[ej,e]⟩;exact List.ne_nil_of_mem this
def oa(fw:FW ε γ X C)(hm:Rw.ο k ds∈γ)(hd:d∈ds)(hp:∀t,t < γ.length->0 < (tb.getD t (0,1)).2):val (Ψ ε tb d)=val d.2.1+val ε * val (tb.getD d.1.toNat (0,1))/\Red (Ψ ε tb d):=by have s0:=fw.sh.1;have dr:=bI fw.pl hm;have⟨t0,t1⟩:=dr.to d hd;have tp:0 < (tb.getD d.1.toNat (0,1)).2:=hp _ ();have p0:=(dr.py d hd).2;have t:Red (aq ε (tb.getD d.1.toNat (0,1))):=aP (aaZ (aap s0 tp));refine⟨?_,aP (aaZ (aap p0 t.pos))⟩;show val (dq d.2.1 (aq ε (tb.getD d.1.toNat (0,1))))=_;rw[iX p0 t.pos,eZ s0 tp]
def kY(fw:FW ε γ X C)(hi:γ[i]? =some (.ο k ds))(hh:Γ k=true)(gj:Ξ Θ i=some (j:Int))(jl:j < ds.length)(hp:∀t,t < γ.length->0 < (tb.getD t (0,1)).2):j3 ε (v8 γ Θ) (vS γ Θ) (λx=>val (tb.getD x (0,1))) i=val (Ψ ε tb (ds.getD j d0)):=by
 have rm:Rw.ο k ds∈γ:=aak hi;have gd:ds.getD j d0=ds[j]:=by rw[aab,aaa jl];rfl
 have dm:=aaq jl;have e:aE Θ i (.ο k ds)=[(ds[j].1,ds[j].2.1,[(1,1)])]:=by unfold aE;rw[gj];show[((ds.getD ((j:Int)).toNat d0).1,(ds.getD ((j:Int)).toNat d0).2.1,(ds.getD ((j:Int)).toNat d0).2.2++[(1,1)])]=_;rw[abQ,gd,fw.Wu k ds rm hh _ dm];rfl
 have v1:val ((1,1):Fr)=1:=by show((1:Int):Rat) / ((1:Int):Rat)=1;grind
 have v0:val ((0,1):Fr)=0:=by show((0:Int):Rat) / ((1:Int):Rat)=0;grind
 have p0:=((bI fw.pl rm).py ds[j] dm).2;have eg:val (R6 Θ i (.ο k ds))=val ds[j].2.1:=by show val (iJ (((aE Θ i (.ο k ds)).map τ).zip ((aE Θ i (.ο k ds)).map (·.2.1))))=_;rw[e];show val (dq (0,1) (aq (1,1) ds[j].2.1))=_;have t:Red (aq ((1,1):Fr) ds[j].2.1):=aP (aaZ (aap @_ p0));rw[iX @_ t.pos,eZ @_ p0,v0,v1];grind
 unfold j3 v8 vS;rw[jx hi,eg,gd,(oa fw rm dm hp).1];show _+val ε * aj (λd=>cV d * val (tb.getD d.1.toNat (0,1))) (aE Θ i (.ο k ds))=_;rw[e];show _+val ε * (cV (ds[j].1,ds[j].2.1,[((1,1):Fr)]) * val (tb.getD ds[j].1.toNat (0,1))+0)=_;have:cV (ds[j].1,ds[j].2.1,[((1,1):Fr)])=1:=v1;rw[this];grind
def zY{x:Nat->Rat}(h:Ξ Θ i=Ξ cJ i):j3 ε (v8 γ Θ) (vS γ Θ) x i=j3 ε (v8 γ cJ) (vS γ cJ) x i:=by
 have e:∀r,aE Θ i r=aE cJ i r:=λr=>by unfold aE;rw[h]
 have e1:Qg Θ i (gF γ i)=Qg cJ i (gF γ i):=by
  cases gF γ i with
  | fin p=>rfl
  | ο k ds=>exact e _
 have e2:R6 Θ i (gF γ i)=R6 cJ i (gF γ i):=by
  cases gF γ i with
  | fin p=>rfl
  | ο k ds=>
   show iJ (((aE Θ i (.ο k ds)).map τ).zip ((aE Θ i (.ο k ds)).map (·.2.1)))=iJ (((aE cJ i (.ο k ds)).map τ).zip ((aE cJ i (.ο k ds)).map (·.2.1)));rw[e]
 unfold j3 v8 vS;rw[e1,e2]
def mh.j3(h:mh ε γ Θ tb)(il:i < γ.length):j3 ε (v8 γ Θ) (vS γ Θ) (λx=>val (tb.getD x (0,1))) i=val (tb.getD i (0,1)):=(h.tab.eq i il).symm
end
structure j9(hand ψ:Str):Prop where
 h1:Γ hand=true
 h2:Γ ψ=true
 ne:hand≠ψ
 two:∀z:Str,Γ z=true->z=hand\/z=ψ
 sg:kj ψ= -kj hand
def iZ{hand:Str}(h:hand="one"/\ψ="other"\/hand="other"/\ψ="one"):j9 hand ψ:=by
 refine⟨?_,?_,?_,λz hz=>?_,?_⟩
 ·rcases h with ⟨rfl,rfl⟩| ⟨rfl,rfl⟩ <;> decide
 ·rcases h with ⟨rfl,rfl⟩| ⟨rfl,rfl⟩ <;> decide
 ·rcases h with ⟨rfl,rfl⟩| ⟨rfl,rfl⟩ <;> decide
 ·unfold Γ at hz;rw[Bool.or_eq_true,abH,abH]at hz;rcases h with ⟨rfl,rfl⟩| ⟨rfl,rfl⟩
  ·exact hz
  ·exact hz.symm
 ·unfold kj;rcases h with ⟨rfl,rfl⟩| ⟨rfl,rfl⟩
  ·rw[aaC @_,aaz rfl]
  ·rw[if_pos rfl,if_neg @_];grind
def Jk{k:Str}(h:Γ k=true):∃r,j9 k r/\j9 r k:=by
 unfold Γ at h;rw[Bool.or_eq_true,abH,abH]at h;rcases h with h| h
 ·exact⟨"other",iZ (.inl ⟨h,rfl⟩),iZ (.inr ⟨rfl,h⟩)⟩
 ·exact⟨"one",iZ (.inr ⟨h,rfl⟩),iZ (.inl ⟨rfl,h⟩)⟩
section
def Fz(ε:Fr)(γ:List Rw)(tb:List Fr)(ψ:Str)(Θ cJ:Pl)(i:Nat):Prop:=∃ds j j',γ[i]? =some (.ο ψ ds)/\Ξ Θ i=some ((j:Nat):Int)/\Ξ cJ i=some ((j':Nat):Int)/\j < ds.length/\j∉de ε tb (.ο ψ ds)/\j'∈de ε tb (.ο ψ ds)
def sJ(fw:FW ε γ X C){k:Str}(hm:Rw.ο k ds∈γ)(hp:∀t,t < γ.length->0 < (tb.getD t (0,1)).2):Red (fv ε tb (.ο k ds))/\∀d∈ds,kj k * val (Ψ ε tb d)<=kj k * val (fv ε tb (.ο k ds)):=by have l1:=(bI fw.pl hm).l1;have⟨m,al⟩:=wb (ε:=ε) (tb:=tb) (k:=k) (ds:=ds) (λz=>by rw[z]at l1;exact aaP l1 @_) λd hd=>(oa fw hm hd hp).2.pos;refine⟨?_,al⟩;have⟨d,hd,e⟩:=aai.mp m;rw[<-e];exact(oa fw hm hd hp).2
def K8{k:Str}{a b:Rat}(h:kj k * a=kj k * b):a=b:=by unfold kj at h;split at h <;> grind
variable{hand:Str}
def Mix(ε:Fr)(γ:List Rw)(tb:List Fr)(hand ψ:Str)(Θ cJ:Pl)(i:Nat):Prop:=Ξ cJ i=Ξ Θ i\/Fz ε γ tb hand Θ cJ i\/∃ds j j',γ[i]? =some (.ο ψ ds)/\Ξ Θ i=some ((j:Nat):Int)/\Ξ cJ i=some ((j':Nat):Int)/\j' < ds.length/\j∈de ε tb (.ο ψ ds)
def xZ(fw:FW ε γ X C)(hs:j9 hand ψ)(Ra:iw γ cJ)(b1:1<=ma X C)(h:mh ε γ Θ tb)(h':mh ε γ cJ Bs)(hd:∀i,i < γ.length->Mix ε γ tb hand ψ Θ cJ i):(∀i,i < γ.length->kj hand * val (tb.getD i (0,1))<=kj hand * val (Bs.getD i (0,1)))/\∀i,i < γ.length->Fz ε γ tb hand Θ cJ i->kj hand * val (tb.getD i (0,1)) < kj hand * val (Bs.getD i (0,1)):=by
 have hp:∀t,t < γ.length->0 < (tb.getD t (0,1)).2:=λt ht=>(h.tab.red t ht).pos;have chg:∀i,i < γ.length->Fz ε γ tb hand Θ cJ i->0 < kj hand * (j3 ε (v8 γ cJ) (vS γ cJ) (λx=>val (tb.getD x (0,1))) i - val (tb.getD i (0,1))):=λi il ⟨ds,j,j',hi,g,g',jl,nb,b⟩=>by
  have rm:Rw.ο hand ds∈γ:=aak hi;have⟨Rp,e'⟩:=(jk hs.h1).mp b;have⟨lr,al⟩:=sJ (tb:=tb) fw rm hp;have gd:ds.getD j d0=ds[j]:=by rw[aab,aaa jl];rfl
  have dm:=aaq jl;rw[kY fw hi hs.h1 g' Rp hp,<-h.j3 il,kY fw hi hs.h1 g jl hp,e',gd];have le:=al _ dm;have ne:val (Ψ ε tb ds[j])≠val (fv ε tb (.ο hand ds)):=λz=>nb ((jk hs.h1).mpr ⟨jl,by rw[gd];exact FF (oa fw rm dm hp).2 lr z⟩);have ne2:kj hand * val (Ψ ε tb ds[j])≠kj hand * val (fv ε tb (.ο hand ds)):=λz=>ne (K8 z);grind
 have r0:∀i,i < γ.length->0<=kj hand * (j3 ε (v8 γ cJ) (vS γ cJ) (λx=>val (tb.getD x (0,1))) i - val (tb.getD i (0,1))):=λi il=>by
  rcases hd i il with e| e| ⟨ds,j,j',hi,g,g',Rp,b⟩
  ·rw[zY e,h.j3 il];grind
  ·exact Rat.le_of_lt (chg i il e)
  ·have rm:Rw.ο ψ ds∈γ:=aak hi;have⟨jl,e⟩:=(jk hs.h2).mp b;have⟨lr,al⟩:=sJ (tb:=tb) fw rm hp;have gd':ds.getD j' d0=ds[j']:=by rw[aab,aaa Rp];rfl
   have le:=al _ (aaq Rp);rw[kY fw hi hs.h2 g' Rp hp,<-h.j3 il,kY fw hi hs.h2 g jl hp,e,gd'];rw[hs.sg]at le;grind
 have key:=Tab.cmp (fw.sys Ra b1) h'.tab (x:=λx=>val (tb.getD x (0,1))) (sg:=kj hand) r0;refine⟨λi il=>?_,λi il e=>?_⟩
 ·have:=key i il;have:=r0 i il;grind
 ·have:=key i il;have:=chg i il e;grind
def HK(fw:FW ε γ X C)(hh:Γ ψ=true)(dk:iw γ Θ)(Ra:iw γ cJ)(b1:1<=ma X C)(h:mh ε γ Θ tb)(h':mh ε γ cJ Bs)(hd:∀i,i < γ.length->Ξ cJ i=Ξ Θ i\/Fz ε γ tb ψ Θ cJ i):(∀i,i < γ.length->kj ψ * val (tb.getD i (0,1))<=kj ψ * val (Bs.getD i (0,1)))/\∀i,i < γ.length->Fz ε γ tb ψ Θ cJ i->kj ψ * val (tb.getD i (0,1)) < kj ψ * val (Bs.getD i (0,1)):=by have⟨r,hs,_⟩:=Jk hh;exact xZ fw hs Ra b1 h h' λi il=>(hd i il).elim .inl λc=>.inr (.inl c)
def Cb(fw:FW ε γ X C)(hh:Γ ψ=true)(dk:iw γ Θ)(Ra:iw γ cJ)(b1:1<=ma X C)(h:mh ε γ Θ tb)(h':mh ε γ cJ Bs)(hd:∀i,i < γ.length->Ξ cJ i=Ξ Θ i\/Fz ε γ tb ψ Θ cJ i)(il:i < γ.length)(hc:Fz ε γ tb ψ Θ cJ i):BH ε γ (kj ψ) Θ < BH ε γ (kj ψ) cJ:=by
 have⟨a,b⟩:=HK fw hh dk Ra b1 h h' hd;unfold BH;refine xk (λj hj=>?_) il ?_
 ·rw[yo fw dk b1 h,yo fw Ra b1 h'];exact a j hj
 ·rw[yo fw dk b1 h,yo fw Ra b1 h'];exact b i il hc
end
def qS(h:0 < p.2)(a:c8 p C):ab (val p)<=(C:Rat):=by
 have e:val p * (p.2:Rat)=p.1:=by
  have:=aR (show p.2≠0 by omega);unfold val;generalize (p.1:Rat)=x at *
  generalize (p.2:Rat)=y at *
  grind
 have p0:(0:Rat) < (p.2:Rat):=aaO.mpr h;have a1:(p.1:Rat)<=(p.2:Rat) * (C:Rat):=by rw[<-aaK];exact aay.mpr a.1
 have a2: -((p.2:Rat) * (C:Rat))<=(p.1:Rat):=by rw[<-aaK,<-Rat.intCast_neg];exact aay.mpr a.2
 refine eh.mpr ⟨?_,?_⟩
 ·by_cases z: -(C:Rat)<=val p
  ·exact z
  ·have:=Rat.mul_pos (show 0 < -(C:Rat) - val p by grind) p0;grind
 ·by_cases z:val p<=(C:Rat)
  ·exact z
  ·have:=Rat.mul_pos (show 0 < val p - (C:Rat) by grind) p0;grind
def Fb(h:0 < p.2)(a:ab (val p)<=(C:Rat)):c8 p C:=by
 have e:val p * (p.2:Rat)=p.1:=by
  have:=aR (show p.2≠0 by omega);unfold val;generalize (p.1:Rat)=x at *
  generalize (p.2:Rat)=y at *
  grind
 have p0:(0:Rat)<=(p.2:Rat):=aay.mpr (aag h);have⟨a1,a2⟩:=eh.mp a;have b1:=abj a1 p0;have b2:=abj a2 p0;constructor
 ·apply aay.mp;rw[Rat.intCast_mul];grind
 ·apply aay.mp;rw[Rat.intCast_neg,Rat.intCast_mul];grind
def Sys.abs{B:Int}{ws:Nat->List bu}{gv:Nat->Fr}{c:Rat}(S:Sys ε n B ws gv)(h:Tab ε n ws gv tb)(s3:1<=1000 * (1 - val ε))(hg:∀i,i < n->ab (val (gv i))<=c):∀i,i < n->ab (val (tb.getD i (0,1)))<=1000 * c:=λi hi=>by
 have s0:=S.s0;have s1:=S.s1
 have:=LM (n:=n) (x:=λx=>val (tb.getD x (0,1))) (c:=c) s1 (λi hi m hm=>by
  have⟨E,C,p,_⟩:=S.GA i hi;have w:=eh.mp (EG p.wo () hm);have a:=aaR w.1 s0;have b:=aaR w.2 s0;have g:=eh.mp (hg i hi);rw[h.eq i hi]
  refine eh.mpr ⟨?_,?_⟩ <;> grind) i hi
 have a0:=Nn (val (tb.getD i (0,1)));have:=aaR s3 a0;grind
structure W4(tb:List Fr)(n:Nat):Prop where
 len:tb.length=n
 red:∀t∈tb,Red t
 sz:∀t∈tb,t.2 < bB n/\t.1.natAbs < 2 ^ 1720
def mh.ok(fw:FW ε γ X C)(dk:iw γ Θ)(b1:1<=ma X C)(h:mh ε γ Θ tb):W4 tb γ.length:=by
 have S:=fw.sys dk b1;have⟨_,_,_,_,_,s3⟩:=fw.sh;have c1:=fw.c1;have ln:=h.tab.len;have g:∀t∈tb,∃i,i < γ.length/\tb.getD i (0,1)=t:=λt ht=>by have⟨i,hi,e⟩:=abl ht;exact⟨i,(),by rw[aab,aaa hi,e];rfl⟩
 have ab:=S.abs h.tab s3 (c:=((6 * C:Int):Rat)) λi hi=>by have⟨E,p,_⟩:=fw.GA dk (rw_at hi);exact qS p.gn.red.pos p.gn.ab
 refine⟨ln,λt ht=>?_,λt ht=>?_⟩
 ·have⟨i,hi,e⟩:=g t ht;rw[<-e];exact h.tab.red i hi
 ·have⟨i,hi,e⟩:=g t ht;have r:=h.tab.red i hi;have b:=h.bot i hi;have a:=ab i hi;rw[e]at r b a;have r0:=r.pos;have a:Pg.ab (val t)<=((1000 * (6 * C):Int):Rat):=by rw[aaK];exact a
  have⟨v1,v2⟩:=Fb r0 a;refine⟨b,?_⟩;have m:t.2 * (1000 * (6 * C))<=2 ^ 1600 * (1000 * (6 * 10 ^ 30)):=abb (abc (aag b) (AL _)) () (by have:=fw.c9;omega) @_;have:(t.1.natAbs:Int) < ((2 ^ 1720:Nat):Int):=aaE (show _<=(2:Int) ^ 1600 * (1000 * (6 * 10 ^ 30)) by omega) @_;exact abG.mp this
def vD(hand:Str)(pl:Pl):Str->Option Pl:=λz=>if z=hand then some pl else none
abbrev cM(γ:List Rw)(hand:Str)(pl:Pl):Pl:=e9 γ (vD hand pl) γ.length
def gh(γ:List Rw)(ψ:Str):List (Int×Nat):=(iY γ ψ).map λi:Nat=>((i:Int),(Ν (gF γ i)).length)
def FH{γ:List Rw}:∀{l:List Nat},(∀i∈l,1<=(Ν (gF γ i)).length)->aA (l.map λi:Nat=>((i:Int),(Ν (gF γ i)).length)) (l.map λi:Nat=>((i:Int),(0:Int)))
 | [],_=>trivial
 | i::l,h=>⟨rfl,acg _,by have:=h i aad;omega,FH λj hj=>h j (aac _ hj)⟩
section
variable{hand:Str}{pl p:Pl}
def i0:i∈iY γ ψ↔i < γ.length/\fo γ i=ψ:=by unfold iY;rw[List.mem_filter,abu,aam]
def A6(fw:FW ε γ X C)(hh:Γ ψ=true)(h:i∈iY γ ψ):∃ds,γ[i]? =some (.ο ψ ds)/\Ν (gF γ i)=ds/\1<=ds.length:=by
 have⟨il,e⟩:=i0.mp h;have hi:γ[i]? =some γ[i]:=aaa il;unfold fo at e;rw[hi]at e;have e:kindOf γ[i]=ψ:=e;cases hr:γ[i] with
 | fin p=>
  rw[hr]at e;rw[<-e]at hh;exact aaP hh (by show¬Γ (Str.ofString "end")=true;decide)
 | ο k ds=>
  rw[hr]at e hi;have e:k=ψ:=e;subst e;exact⟨ds,hi,by rw[jx hi];rfl,(bI fw.pl (aak hi)).l1⟩
def sW(fw:FW ε γ X C)(hh:Γ ψ=true):aA (gh γ ψ) (oZ γ ψ):=FH λi hi=>by have⟨ds,_,e,l⟩:=A6 fw hh hi;rw[e];exact l
def gJ:(gh γ ψ).map (·.1)=(iY γ ψ).map λi:Nat=>(i:Int):=by unfold gh;rw[List.map_map];rfl
def bL(h:aA (gh γ ψ) p):BN p:=by unfold BN;rw[bZ h,gJ];have nd:(iY γ ψ).Nodup:=List.nodup_range.filter _;exact List.Pairwise.map _ (λa b Xe z=>Xe (by have z:(a:Int)=(b:Int):=z;omega)) nd
def cz(fw:FW ε γ X C)(hh:Γ ψ=true)(h:aA (gh γ ψ) p):(∀ds,γ[i]? =some (.ο ψ ds)->∃j:Nat,Ξ p i=some (j:Int)/\j < ds.length)/\(∀r,γ[i]? =some r->kindOf r≠ψ->Ξ p i=none):=by
 refine⟨λds hi=>?_,λr hi hk=>?_⟩
 ·have il:=(aaf.mp hi).1;have m:i∈iY γ ψ:=i0.mpr ⟨il,by unfold fo;rw[hi];rfl⟩;have s:=nQ (i:=(i:Int)) (p:=p) (by rw[bZ h,gJ];exact aai.mpr ⟨i,m,rfl⟩);have⟨v,hv⟩:=abM.mp s;have⟨c,hc,v0,v1⟩:=Bh h hv;unfold gh at hc;have⟨i',_,e⟩:=aai.mp hc;have e1:(i':Int)=(i:Int):=aa2 Prod.fst e;have e2:(Ν (gF γ i')).length=c:=aa2 Prod.snd e;have:i'=i:=()
  subst this;rw[jx hi]at e2;have e2:ds.length=c:=e2;exact⟨v.toNat,by rw[hv,ab8 v0],()⟩
 ·refine oI λz=>?_;rw[bZ h,gJ]at z;have⟨i',m,e⟩:=aai.mp z;have:i'=i:=by have e:(i':Int)=(i:Int):=e;omega
  subst this;have:=(i0.mp m).2;unfold fo at this;rw[hi]at this;exact hk this
def Ru(fw:FW ε γ X C)(h1:Γ hand=true)(h2:Γ ψ=true)(my:hand≠ψ)(two:∀k:Str,Γ k=true->k=hand\/k=ψ)(gd:∀i,i < γ.length->gy γ (vD hand pl) i=true)(h:aA (gh γ ψ) p):iw γ (bG (cM γ hand pl) p):=by
 have Pc:∀(i:Nat) (r:Rw),γ[i]? =some r->kindOf r≠hand->Ξ (cM γ hand pl) i=none:=λi r hi hk=>by have il:=(aaf.mp hi).1;rw[jJ,aaz il,hi];show Option.map _ (vD hand pl (kindOf r))=none;unfold vD;rw[aaC hk];rfl
 refine⟨λi r hi hk=>?_,λi r hi hk=>?_⟩
 ·rw[ff (bL h)];rcases two _ hk with e| e
  ·have il:=(aaf.mp hi).1;rw[(cz (i:=i) fw h2 h).2 r hi (λz=>my (e.symm.trans z))];dsimp only;have g:=gd i il;unfold gy at g;rw[hi]at g;have g:j_ (vD hand pl) i r=true:=g;have ep:vD hand pl (kindOf r)=some pl:=by unfold vD;rw[if_pos e]
   unfold j_ at g;rw[ep]at g;have g:eL pl i (Ν r).length=true:=g;rw[jJ,aaz il,hi];show∃j:Nat,Option.map (λpl=>(Ξ pl i).getD 0) (vD hand pl (kindOf r))=some (j:Int)/\_;rw[ep];unfold eL at g;cases hv:Ξ pl i with
   | none=>rw[hv]at g;cases g
   | some v=>
    rw[hv]at g;have g:(decide (0<=v)&&decide (v < ((Ν r).length:Int)))=true:=g;rw[aav,aam,aam]at g;refine⟨v.toNat,?_,()⟩;show some ((Ξ pl i).getD 0)=_;rw[hv,ab8 g.1];rfl
  ·cases r with
   | fin q=>exact aaP hk (by show¬Γ (Str.ofString "end")=true;decide)
   | ο k ds=>
    have e:k=ψ:=e;subst e;have⟨j,gj,jl⟩:=(cz (i:=i) fw h2 h).1 ds hi;rw[gj];exact⟨j,rfl,jl⟩
 ·rw[ff (bL h),(cz (i:=i) fw h2 h).2 r hi (λz=>by rw[z,h2]at hk;cases hk)];exact Pc i r hi λz=>by rw[z,h1]at hk;cases hk
end
section
variable{hand:Str}{pl p:Pl}
def so:∀pl:Pl,((Β ε γ tb pl).map (·.1)).Sublist (pl.map (·.1))
 | []=>List.Sublist.refl _
 | a::r=>by
  have ih:=so r;have e:Β ε γ tb (a::r)=qK ε γ tb a++Β ε γ tb r:=by unfold Β;rw[List.flatMap_cons]
  rw[e,aa7,aaQ];unfold qK;split
  ·exact List.Sublist.cons _ ih
  ·exact List.Sublist.cons₂ _ ih
def pQ(h:BN pl):BN (Β ε γ tb pl):=(so pl).nodup h
def g6{i:Int}:∀{pl:Pl},BN pl->Ξ (Β ε γ tb pl) i=(match Ξ pl i with
 | some v=>if Br (iU ε γ tb i) v then none else some (((iU ε γ tb i).headD 0:Nat):Int)
 | none=>none)
 | [],_=>rfl
 | a::r,nd=>by
  unfold BN at nd;rw[aaQ,abS]at nd;have ih:=g6 (i:=i) (pl:=r) nd.2;have e:Β ε γ tb (a::r)=qK ε γ tb a++Β ε γ tb r:=by unfold Β;rw[List.flatMap_cons]
  rw[e];by_cases ei:a.1=i
  ·have e2:Ξ (a::r) i=some a.2:=by unfold Ξ;rw[if_pos ei]
   have hn:Ξ (Β ε γ tb r) i=none:=oI λz=>nd.1 (by rw[ei];exact f_ z);rw[e2];dsimp only;unfold qK;rw[ei];by_cases c:Br (iU ε γ tb i) a.2=true
   ·rw[aaz c,aaz c,aaW,hn]
   ·rw[aaC c,aaC c];show Ξ ((i,(((iU ε γ tb i).headD 0:Nat):Int))::Β ε γ tb r) i=_;unfold Ξ;rw[aaz rfl]
  ·have e2:Ξ (a::r) i=Ξ r i:=by rw[Ξ,aaC ei]
   rw[e2,<-ih];unfold qK;split
   ·rfl
   ·show Ξ ((a.1,_)::Β ε γ tb r) i=_;rw[Ξ,aaC ei]
def zp{kc:List (Int×Nat)}:∀(q s:Pl),aA kc s->(∀e∈q,e.1∈kc.map (·.1)/\∀c,(e.1,c)∈kc->0<=e.2/\e.2 < (c:Int))->aA kc (bG s q)
 | [],s,h,_=>h
 | e::q,s,h,hq=>by have⟨a,b⟩:=hq e aad;exact zp q (iF s e.1 e.2) (Lr h a b) λx hx=>hq x (aac _ hx)
def i_(fw:FW ε γ X C)(hh:Γ ψ=true)(h:aA (gh γ ψ) p)(hp:∀t,t < γ.length->0 < (tb.getD t (0,1)).2)(hm:i∈iY γ ψ):∃ds j,γ[i]? =some (.ο ψ ds)/\Ν (gF γ i)=ds/\Ξ p i=some ((j:Nat):Int)/\j < ds.length/\iU ε γ tb i=de ε tb (.ο ψ ds)/\de ε tb (.ο ψ ds)≠[]/\(de ε tb (.ο ψ ds)).headD 0∈de ε tb (.ο ψ ds):=by have⟨ds,hi,ed,l1⟩:=A6 fw hh hm;have⟨j,gj,jl⟩:=(cz (i:=i) fw hh h).1 ds hi;have rm:Rw.ο ψ ds∈γ:=aak hi;have ne:de ε tb (.ο ψ ds)≠[]:=MX hh (λz=>by rw[z]at l1;exact aaP l1 @_) λd hd=>(oa fw rm hd hp).2.pos;refine⟨ds,j,hi,ed,gj,jl,by unfold iU;rw[Int.toNat_natCast,hi],ne,?_⟩;have⟨b,bs,e⟩:=abw ne;rw[e];exact aad
def fZ(fw:FW ε γ X C)(hh:Γ ψ=true)(h:aA (gh γ ψ) p)(hp:∀t,t < γ.length->0 < (tb.getD t (0,1)).2):aA (gh γ ψ) (bG p (Β ε γ tb p)):=by
 refine zp _ _ h λe he=>?_;have ke:e.1∈p.map (·.1):=f_ (aai.mpr ⟨e,he,rfl⟩);have kk:=ke;rw[bZ h]at kk;rw[bZ h,gJ]at ke;have⟨i,hm,ei⟩:=aai.mp ke;have⟨ds,j,hi,ed,gj,jl,eb,ne,hd⟩:=i_ fw hh h hp hm;refine⟨kk,λc hc=>?_⟩;have c1:c=ds.length:=by
  unfold gh at hc;have⟨i',_,e'⟩:=aai.mp hc;have e1:(i':Int)=e.1:=aa2 Prod.fst e';have e2:(Ν (gF γ i')).length=c:=aa2 Prod.snd e';have:i'=i:=by have ei:(i:Int)=e.1:=ei;omega
  subst this;rw[<-e2,ed]
 have gb:=g6 (ε:=ε) (γ:=γ) (tb:=tb) (i:=e.1) (bL h);have nb:=pQ (ε:=ε) (γ:=γ) (tb:=tb) (bL h);have ge:Ξ (Β ε γ tb p) e.1=some e.2:=by
  have:∀{l:Pl},BN l->e∈l->Ξ l e.1=some e.2:=λ{l}=>by
   induction l with
   | nil=>intro _ z;cases z
   | cons a l ih=>
    intro nl hm;unfold BN at nl;rw[aaQ,abS]at nl;unfold Ξ;rcases aaL.mp hm with y| y
    ·rw[aaz (by rw[y]),y]
    ·rw[aaC λz=>nl.1 (by rw[z];exact aai.mpr ⟨e,y,rfl⟩)];exact ih nl.2 y
  exact this nb he
 have ei:e.1=(i:Int):=ei.symm;rw[ge,ei,gj,eb]at gb;dsimp only at gb;split at gb
 ·cases gb
 ·have gb:=aaJ gb;have:=((jk hh).mp hd).1;omega
def wz(fw:FW ε γ X C)(hh:Γ ψ=true)(h:aA (gh γ ψ) p)(hp:∀t,t < γ.length->0 < (tb.getD t (0,1)).2)(hb:Pl):∀i,i < γ.length->Ξ (bG hb (bG p (Β ε γ tb p))) i=Ξ (bG hb p) i\/Fz ε γ tb ψ (bG hb p) (bG hb (bG p (Β ε γ tb p))) i:=λi il=>by
 have h':=fZ (tb:=tb) fw hh h hp;have gb:=g6 (ε:=ε) (γ:=γ) (tb:=tb) (i:=(i:Int)) (bL h);have g1:=ff (i:=(i:Int)) (p:=p) (pQ (ε:=ε) (γ:=γ) (tb:=tb) (bL h));have g2:=ff (i:=(i:Int)) (p:=hb) (bL h');have g3:=ff (i:=(i:Int)) (p:=hb) (bL h);by_cases hm:i∈iY γ ψ
 ·have⟨ds,j,hi,ed,gj,jl,eb,ne,hd⟩:=i_ fw hh h hp hm;rw[gj,eb]at gb;dsimp only at gb;by_cases c:Br (de ε tb (.ο ψ ds)) (j:Int)=true
  ·rw[aaz c]at gb;rw[gb]at g1;left;rw[g2,g3,g1]
  ·rw[aaC c]at gb;rw[gb]at g1;right;refine⟨ds,j,_,hi,by rw[g3,gj],by rw[g2,g1],jl,λz=>c (xK.mpr ⟨j,z,rfl⟩),hd⟩
 ·have hi:γ[i]? =some γ[i]:=aaa il;have gn:=(cz (i:=i) fw hh h).2 γ[i] hi λz=>hm (i0.mpr ⟨il,by unfold fo;rw[hi];exact z⟩);rw[gn]at gb;have gb:Ξ (Β ε γ tb p) i=none:=gb;rw[gb]at g1;left;rw[g2,g3,g1]
def qp(fw:FW ε γ X C)(hh:Γ ψ=true)(h:aA (gh γ ψ) p)(hp:∀t,t < γ.length->0 < (tb.getD t (0,1)).2)(hb:Pl)(ne:Β ε γ tb p≠[]):∃i,i < γ.length/\Fz ε γ tb ψ (bG hb p) (bG hb (bG p (Β ε γ tb p))) i:=by
 have⟨e,r,er⟩:=abw ne;have he:e∈Β ε γ tb p:=by rw[er];exact aad
 have ke:e.1∈p.map (·.1):=f_ (aai.mpr ⟨e,he,rfl⟩);rw[bZ h,gJ]at ke;have⟨i,hm,ei⟩:=aai.mp ke;have ei:(i:Int)=e.1:=ei;have il:=(i0.mp hm).1;refine⟨i,il,?_⟩;have h':=fZ (tb:=tb) fw hh h hp;have⟨ds,j,hi,ed,gj,jl,eb,ne',hd⟩:=i_ fw hh h hp hm;have gb:=g6 (ε:=ε) (γ:=γ) (tb:=tb) (i:=(i:Int)) (bL h);have s:(Ξ (Β ε γ tb p) (i:Int)).isSome=true:=nQ (aai.mpr ⟨e,he,ei.symm⟩);rw[gj,eb]at gb;dsimp only at gb;by_cases c:Br (de ε tb (.ο ψ ds)) (j:Int)=true
 ·rw[aaz c]at gb;rw[gb]at s;cases s
 ·rw[aaC c]at gb;have g1:=ff (i:=(i:Int)) (p:=p) (pQ (ε:=ε) (γ:=γ) (tb:=tb) (bL h));rw[gb]at g1;refine⟨ds,j,_,hi,by rw[ff (bL h),gj],by rw[ff (bL h'),g1],jl,λz=>c (xK.mpr ⟨j,z,rfl⟩),hd⟩
def ur(fw:FW ε γ X C)(hh:Γ ψ=true)(h:aA (gh γ ψ) p)(hp:∀t,t < γ.length->0 < (tb.getD t (0,1)).2)(e:Β ε γ tb p=[])(hi:γ[i]? =some (.ο ψ ds))(gj:Ξ p i=some (j:Int)):j∈de ε tb (.ο ψ ds):=by
 have il:=(aaf.mp hi).1;have hm:i∈iY γ ψ:=i0.mpr ⟨il,by unfold fo;rw[hi];rfl⟩;have⟨qx,j',sE,_,gj',_,eb,_,_⟩:=i_ (tb:=tb) fw hh h hp hm;rw[hi]at sE;cases sE;have gb:=g6 (ε:=ε) (γ:=γ) (tb:=tb) (i:=(i:Int)) (bL h);rw[e,gj,eb]at gb;dsimp only at gb;split at gb
 ·rename_i c;have⟨b,hb,y⟩:=xK.mp c;have:b=j:=()
  rw[<-this];exact hb
 ·cases gb
end
def mh.V6(fw:FW ε γ X C)(dk:iw γ Θ)(b1:1<=ma X C)(h:mh ε γ Θ tb):Cg ε γ tb:=by
 have ok:=h.ok fw dk b1;refine⟨fw.pl.sh,fw.pl.len,fw.pl.row,ok.len,λt ht=>⟨(ok.sz t ht).2,(ok.red t ht).pos,?_⟩⟩;have:(t.2.natAbs:Int) < ((2 ^ 1720:Nat):Int):=by rw[abe (aag (ok.red t ht).pos)];exact acA (abN (ok.sz t ht).1 (AL _)) @_
 exact abG.mp this
def Mb{k:Nat}{hand:Str}{pl:Pl}(h:M[k]? =some (dP pl)):R3 (M++[.fU [Sum.inr hand] [.loc k]]) M.length (vD hand pl):=by
 refine⟨_,_,bM,λz=>⟨?_,λq e=>?_⟩⟩
 ·unfold vD;show(decide ((Sum.inr hand:Key)=Sum.inr z)|| false)=_;rw[Bool.or_false];by_cases y:z=hand
  ·rw[aaz y,aaI (by rw[y])];rfl
  ·rw[aaC y,aaG λx=>y (Sum.inr.inj x).symm];rfl
 ·unfold vD at e;split at e
  ·rename_i y;cases e;subst y;refine⟨k,?_,eK h⟩;show((List.zip [Sum.inr z] [Dt.loc k]).find? _).map _=_;simp[List.zip]
  ·cases e
def Ir{n:Nat}:∀tb:List Fr,Dt.bX n (tb.map Λ)
 | []=>trivial
 | t::tb=>⟨qh t,Ir tb⟩
def JY{S:Ms}{q:DQ}{m:MO}(h:q (.lst (tb.map Λ)) S):r_ S q (.loc (S.length+1)) (S++[m,.lst (tb.map Λ)]):=
 mG (d':=.lst (tb.map Λ)) (.Jj (Nat.le_succ _) (by rw[abP];rfl) (jB.old (Ir tb))) h
def Ag(A:Addr):DF:=λas M q _=>∃(ε:Fr) (γ:List Rw) (hand ψ:Str) (k:Nat) (pl:Pl) (X C:Int),as=[ao A ε γ,.str hand,.loc k]/\M[k]? =some (dP pl)/\(hand="one"/\ψ="other"\/hand="other"/\ψ="one")/\FW ε γ X C/\ma X C<=2 ^ 450/\(12 * ma X C) ^ γ.length < bB γ.length/\1<=ma X C/\(∀i,i < γ.length->gy γ (vD hand pl) i=true)/\∀(p:Pl) (tb:List Fr) (E':Ms),aA (gh γ ψ) p->mh ε γ (bG (cM γ hand pl) p) tb->Β ε γ tb p=[]->q (.tup [.loc (M.length+2),.lst (tb.map Λ)]) (M++[.fU [Sum.inr hand] [.loc k],dP (cM γ hand pl),dP p]++E')
def fH:Ε ["floor","hand","plan","held","answer","table","better"] ["floor","hand","plan"] (χ sO):=.of rfl
def C_(F:dh K "against" "against" sO f fd)(E:Ev K mg w Cm){KG:Addr}{IF:FuncData}(pL:ax P w K mg base 4 "doors_of" ["floor","plans"] (zP Cm) KG IF){nz:Addr}{mZ:FuncData}(eR:ax P w K mg base 3 "first_plan" ["floor","hand"] (yR Cm) nz mZ){tW:Addr}{uB:FuncData}(eC:ax P w K mg base 8 "worths_against" ["floor","held","answer"] (TF Cm) tW uB){jW:Addr}{jP:FuncData}(ck:ax P w K mg base 8 "better_doors" ["floor","plan","table"] (yQ Cm) jW jP):aw P w K mg base (cw P w) 9 f fd ["floor","hand","plan"] (c7 K (Ag Cm)):=by
 refine F.dW fH (λds M q x h=>?_) (λaW A outer s H E' hr=>⟨_,(η (ω 3 fH.nd (ae pL hr ν (Ο (jv 0) (ι (IJ (jv 1) (jv 2)) θ))))
   (η (ω 4 fH.nd (ae eR hr ν (Ο (jv 0) (ι (TX E.mj (jv 1)) θ bQ))))
   (η (ω 5 fH.nd (dc (ae eC hr ν (Ο (jv 0) (Ο (jv 3) (Ο (jv 4) θ))))))
   (η (ω 6 fH.nd (ae ck hr ν (Ο (jv 0) (Ο (jv 4) (Ο (jv 5) θ)))))
   (η (kS (Ft (IT E.cG (Ο (jv 6) θ)) υ) (η (eB (CN (jv 4) (jv 6)))
   (η (ω 5 fH.nd (dc (ae eC hr ν (Ο (jv 0) (Ο (jv 3) (Ο (jv 4) θ))))))
   (μ (ω 6 fH.nd (ae ck hr ν (Ο (jv 0) (Ο (jv 4) (Ο (jv 5) θ)))))))))
   (μ (Ζ (c_ (Ο (jv 4) (Ο (jv 5) θ)))))))))),λds M q x h=>?_⟩)
 ·have⟨ε,γ,hand,ψ,k,pl,X,C,rfl,_⟩:=h;rfl
 ·have⟨ε,γ,hand,ψ,k,pl,X,C,rfl,hk,lY,fw,nI,xw,b1,gd,h⟩:=h;have vd:=fw.pl.len;have lk:List.lookup hand [(Str.ofString "one",Str.ofString "other"),(Str.ofString "other",Str.ofString "one"),(Str.ofString "chance",Str.ofString "chance")]=some ψ:=by rcases lY with ⟨rfl,rfl⟩| ⟨rfl,rfl⟩ <;> decide
  have h1:Γ hand=true:=by rcases lY with ⟨rfl,rfl⟩| ⟨rfl,rfl⟩ <;> decide
  have h2:Γ ψ=true:=by rcases lY with ⟨rfl,rfl⟩| ⟨rfl,rfl⟩ <;> decide
  have my:hand≠ψ:=by rcases lY with ⟨rfl,rfl⟩| ⟨rfl,rfl⟩ <;> decide
  have two:∀z:Str,Γ z=true->z=hand\/z=ψ:=λz hz=>by
   unfold Γ at hz;rw[Bool.or_eq_true,abH,abH]at hz;rcases lY with ⟨rfl,rfl⟩| ⟨rfl,rfl⟩
   ·exact hz
   ·exact hz.symm
  have RM:∀{p},aA (gh γ ψ) p->iw γ (bG (cM γ hand pl) p):=λhp=>Ru fw h1 h2 my two gd hp;have HS:∀{p},aA (gh γ ψ) p->p.length<=12:=λ{p} hp=>by have:=aa2 List.length (bZ hp);rw[aae,gJ,aae]at this;have l:=List.length_filter_le (λi=>decide (fo γ i=ψ)) (List.range γ.length);rw[aa9]at l;have l:(iY γ ψ).length<=γ.length:=l;omega
  have hlen:(cM γ hand pl).length<=12:=aax (yZ γ _ _) vd;walk_at "vc";dsimp only[Lh,SQ];walk_at "vc";refine⟨Sum.inr hand,rfl,?_⟩;refine⟨ε,γ,M.length,vD hand pl,rfl,Mb hk,fw.pl,gd,?_⟩;refine⟨hand,ψ,rfl,lk,?_⟩;refine⟨ε,γ,ψ,rfl,vd,?_⟩;obtain⟨Ij,hd0⟩:∃d:MO,d=MO.fU [Sum.inr hand] [Dt.loc k]:=⟨_,rfl⟩;rw[<-hd0]at h⊢;dsimp only[cM]at h RM hlen;generalize abg:e9 γ (vD hand pl) γ.length=held at *
  have B3:∀p:Pl,M++[Ij]++[dP held]++[dP p]=M++[Ij,dP held,dP p]:=λp=>by simp
  have kh1:(M++[Ij]).length=M.length+1:=by simp
  have ka1:(M++[Ij]++[dP held]).length=M.length+2:=by simp
  rw[kh1,ka1,B3];have atH:∀(p:Pl) (E:Ms),(M++[Ij,dP held,dP p]++E)[M.length+1]? =some (dP held):=λp E=>eK (by rw[aan (),show M.length+1 - M.length=1 by omega];rfl);have R1:∀(p:Pl) (E:Ms),(M++[Ij,dP held,dP p]++E)[M.length+2]? =some (dP p):=λp E=>eK (by rw[aan (),show M.length+2 - M.length=2 by omega];rfl);have f0:=sW fw h2;generalize oZ γ ψ=p0 at *
  have gp:∀{p:Pl} {tb:List Fr},mh ε γ (bG held p) tb->∀t,t < γ.length->0 < (tb.getD t (0,1)).2:=λwt t ht=>(wt.tab.red t ht).pos;have bok:∀{p:Pl} {tb:List Fr},aA (gh γ ψ) p->mh ε γ (bG held p) tb->∀e∈p,0<=e.1/\∃r,γ[e.1.toNat]? =some r/\Γ (kindOf r)=true/\de ε tb r≠[]:=λ{p tb} hp wt e he=>by have ke:e.1∈p.map (·.1):=aai.mpr ⟨e,he,rfl⟩;rw[bZ hp,gJ]at ke;have⟨i,hm,ei⟩:=aai.mp ke;have ei:(i:Int)=e.1:=ei;have⟨ds,j,hi,_,_,_,_,ne,_⟩:=i_ fw h2 hp (gp wt) hm;exact⟨(),.ο ψ ds,by rw[<-ei,abQ];exact hi,h2,ne⟩
  have e0:M++[Ij,dP held,dP p0]=M++[Ij,dP held,dP p0]++[]:=(aa6 _).symm;rw[e0];refine⟨ε,γ,M.length+1,M.length+2,held,p0,X,C,rfl,atH p0 [],R1 p0 [],by have:=HS f0;omega,RM f0,fw,nI,xw,λSd W3=>JY ?_⟩;refine⟨ε,γ,Sd,M.length+2,p0,rfl,R1 p0 [],W3.V6 fw (RM f0) b1,bL f0,HS f0,bok f0 W3,?_⟩;have WC:∀(p p':Pl) (E:Ms),(M++[Ij,dP held,dP p]++E).set (M.length+2) (dP p')=M++[Ij,dP held,dP p']++E:=λp p' E=>by rw[aaY,aaY,aci (h:=by omega),show M.length+2 - M.length=2 by omega];rfl
  have l3:∀(p:Pl) (E:Ms),M.length+3<=(M++[Ij,dP held,dP p]++E).length:=λp E=>by rw[aah,aah];show M.length+3<=M.length+3+E.length;omega
  have XC:∀{p:Pl} {tb:List Fr},aA (gh γ ψ) p->(Β ε γ tb p).length<=12:=λhp=>aax (jA _) (HS hp);refine⟨λm ρ' M'=>∃(p:Pl) (tb:List Fr) (E1:Ms) (kb:Nat),aA (gh γ ψ) p/\mh ε γ (bG held p) tb/\above ε γ (kj ψ) (bG held) (gh γ ψ) p=m/\M'=M++[Ij,dP held,dP p]++E1/\M'[kb]? =some (dP (Β ε γ tb p))/\M.length+3<=kb/\ρ'=[some (ao Cm ε γ),some (.str hand),some (.loc k),some (.loc (M.length+1)),some (.loc (M.length+2)),some (.lst (tb.map Λ)),some (.loc kb)],⟨_,p0,Sd,[dP (Β ε γ Sd p0)],_,f0,W3,rfl,by rw[aa6],bM,l3 p0 [],rfl⟩,λm ρ' M' hw=>?_⟩;have⟨p,tb,E1,kb,fp,wt,hm,rfl,Vq,kb3,rfl⟩:=hw;walk_at "vc";refine⟨kb,_,_,rfl,Vq,?_⟩;have kl:(kP (Β ε γ tb p)).length=(Β ε γ tb p).length:=by unfold kP;rw[List.length_map]
  rw[kl];refine⟨λz=>⟨_,λρ2 M2 hn=>hn,?_⟩,λz=>?_⟩
  ·have z:(0:Int) < ((Β ε γ tb p).length:Int):=aao z;have ne:Β ε γ tb p≠[]:=λy=>by rw[y]at z;exact aaP z @_
   have uU:=fZ (tb:=tb) fw h2 fp (gp wt);have hd:=wz fw h2 fp (gp wt) held;have⟨i,il,hc⟩:=qp fw h2 fp (gp wt) held ne;dsimp only[KY,EF];walk_at "vc";refine⟨⟨M.length+2,_,_,rfl,R1 p E1⟩,M.length+2,kb,_,_,_,_,rfl,rfl,(),R1 p E1,Vq,by rw[kl];have:=HS fp;have:=XC (tb:=tb) fp;unfold kP;rw[List.length_map];omega,?_⟩;rw[DZ,Ew,WC];generalize bG p (Β ε γ tb p)=p' at *
   refine⟨ε,γ,M.length+1,M.length+2,held,p',X,C,rfl,atH p' E1,R1 p' E1,by have:=HS uU;omega,RM uU,fw,nI,xw,λBs WA=>JY ?_⟩;refine⟨ε,γ,Bs,M.length+2,p',rfl,R1 p' E1,WA.V6 fw (RM uU) b1,bL uU,HS uU,bok uU WA,?_⟩;refine⟨_,?_,p',Bs,E1++[dP (Β ε γ Bs p')],_,uU,WA,rfl,by rw[<-aaY],bM,l3 p' E1,rfl⟩;rw[<-hm];exact J5 uU (Cb fw h2 (RM fp) (RM uU) b1 wt WA hd il hc)
  ·have z:¬(0:Int) < ((Β ε γ tb p).length:Int):=aa4 z;have e:Β ε γ tb p=[]:=List.length_eq_zero_iff.mp ();exact⟨gV,h p tb E1 fp wt e⟩
section
variable{hand:Str}{p pa p' UG:Pl}
def jU(fw:FW ε γ X C)(hs:j9 hand ψ)(fp:aA (gh γ hand) p)(fa:aA (gh γ ψ) pa)(hi:γ[i]? =some r):(kindOf r=hand->Ξ (bG (cM γ hand p) pa) i=Ξ p i)/\(kindOf r=ψ->Ξ (bG (cM γ hand p) pa) i=Ξ pa i)/\(Γ (kindOf r)=false->Ξ (bG (cM γ hand p) pa) i=none):=by
 have il:=(aaf.mp hi).1;have g:=ff (i:=(i:Int)) (p:=cM γ hand p) (bL fa);have hh:Ξ (cM γ hand p) i=((vD hand p (kindOf r)).map λpl=>(Ξ pl i).getD 0):=by rw[jJ,aaz il,hi];rfl
 refine⟨λe=>?_,λe=>?_,λe=>?_⟩
 ·rw[g,(cz (i:=i) fw hs.h2 fa).2 r hi λz=>hs.ne (e.symm.trans z)];show Ξ (cM γ hand p) i=_;rw[hh];cases r with
  | fin q=>exact aaP (show Γ (Str.ofString "end")=true by rw[<-hs.h1,<-e];rfl) @_
  | ο k ds=>
   have e:k=hand:=e;subst e;have⟨j,gj,_⟩:=(cz (i:=i) fw hs.h1 fp).1 ds hi;have:vD k p (kindOf (.ο k ds))=some p:=aaz rfl;rw[this];show some ((Ξ p i).getD 0)=Ξ p i;rw[gj];rfl
 ·cases r with
  | fin q=>exact aaP (show Γ (Str.ofString "end")=true by rw[<-hs.h2,<-e];rfl) @_
  | ο k ds=>
   have e:k=ψ:=e;subst e;have⟨j,gj,_⟩:=(cz (i:=i) fw hs.h2 fa).1 ds hi;rw[g,gj]
 ·rw[g,(cz (i:=i) fw hs.h2 fa).2 r hi (λz=>by rw[z,hs.h2]at e;cases e)];show Ξ (cM γ hand p) i=_;rw[hh];have:vD hand p (kindOf r)=none:=aaC λz=>by rw[z,hs.h1]at e;cases e
  rw[this];rfl
def Il(ε:Fr)(γ:List Rw)(hand ψ:Str)(p pa:Pl)(tb:List Fr):Prop:=aA (gh γ ψ) pa/\mh ε γ (bG (cM γ hand p) pa) tb/\Β ε γ tb pa=[]
def EM{q:Pl}(nd:BN q)(i:Int):Ξ (bG [] q) i=Ξ q i:=by rw[ff nd];cases Ξ q i <;> rfl
def sN(fw:FW ε γ X C)(hs:j9 hand ψ)(fp:aA (gh γ hand) p)(b:Il ε γ hand ψ p pa tb)(fa':aA (gh γ ψ) UG)(uU:aA (gh γ hand) p')(hb:∀i,i < γ.length->Ξ p' i=Ξ p i\/Fz ε γ tb hand p p' i):∀i,i < γ.length->Mix ε γ tb hand ψ (bG (cM γ hand p) pa) (bG (cM γ hand p') UG) i:=λi il=>by
 have⟨fa,wt,be⟩:=b;have hp:∀t,t < γ.length->0 < (tb.getD t (0,1)).2:=λt ht=>(wt.tab.red t ht).pos;have hi:γ[i]? =some γ[i]:=aaa il;generalize γ[i]=r at *
 have⟨a1,a2,a3⟩:=jU (i:=i) fw hs fp fa hi;have⟨c1,c2,c3⟩:=jU (i:=i) fw hs uU fa' hi;cases hk:Γ (kindOf r) with
 | false=>left;rw[a3 hk,c3 hk]
 | true=>
  rcases hs.two _ hk with e| e
  ·rcases hb i il with z| ⟨ds,j,j',sE,g,g',jl,nb,b⟩
   ·left;rw[a1 e,c1 e,z]
   ·right;left;exact⟨ds,j,j',sE,by rw[a1 e];exact g,by rw[c1 e];exact g',jl,nb,b⟩
  ·right;right;cases r with
   | fin q=>exact aaP hk (by show¬Γ (Str.ofString "end")=true;decide)
   | ο k ds=>
    have e':k=ψ:=e;subst e';have⟨j,gj,jl⟩:=(cz (i:=i) fw hs.h2 fa).1 ds hi;have⟨j',gj',Rp⟩:=(cz (i:=i) fw hs.h2 fa').1 ds hi;exact⟨ds,j,j',hi,by rw[a2 rfl,gj],by rw[c2 rfl,gj'],Rp,ur fw hs.h2 fa hp be hi gj⟩
def qX(fw:FW ε γ X C)(hs:j9 hand ψ)(fp:aA (gh γ hand) p)(fa:aA (gh γ ψ) pa):iw γ (bG (cM γ hand p) pa):=by
 refine⟨λi r hi hk=>?_,λi r hi hk=>(jU fw hs fp fa hi).2.2 hk⟩;have⟨a1,a2,_⟩:=jU (i:=i) fw hs fp fa hi;cases r with
 | fin q=>exact aaP hk (by show¬Γ (Str.ofString "end")=true;decide)
 | ο k ds=>
  rcases hs.two _ hk with e| e
  ·have e':k=hand:=e;subst e';rw[a1 rfl];exact(cz (i:=i) fw hs.h1 fp).1 ds hi
  ·have e':k=ψ:=e;subst e';rw[a2 rfl];exact(cz (i:=i) fw hs.h2 fa).1 ds hi
noncomputable def Se(ε:Fr)(γ:List Rw)(hand ψ:Str)(p:Pl)(i:Nat):Rat:=open Classical in if h:∃tb,∃pa,Il ε γ hand ψ p pa tb then val (h.choose.getD i (0,1)) else 0
def Ei(fw:FW ε γ X C)(hs:j9 hand ψ)(b1:1<=ma X C)(fp:aA (gh γ hand) p)(b:Il ε γ hand ψ p pa tb)(il:i < γ.length):Se ε γ hand ψ p i=val (tb.getD i (0,1)):=by
 have ex:∃tb,∃pa,Il ε γ hand ψ p pa tb:=⟨tb,pa,b⟩;unfold Se;rw[dif_pos ex];have⟨UG,b'⟩:=ex.choose_spec;generalize ex.choose=Bs at *
 have u:=(xZ fw hs (qX fw hs fp b'.1) b1 b.2.1 b'.2.1 (sN fw hs fp b b'.1 fp λ_ _=>.inl rfl)).1 i il;have v:=(xZ fw hs (qX fw hs fp b.1) b1 b'.2.1 b.2.1 (sN fw hs fp b' b.1 fp λ_ _=>.inl rfl)).1 i il;exact K8 (k:=hand) (Rat.le_antisymm v u)
noncomputable def oW(ε:Fr)(γ:List Rw)(hand ψ:Str)(p:Pl):Nat:=open Classical in (qG (gh γ hand)).countP λq=>decide (dY (λi=>kj hand * Se ε γ hand ψ p i) γ.length < dY (λi=>kj hand * Se ε γ hand ψ q i) γ.length)
def M7(fw:FW ε γ X C)(hs:j9 hand ψ)(b1:1<=ma X C)(fp:aA (gh γ hand) p)(b:Il ε γ hand ψ p pa tb)(ne:Β ε γ tb p≠[])(b':Il ε γ hand ψ (bG p (Β ε γ tb p)) UG Bs):oW ε γ hand ψ (bG p (Β ε γ tb p)) < oW ε γ hand ψ p:=by
 have hp:∀t,t < γ.length->0 < (tb.getD t (0,1)).2:=λt ht=>(b.2.1.tab.red t ht).pos;have uU:=fZ (tb:=tb) fw hs.h1 fp hp;have n1:=EM (bL fp);have n2:=EM (bL uU);have cut:∀i,Fz ε γ tb hand (bG [] p) (bG [] (bG p (Β ε γ tb p))) i->Fz ε γ tb hand p (bG p (Β ε γ tb p)) i:=λi ⟨ds,j,j',hi,g,g',r⟩=>⟨ds,j,j',hi,by rw[<-n1];exact g,by rw[<-n2];exact g',r⟩;have hb:∀i,i < γ.length->Ξ (bG p (Β ε γ tb p)) i=Ξ p i\/Fz ε γ tb hand p (bG p (Β ε γ tb p)) i:=λi il=>by
  rcases wz fw hs.h1 fp hp [] i il with e| e
  ·left;rw[<-n1,<-n2];exact e
  ·exact .inr (cut i e)
 have⟨i,il,hc⟩:=qp fw hs.h1 fp hp [] ne;have mm:=sN fw hs fp b b'.1 uU hb;have⟨u,v⟩:=xZ fw hs (qX fw hs uU b'.1) b1 b.2.1 b'.2.1 mm;have Bv:Fz ε γ tb hand (bG (cM γ hand p) pa) (bG (cM γ hand (bG p (Β ε γ tb p))) UG) i:=by have⟨ds,j,j',hi,g,g',r⟩:=cut i hc;exact⟨ds,j,j',hi,by rw[(jU fw hs fp b.1 hi).1 rfl];exact g,by rw[(jU fw hs uU b'.1 hi).1 rfl];exact g',r⟩
 have lt:dY (λi=>kj hand * Se ε γ hand ψ p i) γ.length < dY (λi=>kj hand * Se ε γ hand ψ (bG p (Β ε γ tb p)) i) γ.length:=by
  refine xk (λj hj=>?_) il ?_
  ·rw[Ei fw hs b1 fp b hj,Ei fw hs b1 uU b' hj];exact u j hj
  ·rw[Ei fw hs b1 fp b il,Ei fw hs b1 uU b' il];exact v i il Bv
 unfold oW;refine CG (λa _ ha=>?_) (r8 uU) (decide_eq_true lt) (decide_eq_false (by grind));have:=aao ha;exact decide_eq_true (by grind)
end
section
variable{hand:Str}{p pa:Pl}
def HY(fw:FW ε γ X C)(hh:Γ hand=true)(fp:aA (gh γ hand) p):∀i,i < γ.length->gy γ (vD hand p) i=true:=λi il=>by
 have hi:γ[i]? =some γ[i]:=aaa il;generalize γ[i]=r at *
 unfold gy;rw[hi];show j_ (vD hand p) i r=true;unfold j_ vD;by_cases e:kindOf r=hand
 ·rw[aaz e];cases r with
  | fin q=>exact aaP (show Γ (Str.ofString "end")=true by rw[<-hh,<-e];rfl) @_
  | ο k ds=>
   have e:k=hand:=e;subst e;have⟨j,gj,jl⟩:=(cz (i:=i) fw hh fp).1 ds hi;show eL p i ds.length=true;unfold eL;rw[gj];show(decide (0<=(j:Int))&&decide ((j:Int) < (ds.length:Int)))=true;rw[aaI (show 0<=(j:Int) by omega),aaI (show(j:Int) < (ds.length:Int) by omega)];rfl
 ·rw[aaC e]
def Ke:oW ε γ hand ψ p<=(qG (gh γ hand)).length:=List.countP_le_length
def Kb(fp:aA (gh γ hand) p):p.length<=γ.length:=by have:=aa2 List.length (bZ fp);rw[aae,gJ,aae]at this;have l:=List.length_filter_le (λi=>decide (fo γ i=hand)) (List.range γ.length);rw[aa9]at l;have l:(iY γ hand).length<=γ.length:=l;omega
def MU(fw:FW ε γ X C)(hh:Γ hand=true)(fp:aA (gh γ hand) p)(hp:∀t,t < γ.length->0 < (tb.getD t (0,1)).2):∀e∈p,0<=e.1/\∃r,γ[e.1.toNat]? =some r/\Γ (kindOf r)=true/\de ε tb r≠[]:=λe he=>by have ke:e.1∈p.map (·.1):=aai.mpr ⟨e,he,rfl⟩;rw[bZ fp,gJ]at ke;have⟨i,hm,ei⟩:=aai.mp ke;have ei:(i:Int)=e.1:=ei;have⟨ds,j,hi,_,_,_,_,ne,_⟩:=i_ fw hh fp hp hm;exact⟨(),.ο hand ds,by rw[<-ei,abQ];exact hi,hh,ne⟩
def Rd(ε:Fr)(γ:List Rw)(hand ψ:Str)(m:Nat)(p:Pl):Prop:=m=(qG (gh γ hand)).length+1\/∃pp ppa Wl,aA (gh γ hand) pp/\Il ε γ hand ψ pp ppa Wl/\Β ε γ Wl pp≠[]/\p=bG pp (Β ε γ Wl pp)/\m=oW ε γ hand ψ pp
def Rd.lt(h:Rd ε γ hand ψ m p)(fw:FW ε γ X C)(hs:j9 hand ψ)(b1:1<=ma X C)(fp:aA (gh γ hand) p)(b:Il ε γ hand ψ p pa tb):oW ε γ hand ψ p < m:=by
 rcases h with e| ⟨pp,ppa,Wl,f,b0,ne,e,em⟩
 ·rw[e];exact Nat.lt_succ_of_le Ke
 ·subst e;rw[em];exact M7 fw hs b1 f b0 ne b
end
def AY(A:Addr):DF:=λas M q _=>∃(ε:Fr) (γ:List Rw) (hand:Str),as=[ao A ε γ,.str hand,.bU]/\γ.length<=12/\q (.loc M.length) (M++[dP (oZ γ hand)])
def FU:Ε ["floor","hand","start"] ["floor","hand","start"] (χ sU):=.of rfl
def CD(F:dh K "started" "started" sU f fd)(E:Ev K mg w Cm){nz:Addr}{mZ:FuncData}(eR:ax P w K mg base 3 "first_plan" ["floor","hand"] (yR Cm) nz mZ):aw P w K mg base (cw P w) 5 f fd ["floor","hand","start"] (c7 K (AY Cm)):=by
 refine F.dW FU (λds M q x h=>?_) (λaW A outer s H E' hr=>⟨_,(η (aM (KA (jv 2) MN) (μ (Ζ (ae eR hr ν (Ο (jv 0) (Ο (jv 1) θ))))) Τ)
   (μ gf)),λds M q x h=>?_⟩)
 ·have⟨ε,γ,hand,rfl,_⟩:=h;rfl
 ·have⟨ε,γ,hand,rfl,vd,h⟩:=h;refine⟨λ_=>?_,nofun⟩;exact⟨ε,γ,hand,rfl,vd,h⟩
def E8(A:Addr):DF:=λas M q _=>∃(ε:Fr) (γ:List Rw) (hand ψ:Str) (X C:Int),as=[ao A ε γ,.str hand,.bU]/\(hand="one"/\ψ="other"\/hand="other"/\ψ="one")/\FW ε γ X C/\ma X C<=2 ^ 450/\(12 * ma X C) ^ γ.length < bB γ.length/\1<=ma X C/\(qG (gh γ hand)).length<=1000/\∀(p pa:Pl) (tb:List Fr) (E:Ms) (ka:Nat),aA (gh γ hand) p->Il ε γ hand ψ p pa tb->Β ε γ tb p=[]->(M++[dP p]++E)[ka]? =some (dP pa)->q (.tup [.loc M.length,.loc ka,.lst (tb.map Λ),.loc (M.length+1)]) (M++[dP p]++E)
def lh:Ε ["floor","hand","start","plan","rounds","found","better"] ["floor","hand","start"] (χ yj):=.of rfl
def FR{U:Addr}(F:Gg K "mended" yj U its f fd)(E:Ev K mg w Cm){Kv:Addr}{LF:FuncData}(pW:ax P w K mg base 5 "started" ["floor","hand","start"] (AY Cm) Kv LF){LA:Addr}{J_:FuncData}(pX:ax P w K mg base 9 "against" ["floor","hand","plan"] (Ag Cm) LA J_){jW:Addr}{jP:FuncData}(ck:ax P w K mg base 8 "better_doors" ["floor","plan","table"] (yQ Cm) jW jP):aw P w K mg base (cw P w) 10 f fd ["floor","hand","start"] (c7 K (E8 Cm)):=by
 refine F.dW lh (λds M q x h=>?_) (λaW A outer s H E' hr=>⟨_,(η (ω 3 lh.nd (ae pW hr ν (Ο (jv 0) (Ο (jv 1) (Ο (jv 2) θ)))))
   (η (ω 4 lh.nd (kG θ))
   (μ (kS (jE O7) (η (ω 5 lh.nd (ae pX hr ν (Ο (jv 0) (Ο (jv 1) (Ο (jv 3) θ)))))
   (η (eB (e_ (jv 4) (ι (c_ (ι (K0 E.tE (Ο (jv 3) θ)) (ι (xR E.mU (ι (Ι (jv 5) υ) θ bQ)) θ aY) aY)) θ wc)))
   (η (ω 6 lh.nd (ae ck hr ν (Ο (jv 0) (Ο (jv 3) (ι (Ι (jv 5) υ) θ bQ)))))
   (η (aM (cD hr (IT E.cG (Ο (jv 6) θ)) υ) (μ (Ζ (c_ (Ο (jv 3) (ι (Ι (jv 5) υ) (ι (Ι (jv 5) υ) (Ο (jv 4) θ) bQ) bQ))))) Τ)
   (μ (eB (CN (jv 3) (jv 6)))))))))))),λds M q x h=>?_⟩)
 ·have⟨ε,γ,hand,ψ,X,C,rfl,_⟩:=h;rfl
 ·have⟨ε,γ,hand,ψ,X,C,rfl,lY,fw,nI,xw,b1,hN,h⟩:=h;have hs:=iZ lY;have vd:=fw.pl.len;have sl:∀{z:Nat},z<=1000->z < sizeLine:=λh=>aa3 h @_;refine⟨ε,γ,hand,rfl,vd,?_⟩;walk_at "vc";dsimp only[OF];walk_at "vc";refine⟨@_,?_⟩;have f0:=sW fw hs.h1;have kr:(M++[dP (oZ γ hand)]).length=M.length+1:=by simp
  rw[kr];generalize oZ γ hand=p0 at *
  refine⟨λm ρ' M'=>∃(p:Pl) (xs:List Dt) (E1:Ms) (o5 o6:Option Dt),aA (gh γ hand) p/\Rd ε γ hand ψ m p/\xs.length+m<=(qG (gh γ hand)).length+1/\M'=M++[dP p,.lst xs]++E1/\ρ'=[some (ao Cm ε γ),some (.str hand),some .bU,some (.loc M.length),some (.loc (M.length+1)),o5,o6],⟨_,p0,[],[],none,none,f0,.inl rfl,by rw[List.length_nil,Nat.zero_add];exact Nat.le_refl _,by simp,rfl⟩,λm ρ' M' hw=>?_⟩;have⟨p,xs,E1,o5,o6,fp,hm,hx,rfl,rfl⟩:=hw;walk_at "vc";refine⟨λ_=>⟨_,λρ2 M2 hn=>hn,?_⟩,nofun⟩;have UY:∀(p:Pl) (m:MO) (E:Ms),(M++[dP p,m]++E)[M.length]? =some (dP p):=λp m E=>eK (by rw[aan (aaj _),acz];rfl);have atR:∀(p:Pl) (m:MO) (E:Ms),(M++[dP p,m]++E)[M.length+1]? =some m:=λp m E=>eK (by rw[aan (),abP];rfl);refine⟨ε,γ,hand,ψ,M.length,p,X,C,rfl,UY p _ E1,lY,fw,nI,xw,b1,HY fw hs.h1 fp,λpa tb E2 fa wt be=>?_⟩;have Ri:Il ε γ hand ψ p pa tb:=⟨fa,wt,be⟩;have lt:=hm.lt fw hs b1 fp Ri;have kE:(M++[dP p,MO.lst xs]++E1).length+2=M.length+4+E1.length:=by rw[aah,aah];show M.length+2+E1.length+2=_;omega
  have eS:M++[dP p,MO.lst xs]++E1++[MO.fU [Sum.inr hand] [Dt.loc (List.length M)],dP (cM γ hand p),dP pa]++E2=M++[dP p,MO.lst xs]++(E1++[MO.fU [Sum.inr hand] [Dt.loc (List.length M)],dP (cM γ hand p),dP pa]++E2):=by simp only[List.append_assoc]
  have Io:∀(m1 m2:MO) (E:Ms),(M++[m1,m2]++(E1++[MO.fU [Sum.inr hand] [Dt.loc (List.length M)],dP (cM γ hand p),dP pa]++E2++E))[M.length+4+E1.length]? =some (dP pa):=λm1 m2 E=>by rw[aan (by rw[aah];show M.length+2<=_;omega),aaY,aaY,aan (by rw[aah];show E1.length<=M.length+4+E1.length - (M.length+2);omega)];rw[aah];show([MO.fU [Sum.inr hand] [Dt.loc (List.length M)],dP (cM γ hand p),dP pa]++(E2++E))[M.length+4+E1.length - (M.length+2) - E1.length]? =_;rw[show M.length+4+E1.length - (M.length+2) - E1.length=2 by omega];rfl
  rw[kE,eS];generalize M.length+4+E1.length=ka at *
  generalize E1++[MO.fU [Sum.inr hand] [Dt.loc (List.length M)],dP (cM γ hand p),dP pa]++E2=E3 at *
  dsimp only[Tj];walk_at "vc";refine⟨⟨_,_,rfl,atR p _ E3⟩,M.length,_,_,rfl,UY p _ E3,?_⟩;have r1:∀(M':Ms) (q:DQ),q (.lst (tb.map Λ)) M'->cI (.tup [.loc ka,.lst (tb.map Λ)]) (.int 1) M' q:=λM' q hq=>Η (d:=.tup [.loc ka,.lst (tb.map Λ)]) rfl (ak (j:=1) rfl) hq;have r0:∀(M':Ms) (q:DQ),q (.loc ka) M'->cI (.tup [.loc ka,.lst (tb.map Λ)]) (.int 0) M' q:=λM' q hq=>Η (d:=.tup [.loc ka,.lst (tb.map Λ)]) rfl bP hq;refine r1 _ _ ?_;dsimp only[zK,mf];refine⟨@_,M.length+1,xs,_,rfl,rfl,eK (eK (atR p _ E3)),sl (),?_⟩;have eT:M++[dP p,MO.lst xs]++E3++[MO.fU (kP p) (vP p)]++[MO.lst (tb.map Λ)]=M++[dP p,MO.lst xs]++(E3++[MO.fU (kP p) (vP p),MO.lst (tb.map Λ)]):=by simp
  have XY:∀(ys:List Dt) (E:Ms),(M++[dP p,MO.lst xs]++E).set (M.length+1) (.lst ys)=M++[dP p,MO.lst ys]++E:=λys E=>by rw[aaY,aaY,aci (h:=by omega),abP];rfl
  have YT:∀(p':Pl) (ys:List Dt) (E:Ms),(M++[dP p,MO.lst ys]++E).set M.length (dP p')=M++[dP p',MO.lst ys]++E:=λp' ys E=>by rw[aaY,aaY,aci (h:=aaj _),acz];rfl
  rw[eT,XY];have hl:(xs++[Dt.tup [.loc (M++[dP p,MO.lst xs]++E3).length,.loc (M++[dP p,MO.lst xs]++E3++[MO.fU (kP p) (vP p)]).length]]).length=xs.length+1:=by rw[aah];rfl
  generalize xs++[Dt.tup [.loc (M++[dP p,MO.lst xs]++E3).length,.loc (M++[dP p,MO.lst xs]++E3++[MO.fU (kP p) (vP p)]).length]]=ys at *
  have Io:=λm1 m2 E=>Io m1 m2 ([MO.fU (kP p) (vP p),MO.lst (tb.map Λ)]++E);have e4:∀E:Ms,E3++([MO.fU (kP p) (vP p),MO.lst (tb.map Λ)]++E)=E3++[MO.fU (kP p) (vP p),MO.lst (tb.map Λ)]++E:=λE=>by rw[aaY]
  simp only[e4]at Io;generalize E3++[MO.fU (kP p) (vP p),MO.lst (tb.map Λ)]=E4 at *
  have hp:∀t,t < γ.length->0 < (tb.getD t (0,1)).2:=λt ht=>(wt.tab.red t ht).pos;have uU:=fZ (tb:=tb) fw hs.h1 fp hp;have pl:=Kb fp;refine r1 _ _ ?_;refine⟨ε,γ,tb,M.length,p,rfl,UY p _ E4,wt.V6 fw (qX fw hs fp fa) b1,bL fp,(),MU fw hs.h1 fp hp,?_⟩;have bl:(Β ε γ tb p).length<=12:=aax (jA _) ();refine⟨_,_,_,rfl,bM,?_⟩;have kl:(kP (Β ε γ tb p)).length=(Β ε γ tb p).length:=by unfold kP;rw[List.length_map]
  rw[kl];refine⟨λz=>?_,λz=>?_⟩
  ·have z:((Β ε γ tb p).length:Int)=0:=aao z;have e:Β ε γ tb p=[]:=List.length_eq_zero_iff.mp ();refine r0 _ _ (r1 _ _ ⟨@_,?_⟩);have:=h p pa tb ([.lst ys]++(E4++[dP (Β ε γ tb p)])) ka fp Ri e;have eU:M++[dP p]++([MO.lst ys]++(E4++[dP (Β ε γ tb p)]))=M++[dP p,MO.lst ys]++(E4++[dP (Β ε γ tb p)]):=by simp
   rw[eU]at this;rw[aaY];exact this (Io _ _ _)
  ·have z:¬((Β ε γ tb p).length:Int)=0:=aa4 z;have ne:Β ε γ tb p≠[]:=λy=>z (by rw[y];rfl);dsimp only[EF];walk_at "vc";have ll:(M++[dP p,MO.lst ys]++E4).length=M.length+2+E4.length:=by rw[aah,aah];rfl
   refine⟨⟨_,_,_,rfl,eK (UY p _ E4)⟩,M.length,_,_,_,_,_,rfl,rfl,(),eK (UY p _ E4),bM,by rw[kl];unfold kP;rw[List.length_map];omega,?_⟩;rw[DZ,Ew,aaY,YT];exact⟨_,lt,_,ys,_,_,_,uU,.inr ⟨p,pa,tb,fp,Ri,ne,rfl,rfl⟩,(),rfl,rfl⟩
def AJ(A:Addr):DF:=λas M q _=>∃(ε:Fr) (γ:List Rw) (X C:Int),as=[ao A ε γ]/\FW ε γ X C/\ma X C<=2 ^ 450/\(12 * ma X C) ^ γ.length < bB γ.length/\1<=ma X C/\(qG (gh γ "one")).length<=1000/\∀(p pa:Pl) (tb:List Fr) (E:Ms),aA (gh γ "one") p->Il ε γ "one" "other" p pa tb->Β ε γ tb p=[]->q (.lst (tb.map Λ)) (M++E)
def Iz:Ε ["floor"] ["floor"] (χ wV):=.of rfl
def FQ(F:dh K "worths" "worths" wV f fd)(E:Ev K mg w Cm){L6:Addr}{NL:FuncData}(pR:RS P w K mg base 10 "mended" ["floor","hand","start"] (E8 Cm) [.str "one",.bU] L6 NL):aw P w K mg base (cw P w) 11 f fd ["floor"] (c7 K (AJ Cm)):=by
 refine F.dW Iz (λds M q x h=>?_) (λaW A outer s H E' hr=>⟨_,(μ (Ζ (Ι (Vm pR hr ν (Ο (jv 0) θ)) υ))),λds M q x h=>?_⟩)
 ·have⟨ε,γ,X,C,rfl,_⟩:=h;rfl
 ·have⟨ε,γ,X,C,rfl,fw,nI,xw,b1,hN,h⟩:=h;refine⟨ε,γ,"one","other",X,C,rfl,.inl ⟨rfl,rfl⟩,fw,nI,xw,b1,hN,λp pa tb E ka fp Ri be _=>?_⟩;refine Η (d:=.tup [.loc M.length,.loc ka,.lst (tb.map Λ),.loc (M.length+1)]) rfl (ak (j:=2) rfl) ?_;rw[aaY];exact h p pa tb _ fp Ri be
section
variable{hand:Str}{p pa p1 p2 q1 q2 qr:Pl}
def mh.ext(h:mh ε γ Θ tb)(e:∀i:Nat,i < γ.length->Ξ cJ i=Ξ Θ i):mh ε γ cJ tb:=
 ⟨⟨h.tab.len,h.tab.red,λi il=>by
  have:=h.j3 il;rw[<-zY (e i il)]at this
  exact this.symm⟩,h.bot,h.cb⟩
def Mv(γ:List Rw)(hand:Str)(p:Pl):Prop:=∀(i:Nat) (r:Rw),γ[i]? =some r->kindOf r=hand->∃j:Nat,Ξ p i=some (j:Int)/\j < (Ν r).length
def nW(fw:FW ε γ X C)(hh:Γ hand=true)(fp:aA (gh γ hand) p):Mv γ hand p:=λi r hi e=>by
 cases r with
 | fin q=>exact aaP (show Γ (Str.ofString "end")=true by rw[<-hh,<-e];rfl) @_
 | ο k ds=>
  have e:k=hand:=e;subst e;exact(cz (i:=i) fw hh fp).1 ds hi
def D5(o:Mv γ hand p)(hi:γ[i]? =some r)(e:kindOf r=hand):eL p i (Ν r).length=true:=by have⟨j,gj,jl⟩:=o i r hi e;unfold eL;rw[gj];show(decide (0<=(j:Int))&&decide ((j:Int) < ((Ν r).length:Int)))=true;rw[aaI (show 0<=(j:Int) by omega),aaI (show(j:Int) < ((Ν r).length:Int) by omega)];rfl
def IM(o1:Mv γ "one" p1)(o2:Mv γ "other" p2):∀i,i < γ.length->gy γ (bK p1 p2) i=true:=λi il=>by
 have hi:γ[i]? =some γ[i]:=aaa il;generalize γ[i]=r at *
 unfold gy;rw[hi];show j_ (bK p1 p2) i r=true;unfold j_ bK;by_cases e:kindOf r="one"
 ·rw[aaz e];exact D5 o1 hi e
 ·rw[aaC e];by_cases e2:kindOf r="other"
  ·rw[aaz e2];exact D5 o2 hi e2
  ·rw[aaC e2]
def EK(hi:γ[i]? =some r):Ξ (e9 γ (bK p1 p2) γ.length) i=((bK p1 p2 (kindOf r)).map λpl=>(Ξ pl i).getD 0):=by rw[jJ,aaz (aaf.mp hi).1,hi];rfl
structure RT(ε:Fr)(γ:List Rw)(p1 p2:Pl)(tb:List Fr):Prop where
 f1:aA (gh γ "one") p1
 f2:aA (gh γ "other") p2
 wt:mh ε γ (e9 γ (bK p1 p2) γ.length) tb
 n1:Β ε γ tb p1=[]
 n2:Β ε γ tb p2=[]
def ye:j9 "one" "other":=iZ (.inl ⟨rfl,rfl⟩)
def Ar{z:Str}(h:Γ z=false):bK p1 p2 z=none:=by unfold bK;rw[aaC (λe=>by rw[e]at h;exact aaP h @_),aaC (λe=>by rw[e]at h;exact aaP h @_)]
def JP(fw:FW ε γ X C)(hs:j9 hand ψ)(fp:aA (gh γ hand) p)(fa:aA (gh γ ψ) pa)(e1:bK p1 p2 hand=some p)(e2:bK p1 p2 ψ=some pa)(w:mh ε γ (bG (cM γ hand p) pa) tb):mh ε γ (e9 γ (bK p1 p2) γ.length) tb:=w.ext λi il=>by
 have hi:γ[i]? =some γ[i]:=aaa il;generalize γ[i]=r at *
 have⟨a1,a2,a3⟩:=jU (i:=i) fw hs fp fa hi;rw[EK hi];cases hk:Γ (kindOf r) with
 | false=>rw[a3 hk,Ar hk];rfl
 | true=>
  rcases hs.two _ hk with e| e
  ·have⟨j,gj,_⟩:=nW fw hs.h1 fp i r hi e;rw[a1 e,e,e1,gj];show some ((Ξ p i).getD 0)=_;rw[gj];rfl
  ·have⟨j,gj,_⟩:=nW fw hs.h2 fa i r hi e;rw[a2 e,e,e2,gj];show some ((Ξ pa i).getD 0)=_;rw[gj];rfl
def UL(fw:FW ε γ X C)(fp:aA (gh γ "one") p)(b:Il ε γ "one" "other" p pa tb)(n:Β ε γ tb p=[]):RT ε γ p pa tb:=⟨fp,b.1,JP fw ye fp b.1 rfl rfl b.2.1,n,b.2.2⟩
end
def cH(k:Str)(n:Nat):Nat:=if Γ k=true then n else 1
def kZ:List Rw->Nat
 | []=>1
 | r::rs=>cH (kindOf r) (Ν r).length * kZ rs
def qe:∀(rs:List Rw) (r:Rw),kZ (rs++[r])=kZ rs * cH (kindOf r) (Ν r).length
 | [],r=>by show cH _ _ * 1=1 * _;omega
 | a::rs,r=>by show cH _ _ * kZ (rs++[r])=cH _ _ * kZ rs * _;rw[qe rs r,Nat.mul_assoc]
def v7:List Nat->Nat
 | []=>1
 | a::l=>a * v7 l
def Fp{G:Nat->Nat}{g:Nat->Int×Nat}{Q:Nat->Bool}:∀{l:List Nat},(∀i∈l,1<=G i/\(Q i=true->(g i).2<=G i))->(qG ((l.filter Q).map g)).length<=v7 (l.map G)
 | [],_=>aaj _
 | i::l,h=>by
  have ih:=Fp (l:=l) λj hj=>h j (aac _ hj);have⟨h1,h2⟩:=h i aad;show _<=G i * v7 (l.map G);cases hQ:Q i with
  | false=>
   rw[aca (by rw[hQ];decide)];exact aax ih (by have:=Nat.mul_le_mul_right (v7 (l.map G)) h1;omega)
  | true=>
   rw[ab9 hQ,aaQ];have e:∀(ms:List Nat) (k:Int) (r:List Pl),(ms.flatMap λj:Nat=>r.map λp=>(k,(j:Int))::p).length=ms.length * r.length:=λms k r=>by
    induction ms with
    | nil=>rw[acf,Nat.zero_mul];rfl
    | cons a ms ih=>rw[List.flatMap_cons,aah,aae,ih,aau,Nat.succ_mul,Nat.add_comm]
   show((List.range (g i).2).flatMap λj:Nat=>(qG ((l.filter Q).map g)).map λp=>((g i).1,(j:Int))::p).length<=_;rw[e,aa9];exact Nat.mul_le_mul (h2 hQ) ih
def D':∀γ:List Rw,v7 (γ.map λr=>cH (kindOf r) (Ν r).length)=kZ γ
 | []=>rfl
 | r::rs=>by show _ * v7 (rs.map _)=_ * kZ rs;rw[D' rs]
section
variable{hand:Str}{p1 p2 q1 q2:Pl}
def Jq(fw:FW ε γ X C)(hh:Γ hand=true):(qG (gh γ hand)).length<=kZ γ:=by
 have e:(List.range γ.length).map (λi=>cH (kindOf (gF γ i)) (Ν (gF γ i)).length)=γ.map λr=>cH (kindOf r) (Ν r).length:=by
  refine acG λi=>?_;rw[aar,aar];by_cases il:i < γ.length
  ·rw[aaT il,aaa il];show some (cH (kindOf (gF γ i)) (Ν (gF γ i)).length)=some (cH (kindOf γ[i]) (Ν γ[i]).length);rw[jx (aaa il)]
  ·rw[abL (by rw[aa9];omega),abL ()];rfl
 rw[<-D',<-e];refine Fp λi hi=>?_;have il:=abu.mp hi;have hi:γ[i]? =some γ[i]:=aaa il;rw[jx hi];generalize γ[i]=r at *
 have one:1<=cH (kindOf r) (Ν r).length:=by
  unfold cH;cases r with
  | fin q=>exact aaj _
  | ο k ds=>
   split
   ·exact(bI fw.pl (aak hi)).l1
   ·exact aaj _
 refine⟨one,λz=>?_⟩;have z:fo γ i=hand:=aao z;unfold fo at z;rw[hi]at z;have z:kindOf r=hand:=z;show(Ν r).length<=cH (kindOf r) (Ν r).length;unfold cH;rw[z,aaz hh];exact aaj _
def RT.dk(o:RT ε γ p1 p2 tb)(fw:FW ε γ X C):iw γ (e9 γ (bK p1 p2) γ.length):=Td (IM (nW fw ye.h1 o.f1) (nW fw ye.h2 o.f2))
end
def zB{ε:Fr}{tb:List Fr}:∀ws:List bu,aj (λd=>cV d * (val d.2.1+val ε * val (tb.getD d.1.toNat (0,1)))) ws=aj (λd=>cV d * val d.2.1) ws+val ε * aj (λd=>cV d * val (tb.getD d.1.toNat (0,1))) ws
 | []=>by show(0:Rat)=0+val ε * 0;grind
 | d::ws=>by have ih:=zB (ε:=ε) (tb:=tb) ws;show cV d * (val d.2.1+val ε * val (tb.getD d.1.toNat (0,1)))+aj (λd=>cV d * (val d.2.1+val ε * val (tb.getD d.1.toNat (0,1)))) ws=(cV d * val d.2.1+aj (λd=>cV d * val d.2.1) ws)+val ε * (cV d * val (tb.getD d.1.toNat (0,1))+aj (λd=>cV d * val (tb.getD d.1.toNat (0,1))) ws);rw[ih];grind
section
def mh.fin(h:mh ε γ Θ tb)(hi:γ[i]? =some (.fin p)):val (tb.getD i (0,1))=val p:=by have e:=h.tab.eq i (aaf.mp hi).1;unfold v8 vS at e;rw[jx hi]at e;have e:val (tb.getD i (0,1))=val p+val ε * 0:=e;grind
def mh.ve(h:mh ε γ Θ tb)(fw:FW ε γ X C)(dk:iw γ Θ){k:Str}(hi:γ[i]? =some (.ο k ds)):val (tb.getD i (0,1))=aj (λd=>cV d * (val d.2.1+val ε * val (tb.getD d.1.toNat (0,1)))) (aE Θ i (.ο k ds)):=by
 have e:=h.tab.eq i (aaf.mp hi).1;unfold v8 vS at e;rw[jx hi]at e;have⟨_,_,_,B,E,_,_,_,_,hw⟩:=fw.Φ dk hi;have v:=wm (aE Θ i (.ο k ds)) (0,1) @_ λd hd=>⟨(hw d hd).ch.pos,(hw d hd).py.red.pos⟩;have e:val (tb.getD i (0,1))=val (((aE Θ i (.ο k ds)).map τ|>.zip ((aE Θ i (.ο k ds)).map (·.2.1))).foldl (λw p=>dq w (aq p.1 p.2)) (0,1))+val ε * aj (λd=>cV d * val (tb.getD d.1.toNat (0,1))) (aE Θ i (.ο k ds)):=e;rw[e,v,zB];have:val ((0,1):Fr)=0:=by show((0:Int):Rat) / ((1:Int):Rat)=0;grind
 rw[this];grind
variable{p1 p2:Pl}{k:Str}
def RT.best(o:RT ε γ p1 p2 tb)(fw:FW ε γ X C)(hi:γ[i]? =some (.ο k ds))(hh:Γ k=true):val (tb.getD i (0,1))=val (fv ε tb (.ο k ds)):=by
 have hp:∀t,t < γ.length->0 < (tb.getD t (0,1)).2:=λt ht=>(o.wt.tab.red t ht).pos;have il:=(aaf.mp hi).1;have key:∀p,aA (gh γ k) p->Β ε γ tb p=[]->bK p1 p2 k=some p->val (tb.getD i (0,1))=val (fv ε tb (.ο k ds)):=λp fp be e=>by
  have⟨j,gj,jl⟩:=(cz (i:=i) fw hh fp).1 ds hi;have⟨_,es⟩:=(jk hh).mp (ur fw hh fp hp be hi gj);have ga:Ξ (e9 γ (bK p1 p2) γ.length) i=some (j:Int):=by rw[EK hi];show Option.map _ (bK p1 p2 k)=_;rw[e];show some ((Ξ p i).getD 0)=_;rw[gj];rfl
  rw[<-o.wt.j3 il,kY fw hi hh ga jl hp,es]
 rcases ye.two k hh with rfl| rfl
 ·exact key p1 o.f1 o.n1 rfl
 ·exact key p2 o.f2 o.n2 rfl
structure Wr(ε:Fr)(γ:List Rw)(tb:List Fr):Prop where
 Wu:∀i k ds,γ[i]? =some (.ο k ds)->Γ k=true->∀d∈ds,kj k * val (Ψ ε tb d)<=kj k * val (tb.getD i (0,1))
 Sg:∀i ds,γ[i]? =some (.ο "chance" ds)->aj (λd=>cV d * (val d.2.1+val ε * val (tb.getD d.1.toNat (0,1)))) ds=val (tb.getD i (0,1))
 fin:∀i p,γ[i]? =some (.fin p)->val (tb.getD i (0,1))=val p
def RT.wr(o:RT ε γ p1 p2 tb)(fw:FW ε γ X C):Wr ε γ tb:=by
 have hp:∀t,t < γ.length->0 < (tb.getD t (0,1)).2:=λt ht=>(o.wt.tab.red t ht).pos;refine⟨λi k ds hi hh d hd=>?_,λi ds hi=>?_,λi p hi=>o.wt.fin hi⟩
 ·rw[o.best fw hi hh];exact(sJ (tb:=tb) fw (aak hi) hp).2 d hd
 ·rw[o.wt.ve fw (o.dk fw) hi];have e:aE (e9 γ (bK p1 p2) γ.length) i (.ο "chance" ds)=ds:=by unfold aE;rw[(o.dk fw).Fi i _ hi (by show Γ (Str.ofString "chance")=false;decide)];rfl
  rw[e]
end
def Ge{B:Int}(h:0 < cs.length):gE cs B 0=j6 B cs[0]:=by
 cases cs with
 | nil=>exact aaP h @_
 | cons c cs=>exact K_
def Ej{c:Fr}(o:qH cs)(hc:c∈cs):(0 < c.2/\g7 c.2)/\g7 c.1/\g7 (aN cs / c.2):=by have⟨a,b,d⟩:=o.Fe.2 c hc;refine⟨⟨a,Co (k:=200) (aag a) b @_⟩,bg (k:=200) d,?_⟩;have b0:=o.b0;have b1:=o.b1;have l:=acv c.2 (aag b0);have g:=acE (aag b0) (aag a);exact bg (k:=20) ()
def qV{k:Str}(d:zS γ k ds)(pick:Int):kz k ds pick < ds.length:=by
 have l1:=d.l1;unfold kz;rcases d.kd with hk| ⟨hk,_,o⟩
 ·rw[aaz hk];have a:=aa8 pick (show(ds.length:Int)≠0 by omega);have b:=aa1 pick (show(0:Int) < ds.length by omega);omega
 ·rw[aaC (by rw[hk];decide)];have⟨j,hj⟩:=Ni o (aa1 pick o.b0);rw[wk o hj];have:=hj.lt;rwa[aae]at this
def DJ{k:Str}(d:zS γ k ds)(hi:γ[i]? =some (.ο k ds))(p:Int):gC γ i p=some (kz k ds p,ds[kz k ds p]'(qV d p)):=by unfold gC;rw[hi];show some (kz k ds p,ds.getD (kz k ds p) _)=_;rw[aab,aaa (qV d p)];rfl
def IH{e:Fr}(hi:γ[i]? =some (.fin e))(p:Int):gC γ i p=none:=by unfold gC;rw[hi]
def da(s:Nat×Nat):Dt:=.tup [.int (s.1:Int),.int (s.2:Int)]
def z7(γ:List Rw):∀(ps:List Int) (i:Nat),(d7 γ i ps).length<=ps.length
 | [],_=>aaj _
 | p::ps,i=>by
  show(match gC γ i p with| some (j,d)=>(i,j)::d7 γ d.1.toNat ps| none=>[]).length<=_;split
  ·rw[aau,aau];exact Nat.succ_le_succ (z7 γ ps _)
  ·exact ab4 _
def lR(h:ba p=true)(h0:0 < p.2):c8 p (10 ^ 30)/\p.2<=1000000:=by
 unfold ba at h;rw[aav,aam,aam]at h;have⟨h1,h2⟩:=h;have h1:(if p.1 < 0 then -p.1 else p.1)<=1000000000000000000000000000000:=h1;have e:p.2 * 10 ^ 30 ≥ 1000000000000000000000000000000:=by have:=aaD (show 1<=p.2 by omega) (show(0:Int)<=10 ^ 30 by decide);rw[Int.one_mul]at this;exact this
 refine⟨⟨?_,?_⟩,h2⟩ <;> (split at h1 <;> omega)
def ub{s:Fr}(h:ay s=true):0 < s.2/\eF s/\s.2<=1000:=by unfold ay at h;rw[aav,aav,aam,aam,aam]at h;exact⟨(),⟨h.1,()⟩,h.2.2⟩
structure Acc(g c:Fr)(n:Nat)(E:Int):Prop where
 rg:Red g
 rc:Red c
 hg:fh g E
 hc:fh c E
 e0:0 < E
 e1:E<=2 ^ (30 * n)
 ag:c8 g (n * 10 ^ 30)
 uc:eF c
def Qj{s p:Int}(e0:0 < E)(e1:E<=2 ^ n)(s0:0 < s)(s1:s<=1000)(p0:0 < p)(p1:p<=1000000):0 < E * (s * p)/\E * (s * p)<=2 ^ (n+30):=by have sp:=aap s0 p0;refine⟨aap e0 sp,?_⟩;have a:s * p<=1000 * 1000000:=abb s1 p1 (aag p0) @_;have b:s * p<=2 ^ 30:=abc a @_;have c:=abb e1 b (aag sp) (abc (aag e0) e1);rw[Int.pow_add];exact c
def Acc.step{g c s:Fr}(a:Acc g c n E)(hp:ba p=true)(OR:0 < p.2)(hs:ay s=true):Acc (dq g (aq c p)) (aq c s) (n+1) (E * (s.2 * p.2)):=by
 have⟨pa,p6⟩:=lR hp OR;have⟨s0,su,s1⟩:=ub hs;have⟨e0,e1⟩:=Qj a.e0 a.e1 s0 s1 OR p6;have gp:=a.rg.pos;have cp:=a.rc.pos;have t0:=aaZ (aap cp OR);have rt:Red (aq c p):=aP t0;have ht:fh (aq c p) (E * (s.2 * p.2)):=by have:=kB s.2 (jS cp OR a.hc (i5 p));rwa[ack,aa0 p.2 s.2]at this
 refine⟨aP (aaZ (aap gp rt.pos)),aP (aaZ (aap cp s0)),vG gp rt.pos (kB _ a.hg) ht,?_,e0,e1,?_,rS cp s0 a.uc su⟩
 ·have:=kB p.2 (jS cp s0 a.hc (i5 s));rwa[ack]at this
 ·have:=A3 gp rt.pos a.ag (vm cp OR a.uc pa @_);have e:((n:Int) * 10 ^ 30+10 ^ 30)=((n+1:Nat):Int) * 10 ^ 30:=by rw[show((n+1:Nat):Int)=(n:Int)+1 from rfl,Int.add_mul,Int.one_mul]
  rw[e]at this;exact this
def P5(h:E<=2 ^ n)(hm:n < m):E < 2 ^ m:=by
 have:(2:Nat) ^ n < 2 ^ m:=Nat.pow_lt_pow_right @_ hm;have:((2 ^ n:Nat):Int) < ((2 ^ m:Nat):Int):=abG.mpr this;refine aaE h ?_
 exact_mod_cast this
def Acc.sz{g c:Fr}(a:Acc g c n E)(hn:n<=100):Sz 3200 g/\Sz 3200 c:=by
 have e:=P5 a.e1 (show 30 * n < 3001 by omega);have n0:(0:Int)<=n * 10 ^ 30:=aba () @_;have n1:(n:Int) * 10 ^ 30 < 2 ^ 107:=by have:=aaD (show(n:Int)<=100 by omega) (show(0:Int)<=10 ^ 30 by decide);exact aaE this @_
 refine⟨j4 (vI a.rg a.hg a.e0 e a.ag n0 n1) @_,j4 (vI (C:=1) (m:=1) a.rc a.hc a.e0 e ?_ @_ @_) @_⟩;have u:=a.uc;have:=a.rc.pos;unfold eF at u;exact⟨by rw[abR];exact u.2,by rw[abR];omega⟩
def LO:Acc (0,1) (1,1) 0 1:=⟨⟨@_,@_⟩,⟨@_,@_⟩,⟨0,@_⟩,⟨1,@_⟩,@_,@_,⟨@_,@_⟩,⟨@_,@_⟩⟩
def Js{g:Dt->En->(En->Prop)->Prop}{tb:DS}{Dn:k_}{ok:Ms->Prop}(J:List Dt->En->Ms->Prop)(I:En->Ms->Prop)(bc:∀xs ρ M,J xs ρ M->ok M)
  (step:∀x xs ρ M,J (x::xs) ρ M->(∀ρ M,J xs ρ M->pH g tb Dn ok xs ρ M)->(∀ρ M,I ρ M->Dn.nx ρ M)->g x ρ λρ'=>tb {Dn with nx:=pH g tb Dn ok xs,ct:=pH g tb Dn ok xs,bk:=Dn.nx} ρ' M)
  (fin:∀ρ M,J [] ρ M->I ρ M) (out:∀ρ M,I ρ M->Dn.nx ρ M) (xs:List Dt) (ρ:En) (M:Ms) (h:J xs ρ M):pH g tb Dn ok xs ρ M:=
 cf J bc (λx xs ρ M hj gT=>step x xs ρ M hj gT out) (λρ M hj=>out ρ M (fin ρ M hj)) xs ρ M h
def qv:DF:=λas M q _=>∃(cs:List Fr) (pick:Int),as=[.lst (cs.map Λ),.int pick]/\qH cs/\q (.int (xj cs (pick % aN cs):Nat)) M
def cY:Ε ["chances","pick","bottom","rest","door","taken"] ["chances","pick"] (χ lM):=.of rfl
def uX(F:dh K "chance_door" "chance_door" lM f fd)(E:Ev K mg w Cm){d_:Addr}{d8:FuncData}(aU:ax P w K mg base 2 "common_bottom" ["chances"] fR d_ d8):aw P w K mg base (cw P w) 3 f fd ["chances","pick"] (c7 K qv):=by
 refine F.dW cY (λds M q x h=>?_) (λaW A outer s H E' hr=>⟨_,(η (ω 2 cY.nd (ae aU hr ν (Ο (jv 0) θ)))
   (η (ω 3 cY.nd (bN (jv 1) (jv 2)))
   (η (ω 4 cY.nd υ)
   (η (ω 5 cY.nd (aI (Ι (Ι (jv 0) υ) υ) (eV (jv 2) (Ι (Ι (jv 0) υ) υ))))
   (η (kS (SI (jv 3) (jv 5)) (η (ω 4 cY.nd (bA (jv 4) υ))
   (μ (ω 5 cY.nd (bA (jv 5) (aI (Ι (Ι (jv 0) (jv 4)) υ) (eV (jv 2) (Ι (Ι (jv 0) (jv 4)) υ))))))))
   (μ (Ζ (jv 4)))))))),λds M q x h=>?_⟩)
 ·have⟨cs,pick,rfl,_⟩:=h;rfl
 ·have⟨cs,pick,rfl,o,h⟩:=h;have hl:0 < cs.length:=List.length_pos_iff.mpr o.ne;have⟨b1,b2,b3⟩:=Ej o (aaq hl);have r1:=aa1 pick o.b0;refine⟨cs,rfl,⟨by have:=o.Fe.1;omega,λc hc=>⟨(o.Fe.2 c hc).1,(o.Fe.2 c hc).2.1⟩⟩,o.b0,?_⟩;generalize pick % aN cs=r at *
  walk_at "vc";refine(Η (d:=.lst (cs.map Λ)) rfl (zF hl) ?_:cI (.lst (cs.map Λ)) (.int 0) _ _);refine(jr ?_:cI (Λ cs[0]) (.int 0) _ _);refine(Η (d:=.lst (cs.map Λ)) rfl (zF hl) ?_:cI (.lst (cs.map Λ)) (.int 0) _ _);refine(gc ?_:cI (Λ cs[0]) (.int 1) _ _);refine⟨b1,⟨b2,b3⟩,?_⟩;refine⟨λm ρ M'=>M'=M/\∃j:Nat,j < cs.length/\(∀i,i < j->gE cs (aN cs) i<=r)/\m=cs.length - j/\ρ=[some (.lst (cs.map Λ)),some (.int pick),some (.int (aN cs)),some (.int r),some (.int (j:Int)),some (.int (gE cs (aN cs) j))],⟨_,rfl,0,hl,λi hi=>aaP hi (),rfl,?_⟩,?_⟩
  ·rw[Ge hl];rfl
  rintro m ρ M' ⟨rfl,j,hj,Us,rfl,rfl⟩;refine⟨λz=>?_,λz=>?_⟩
  ·have z:gE cs (aN cs) j<=r:=aao z;have Uw:j+1 < cs.length:=by
    rcases Nat.lt_or_ge (j+1) cs.length with y| y
    ·exact y
    ·have:=zb o (show j+1=cs.length by omega);omega
   have⟨d1,d2,d3⟩:=Ej o (aaq Uw);refine⟨_,λρ' M2 h2=>h2,?_⟩;walk_at "vc";dsimp only[uP];refine(Η (d:=.lst (cs.map Λ)) rfl (zF Uw) ?_:cI (.lst (cs.map Λ)) (.int ((j:Int)+1)) _ _);refine(jr ?_:cI (Λ cs[j+1]) (.int 0) _ _);refine(Η (d:=.lst (cs.map Λ)) rfl (zF Uw) ?_:cI (.lst (cs.map Λ)) (.int ((j:Int)+1)) _ _);refine(gc ?_:cI (Λ cs[j+1]) (.int 1) _ _);refine⟨d1,⟨d2,d3⟩,cs.length - (j+1),(),rfl,j+1,Uw,λi hi=>?_,rfl,?_⟩
   ·by_cases e:i=j
    ·rw[e];exact z
    ·exact Us i ()
   ·rw[AD Uw];rfl
  ·have z:¬gE cs (aN cs) j<=r:=aa4 z;rw[wk o ⟨hj,(),Us⟩]at h;exact h
def Ek(C:Addr):DF:=λas M q _=>∃ε γ i k ds pick,as=[ao C ε γ,.int (i:Nat),.int pick]/\γ[i]? =some (.ο k ds)/\zS γ k ds/\q (.int (kz k ds pick:Nat)) M
def rW:Ε ["floor","place","pick","doors"] ["floor","place","pick"] (χ yN):=.of rfl
def Gn(F:dh K "door_by" "door_by" yN f fd)(E:Ev K mg w Cm){bx:Addr}{bz:FuncData}(ai:cy P w K mg base 2 Cm "doors" ["self","place"] (mz Cm) bx bz)(Κ:cy P w K mg base 1 Cm "kind" ["self","place"] (lu Cm) aB aC){Bj:Addr}{AX:FuncData}(jw:ax P w K mg base 3 "chance_door" ["chances","pick"] qv Bj AX):aw P w K mg base (cw P w) 4 f fd ["floor","place","pick"] (c7 K (Ek Cm)):=by
 refine F.dW rW (λds M q x h=>?_) (λaW A outer s H E' hr=>⟨_,(η (ω 3 rW.nd (dc (a_ ai hr ν (jv 0) (Ο (jv 1) θ))))
   (η (aM (Dw (a_ Κ hr ν (jv 0) (Ο (jv 1) θ)) (EN E.rP)) (μ (Ζ (bN (jv 2) (dU E.cG (Ο (jv 3) θ))))) Τ)
   (μ (Ζ (ae jw hr ν (ι (fS (ys:=[]) (af:=[]) (.of rW rfl rfl rfl) (bD (jv 3)) (λC s H fp=>(Ι (jv 0) υ))) (Ο (jv 2) θ))))))),λds M q x h=>?_⟩)
 ·have⟨ε,γ,i,k,ds,pick,rfl,_⟩:=h;rfl
 ·have⟨ε,γ,i,k,ds,pick,rfl,hi,dn,h⟩:=h;have l1:=dn.l1;refine⟨⟨_,_,.inl rfl,rfl⟩,ε,γ,i,.ο k ds,rfl,hi,dn.ro,dX (ds:=ds.map cZ) (gM ds) ?_⟩;refine⟨⟨_,_,.inl rfl,rfl⟩,ε,γ,i,.ο k ds,rfl,hi,?_⟩;refine⟨.str k,[.str "one",.str "other"],[.str "one",.str "other"],rfl,rfl,rfl,?_⟩;rw[oK];unfold kz at h;refine⟨λz=>?_,λz=>?_⟩
  ·rw[aaz z,ab8 (aa8 _ ())]at h;walk_at "vc";refine(aO (d:=.lst (ds.map cZ)) (xs:=ds.map cZ) rfl ?_:iL [.lst (ds.map cZ)] M _);rw[aae];exact⟨(),h⟩
  ·rw[aaC (by rw[z];decide)]at h;rcases dn.kd with hk| ⟨_,hc,o⟩
   ·rw[hk]at z;cases z
   have HD:=(dn.ro.2.2.1 hc).1;walk_at "vc";show ft _ _ _ _ _;refine bC (i:=3) (d:=.lst (ds.map cZ)) rfl rfl ⟨by rw[aae];exact aax dn.l6 @_,?_⟩;refine dt (F:=λx a=>x=cZ a/\a∈ds) (f:=λd=>Λ (τ d)) trivial (λx a ha q' hq=>?_) (ig cZ ds ds λ_ h=>h) ?_
   ·have⟨rfl,ha⟩:=ha;have ey:cZ a= .tup [.int a.1,Λ a.2.1,Λ (τ a)]:=by unfold cZ;rw[HD a ha];rfl
    rw[ey];exact hq
   rw[aaW,show ds.map (λd=>Λ (τ d))=(ds.map τ).map Λ by rw[aaN];rfl];exact⟨ds.map τ,pick,rfl,o,h⟩
def qY{k:Str}(d:zS γ k ds)(hi:γ[i]? =some (.ο k ds))(p:Int):∃j e,kz k ds p=j/\j < ds.length/\ds[j]? =some e/\gC γ i p=some (j,e):=
 ⟨_,_,rfl,qV d p,aaa (qV d p),DJ d hi p⟩
def jy{p:Int}{ps:List Int}(h:gC γ i p=some (j,d)):d7 γ i (p::ps)=(i,j)::d7 γ d.1.toNat ps/\gz γ i (p::ps)=gz γ d.1.toNat ps/\ua γ i (p::ps)=d.2.1::ua γ d.1.toNat ps:=by
 refine⟨?_,?_,?_⟩
 ·show(match gC γ i p with| some (j,d)=>(i,j)::d7 γ d.1.toNat ps| none=>[])=_;rw[h]
 ·show(match gC γ i p with| some (_,d)=>gz γ d.1.toNat ps| none=>i)=_;rw[h]
 ·show(match gC γ i p with| some (_,d)=>d.2.1::ua γ d.1.toNat ps| none=>[])=_;rw[h]
def lU{γ:List Rw}{i:Nat}{e:Fr}(h:γ[i]? =some (.fin e)):∀ps:List Int,d7 γ i ps=[]/\gz γ i ps=i/\ua γ i ps=[]
 | []=>⟨rfl,rfl,rfl⟩
 | p::ps=>by
  have hn:=IH h p;refine⟨?_,?_,?_⟩
  ·show(match gC γ i p with| some (j,d)=>(i,j)::d7 γ d.1.toNat ps| none=>[])=_;rw[hn]
  ·show(match gC γ i p with| some (_,d)=>gz γ d.1.toNat ps| none=>i)=_;rw[hn]
  ·show(match gC γ i p with| some (_,d)=>d.2.1::ua γ d.1.toNat ps| none=>[])=_;rw[hn]
def h8(ε:Fr)(γ:List Rw)(i:Nat)(picks:List Int):Rat:=mr (val ε) (ua γ i picks) (val (lA γ (gz γ i picks)))
def Eg(C:Addr):DF:=λas M q _=>∃ε γ i g picks ok,as=[ao C ε γ,.int (i:Nat),g]/\j7 M g=some (picks.map Dt.int,ok)/\(∀E,ok (M++E))/\k8 ε γ/\i < γ.length/\picks.length<=100/\∀R,Red R->val R=h8 ε γ i picks->q (.tup [.loc M.length,.int (gz γ i picks:Nat),Λ R]) (M++[.lst ((d7 γ i picks).map da)])
def dH:Ε ["floor","place","picks","steps","gathered","counts","pick","door","taken"] ["floor","place","picks"] (χ yB):=.of rfl
def Gi(F:dh K "played" "played" yB f fd)(E:Ev K mg w Cm)(Κ:cy P w K mg base 1 Cm "kind" ["self","place"] (lu Cm) aB aC){L7:Addr}{MC:FuncData}(sL:ax P w K mg base 4 "door_by" ["floor","place","pick"] (Ek Cm) L7 MC){bx:Addr}{bz:FuncData}(ai:cy P w K mg base 2 Cm "doors" ["self","place"] (mz Cm) bx bz){Ax:Addr}{zL:FuncData}(iM:ax P w K mg base 3 "plus" ["one","other"] Eu Ax zL){ni:Addr}{nG:FuncData}(df:ax P w K mg base 3 "times" ["one","other"] tT ni nG){lI:Addr}{lH:FuncData}(cN:cy P w K mg base 1 Cm "share" ["self"] (DG Cm) lI lH){jn:Addr}{i6:FuncData}(cX:cy P w K mg base 2 Cm "pay" ["self","place"] (ME Cm) jn i6):aw P w K mg base (cw P w) 6 f fd ["floor","place","picks"] (c7 K (Eg Cm)):=by
 refine F.dW dH (λds M q x h=>?_) (λaW A outer s H E' hr=>⟨_,(η (ω 3 dH.nd (kG θ))
   (η (ω 4 dH.nd (c_ (ι υ (ι υ θ b_) b_)))
   (η (ω 5 dH.nd (c_ (ι υ (ι υ θ b_) b_)))
   (η (dR (bD (jv 2)) (av (i:=6) dH.nd rfl (Or.inl rfl)) bq (η (aM (cD hr (a_ Κ hr ν (jv 0) (Ο (jv 1) θ)) gP) (μ JQ) Τ)
   (η (ω 7 dH.nd (ae sL hr ν (Ο (jv 0) (Ο (jv 1) (Ο (jv 6) θ)))))
   (η (eB (e_ (jv 3) (ι (c_ (Ο (jv 1) (Ο (jv 7) θ))) θ wc)))
   (η (ω 8 dH.nd (Ι (dc (a_ ai hr ν (jv 0) (Ο (jv 1) θ))) (jv 7)))
   (η (ω 4 dH.nd (ae iM hr ν (Ο (jv 4) (ι (ae df hr ν (Ο (jv 5) (ι (Ι (jv 8) υ) θ bQ))) θ aY))))
   (η (ω 5 dH.nd (ae df hr ν (Ο (jv 5) (ι (jX cN hr ν (jv 0)) θ aY))))
   (μ (ω 1 dH.nd (Ι (jv 8) υ))))))))))
   (η (kM (aM (cD hr (a_ Κ hr ν (jv 0) (Ο (jv 1) θ)) gP) (μ (ω 4 dH.nd (ae iM hr ν (Ο (jv 4) (ι (ae df hr ν (Ο (jv 5) (ι (a_ cX hr ν (jv 0) (Ο (jv 1) θ)) θ aY))) θ aY))))) Τ))
   (μ (Ζ (c_ (Ο (jv 3) (Ο (jv 1) (Ο (jv 4) θ))))))))))),λds M q x h=>?_⟩)
 ·have⟨ε,γ,i,g,picks,ok,rfl,_⟩:=h;rfl
 ·have⟨ε,γ,i,g0,picks,ok,rfl,hit,bc,f,hi,hp,h⟩:=h;have⟨s0,su,s1⟩:=ub f.sh;have OQ:=ip f.sh;refine⟨@_,gV,gV,?_⟩;have Xl:j7 (M++[MO.lst []]) g0=some (picks.map Dt.int,ok):=by
   cases g0 with
   | lst ds=>exact hit
   | ir ns=>exact hit
   | loc k=>
    have hit:(match M[k]? with| some (MO.lst xs)=>some (xs,λM':Ms=>M'[k]? =some (MO.lst xs))| _=>none)=some (picks.map Dt.int,ok):=hit;show(match (M++[MO.lst []])[k]? with| some (MO.lst xs)=>some (xs,λM':Ms=>M'[k]? =some (MO.lst xs))| _=>none)=some (picks.map Dt.int,ok);have hk:k < M.length:=by
     rcases Nat.lt_or_ge k M.length with z| z
     ·exact z
     ·rw[abL z]at hit;cases hit
    rw[aas hk];exact hit
   | _=>cases hit
  walk_at "vc";show ft _ _ _ _ _;refine bC (i:=2) (d:=g0) rfl Xl ?_
  refine Js (λxs ρ M'=>∃(ps:List Int) (i':Nat) (st:List (Nat×Nat)) (g c:Fr) (n:Nat) (E:Int) (o6 o7 o8:Option Dt),xs=ps.map Dt.int/\i' < γ.length/\n+ps.length=picks.length/\st.length=n/\d7 γ i picks=st++d7 γ i' ps/\gz γ i picks=gz γ i' ps/\Acc g c n E/\val g+val c * h8 ε γ i' ps=h8 ε γ i picks/\M'=M++[MO.lst (st.map da)]/\ρ=[some (ao Cm ε γ),some (.int (i':Int)),some g0,some (.loc M.length),some (Λ g),some (Λ c),o6,o7,o8])
   (λρ M'=>∃(i':Nat) (g c:Fr) (n:Nat) (E:Int) (o6 o7 o8:Option Dt),i' < γ.length/\n<=100/\gz γ i picks=i'/\Acc g c n E/\val g+val c * val (lA γ i')=h8 ε γ i picks/\M'=M++[MO.lst ((d7 γ i picks).map da)]/\ρ=[some (ao Cm ε γ),some (.int (i':Int)),some g0,some (.loc M.length),some (Λ g),some (Λ c),o6,o7,o8])
   (λxs ρ M' hj=>?_) (λx xs ρ M' hj gT out=>?_) (λρ M' hj=>?_) (λρ M' hj=>?_) _ _ _ ⟨picks,i,[],(0,1),(1,1),0,1,none,none,none,rfl,hi,by simp,rfl,rfl,rfl,LO,?_,rfl,rfl⟩
  ·have⟨ps,i',st,g,c,n,E,o6,o7,o8,_,_,_,_,_,_,_,_,rfl,_⟩:=hj;exact bc _
  ·have⟨ps,i',st,g,c,n,E,o6,o7,o8,ex,sE,hn,Ht,hS,hL,Θ,hv,rfl,rfl⟩:=hj;cases ps with
   | nil=>cases ex
   | cons p ps=>
    cases ex;rw[aau]at hn;have ri:γ[i']? =some γ[i']:=aaa sE;have hm:γ[i']∈γ:=aaq sE;generalize γ[i']=r at ri hm;refine⟨⟨_,_,.inl rfl,rfl⟩,ε,γ,i',r,rfl,ri,?_⟩;cases r with
    | fin e=>
     have⟨e1,e2,e3⟩:=lU ri (p::ps);refine⟨λ_=>out _ _ ⟨i',g,c,n,E,_,_,_,sE,(),by rw[hL,e2],Θ,?_,?_,rfl⟩,nofun⟩
     ·rw[<-hv];unfold h8;rw[e2,e3];rfl
     ·rw[hS,e1,aa6]
    | ο k ds=>
     have dn:=bI f hm;refine⟨λz=>aaP (aao z) dn.ro.1,λ_=>?_⟩;have⟨j,d,hj,dl,JZ,HR⟩:=qY dn ri p;have⟨e1,e2,e3⟩:=jy (ps:=ps) HR;have hd:d∈ds:=aak JZ;have⟨t0,t1⟩:=dn.to _ hd;have⟨p0,p1⟩:=dn.py _ hd;have ad:nY (ds.map cZ) (j:Int)=some (cZ d):=ak (by rw[aar,JZ];rfl);have Su:=BI p0 p1;have⟨Yv,GS⟩:=Θ.sz ();have Bp:(M++[MO.lst (st.map da)])[M.length]? =some (.lst (st.map da)):=by simp
     have setM:(M++[MO.lst (st.map da)]).set M.length (.lst (st.map da++[da (i',j)]))=M++[.lst ((st++[(i',j)]).map da)]:=by simp
     have lt:(st.map da).length < sizeLine:=by rw[aae,Ht];exact aa3 (show n<=100 by omega) @_
     refine⟨ε,γ,i',k,ds,p,rfl,ri,dn,?_⟩;rw[hj];refine⟨⟨M.length,_,rfl,Bp⟩,gV,M.length,_,_,rfl,rfl,Bp,lt,?_⟩;rw[show(M++[MO.lst (st.map da)]).set M.length (MO.lst (st.map da++[Dt.tup [Dt.int (i':Int),Dt.int (j:Int)]]))=M++[MO.lst ((st++[(i',j)]).map da)] from setM];refine⟨⟨_,_,.inl rfl,rfl⟩,ε,γ,i',.ο k ds,rfl,ri,dn.ro,dX (ds:=ds.map cZ) (gM ds) ?_⟩;refine(Η (d:=.lst (ds.map cZ)) rfl ad ?_:cI (.lst (ds.map cZ)) (.int (j:Int)) _ _);refine(KW ?_:cI (cZ d) (.int 1) _ _);refine⟨c,d.2.1,3200,101,rfl,GS,Su,@_,g,aq c d.2.1,3200,3301,rfl,Yv,oG GS Su,@_,?_⟩;refine⟨⟨_,_,.inl rfl,rfl⟩,ε,γ,rfl,c,ε,3200,11,rfl,GS,OQ,@_,?_⟩;refine(Fc ?_:cI (cZ d) (.int 0) _ _);rw[show d.1=((d.1.toNat:Nat):Int) by omega];refine gT _ _ ⟨ps,d.1.toNat,st++[(i',j)],dq g (aq c d.2.1),aq c ε,n+1,_,_,_,_,rfl,(),(),by simp[Ht],by rw[hS,e1];simp,by rw[hL,e2],Θ.step p0 p1 f.sh,?_,rfl,rfl⟩;rw[<-hv];have c0:=Θ.rc.pos;have tp:0 < (aq c d.2.1).2:=bJ (aaZ (aap c0 p1));rw[iX Θ.rg.pos tp,eZ c0 p1,eZ c0 s0];have e4:h8 ε γ i' (p::ps)=val d.2.1+val ε * h8 ε γ d.1.toNat ps:=by unfold h8;rw[e2,e3];rfl
     rw[e4];generalize h8 ε γ d.1.toNat ps=z1;generalize val g=z2;generalize val c=z3;generalize val d.2.1=z4;generalize val ε=z5;grind
  ·have⟨ps,i',st,g,c,n,E,o6,o7,o8,ex,sE,hn,Ht,hS,hL,Θ,hv,rfl,rfl⟩:=hj;cases ps with
   | cons p ps=>cases ex
   | nil=>
    refine⟨i',g,c,n,E,o6,o7,o8,sE,(),hL,Θ,?_,?_,rfl⟩
    ·rw[<-hv];rfl
    ·rw[hS];show M++[MO.lst (st.map da)]=M++[MO.lst ((st++[]).map da)];rw[aa6]
  ·have⟨i',g,c,n,E,o6,o7,o8,sE,hn,hL,Θ,hv,rfl,rfl⟩:=hj;have ri:γ[i']? =some γ[i']:=aaa sE;have hm:γ[i']∈γ:=aaq sE;generalize γ[i']=r at ri hm;have⟨Yv,GS⟩:=Θ.sz hn;refine⟨λρ M2=>M2=M++[MO.lst ((d7 γ i picks).map da)]/\∃R,Red R/\val R=h8 ε γ i picks/\ρ=[some (ao Cm ε γ),some (.int (i':Int)),some g0,some (.loc M.length),some (Λ R),some (Λ c),o6,o7,o8],?_,?_⟩
   ·refine⟨⟨_,_,.inl rfl,rfl⟩,ε,γ,i',r,rfl,ri,?_⟩;cases r with
    | ο k ds=>
     have dn:=bI f hm;refine⟨λz=>aaP (aao z) dn.ro.1,λ_=>⟨rfl,g,Θ.rg,?_,rfl⟩⟩;rw[<-hv];unfold lA;rw[ri];have:val (0,1)=0:=by unfold val;grind
     show val g=val g+val c * val (0,1);rw[this];grind
    | fin e=>
     have⟨e0,ef⟩:=f.row _ hm;have e0:0 < e.2:=e0;have Su:=BI ef e0;refine⟨λ_=>?_,nofun⟩;refine⟨⟨_,_,.inl rfl,rfl⟩,ε,γ,i',.fin e,rfl,ri,e0,?_⟩;have c0:=Θ.rc.pos;have tp:0 < (aq c e).2:=bJ (aaZ (aap c0 e0));refine⟨c,e,3200,101,rfl,GS,Su,@_,g,aq c e,3200,3301,rfl,Yv,oG GS Su,@_,rfl,dq g (aq c e),aP (aaZ (aap Θ.rg.pos tp)),?_,rfl⟩;rw[<-hv,iX Θ.rg.pos tp,eZ c0 e0];unfold lA;rw[ri]
   ·rintro ρ2 M2 ⟨rfl,R,rR,vR,rfl⟩;have hq:=h R rR vR;rw[hL]at hq;exact⟨by show 3<=sizeLine;decide,hq⟩
  ·have a:val (0,1)=0:=by unfold val;grind
   have b:val (1,1)=1:=by unfold val;grind
   rw[a,b];grind
def aa(ε:Fr)(tb:List Fr)(d:bu)(i:Nat):Fr:=gZ (Ψ ε tb d) (kn tb i)
def vo{k:Str}(f:Cg ε γ tb)(h:Rw.ο k ds∈γ)(hd:d∈ds):val (Ψ ε tb d)=val d.2.1+val ε * val (kn tb d.1)/\0 < (Ψ ε tb d).2:=by have⟨a,b,c⟩:=yE f h hd;have⟨_,t2⟩:=jD f a b;have s:=(ip f.sh).2.1;have tp:0 < (aq ε (kn tb d.1)).2:=bJ (aaZ (aap s t2.2.1));unfold Ψ;rw[iX c.2.1 tp,eZ s t2.2.1];exact⟨rfl,bJ (aaZ (aap c.2.1 tp))⟩
def zq{k:Str}(f:Cg ε γ tb)(hi:γ[i]? =some (.ο k ds))(hd:d∈ds):val (aa ε tb d i)=val d.2.1+val ε * val (kn tb d.1) - val (kn tb i)/\Red (aa ε tb d i):=by have⟨a,b⟩:=vo f (aak hi) hd;have il:=(aaf.mp hi).1;have⟨_,t2⟩:=jD (t:=(i:Int)) f () ();rw[<-a];exact⟨vH b t2.2.1,aP (aaZ (aap b t2.2.1))⟩
def uk(C:Addr):DF:=λas M q _=>∃ε γ tb i j k ds d,as=[ao C ε γ,.lst (tb.map Λ),.int (i:Nat),.int (j:Nat)]/\γ[i]? =some (.ο k ds)/\ds[j]? =some d/\Cg ε γ tb/\q (Λ (aa ε tb d i)) M
def HA:Ε ["floor","table","place","door"] ["floor","table","place","door"] (χ rY):=.of rfl
def Dr(F:dh K "brought" "brought" rY f fd)(E:Ev K mg w Cm){CI:Addr}{Cy:FuncData}(lV:ax P w K mg base 3 "minus" ["one","other"] Cv CI Cy){kQ:Addr}{kN:FuncData}(dN:cy P w K mg base 4 Cm "shown" ["self","place","door","table"] (C2 Cm) kQ kN):aw P w K mg base (cw P w) 5 f fd ["floor","table","place","door"] (c7 K (uk Cm)):=by
 refine F.dW HA (λds M q x h=>?_) (λaW A outer s H E' hr=>⟨_,(μ (Ζ (ae lV hr ν (ι (a_ dN hr ν (jv 0) (Ο (jv 2) (Ο (jv 3) (Ο (jv 1) θ)))) (ι (Ι (jv 1) (jv 2)) θ bQ) aY)))),λds M q x h=>?_⟩)
 ·have⟨ε,γ,tb,i,j,k,ds,d,rfl,_⟩:=h;rfl
 ·have⟨ε,γ,tb,i,j,k,ds,d,rfl,hi,hj,f,h⟩:=h;have hm:Rw.ο k ds∈γ:=aak hi;have hd:d∈ds:=aak hj;have il:i < γ.length:=(aaf.mp hi).1;have⟨t1,t2⟩:=jD (t:=(i:Int)) f () ();refine⟨⟨_,_,.inl rfl,rfl⟩,ε,γ,tb,i,j,k,ds,d,rfl,hi,hj,f,?_⟩;refine Η (d:=.lst (tb.map Λ)) rfl t1 ?_;exact⟨_,_,1870,1720,rfl,zo f hm hd,t2,@_,h⟩
def D0(ns:List Int)(k:Int):Int:=ns.getD k.toNat 0
def Df{k:Int}(h0:0<=k)(h2:k < ns.length):nY (ns.map Dt.int) k=some (.int (D0 ns k)):=by
 have e:(ns.map Dt.int)[k.toNat]? =some (.int (D0 ns k)):=by rw[aar,aaa (show k.toNat < ns.length by omega)];unfold D0;rw[aab,aaa (show k.toNat < ns.length by omega)];rfl
 have:=ak e;rwa[show((k.toNat:Nat):Int)=k by omega]at this
def Ff{k:Int}(h:¬k < ns.length):D0 ns k=0:=by unfold D0;rw[aab,abL ()];rfl
def FZ(ns:List Int)(k:Int):Bool:=decide (k < ns.length)&&(decide (D0 ns k < 0)|| decide (D0 ns k ≥ 10 ^ 18))
def NN{k:Int}(h:FZ ns k=false):0<=D0 ns k/\D0 ns k < 10 ^ 18:=by
 unfold FZ at h;by_cases hk:k < ns.length
 ·rw[aaI hk,Bool.true_and,Bool.or_eq_false_iff,decide_eq_false_iff_not,decide_eq_false_iff_not]at h;omega
 ·rw[Ff hk];exact⟨@_,@_⟩
def UN(c k:Int):Int:=((c * 48271+(k+1) * (k+1) * 69621) % 2147483647 * ((c * 48271+(k+1) * (k+1) * 69621) % 2147483647 % 65521+30011)+(k+3) * 104729) % 2147483647
def Gr(ns:List Int)(k:Int):Int:=if FZ ns k=true then D0 ns k % 10 ^ (64:Int).toNat else UN (D0 ns k) k
def p18:sD 10 18:=⟨@_,@_,@_⟩
def p64:sD 10 64:=⟨@_,@_,@_⟩
def p8:sD 10 8:=⟨@_,@_,@_⟩
def p6:sD 10 6:=⟨@_,@_,@_⟩
def p22:sD 10 22:=⟨@_,@_,@_⟩
def VU:sD 10 30:=⟨@_,@_,@_⟩
def Nm(n:Int):Prop:=0<=n/\n < 10 ^ 128
def sG{n:Int}(h:Nm n):g7 n:=Co (k:=440) h.1 (abN h.2 @_) @_
def wK{m:Int}(h0:0 < m)(h1:m<=10 ^ 128):Nm (a % m):=⟨aa8 _ (),abN (aa1 _ h0) h1⟩
def Jf{m:Int}(h:Nm a)(h0:0 < m):Nm (a / m):=⟨acE h.1 (),aaE (acv _ h.1) h.2⟩
def Pd:DF:=λas M q _=>∃(ns:List Int) (k:Int),as=[.ir ns,.int k]/\0<=k/\q (.bl (FZ ns k)) M
def IG:Ε ["_law_script","_law_k"] ["_law_script","_law_k"] (χ wO):=.of rfl
def Hm(F:dh K "_law_far" "_law_far" wO f fd)(E:Ev K mg w Cm):aw P w K mg base (cw P w) 1 f fd ["_law_script","_law_k"] (c7 K Pd):=by
 refine F.dW IG (λds M q x h=>?_) (λaW A outer s H E' hr=>⟨_,(μ (Ζ (iR (BV (jv 1) (dU E.cG (Ο (jv 0) θ))) (jV (OM (BV (Ι (jv 0) (jv 1)) υ) (jV (WM (Ι (jv 0) (jv 1)) (gB υ υ)))))))),λds M q x h=>?_⟩)
 ·have⟨ns,k,rfl,_⟩:=h;rfl
 ·have⟨ns,k,rfl,hk,h⟩:=h;unfold FZ at h;walk_at "vc";refine(aO (d:=.ir ns) (xs:=ns.map .int) rfl ?_:iL [.ir ns] M _);rw[aae];refine⟨λh1=>?_,λh1=>?_⟩
  ·have h1:decide (k < ns.length)=true:=h1;have NO:k < ns.length:=aao h1;rw[h1,Bool.true_and]at h;refine(Η (d:=.ir ns) rfl (Df hk NO) ?_:cI (.ir ns) (.int k) M _);refine⟨λh2=>?_,λh2=>?_⟩
   ·have h2:decide (D0 ns k < 0)=true:=h2;rw[h2,Bool.true_or]at h;exact h
   ·have h2:decide (D0 ns k < 0)=false:=h2;rw[h2,Bool.false_or]at h;refine(Η (d:=.ir ns) rfl (Df hk NO) ?_:cI (.ir ns) (.int k) M _);exact⟨p18,h⟩
  ·have h1:decide (k < ns.length)=false:=h1;rw[h1,acH]at h;exact h
def B_:DF:=λas M q _=>∃(ns:List Int) (k:Int),as=[.ir ns,.int k]/\0<=k/\k<=200/\∀n,Nm n->n=Gr ns k->q (.int n) M
def OG:DF:=λas M q _=>∃(ns:List Int) (k:Int),as=[.ir ns,.int k]/\0<=k/\k<=200/\∀n,Nm n->q (.int n) M
def Jc(x:Int)(h0:0<=x)(h1:x < 2147483647):g7 x/\g7 (x % 65521+30011):=⟨bg (k:=40) (),bg (k:=40) ()⟩
def QN{k:Int}(h0:0<=k)(h1:k<=200):g7 ((k+1) * (k+1)):=by have a:=abb (show k+1<=201 by omega) (show k+1<=201 by omega) (show 0<=k+1 by omega) (show(0:Int)<=201 by decide);have b:0<=(k+1) * (k+1):=aba () ();exact bg (k:=40) ()
def lF:Ε ["_law_script","_law_k","_law_cell","_law_number_here"] ["_law_script","_law_k"] (χ m_):=.of rfl
def yK(F:dh K "_law_number" "_law_number" m_ f fd)(E:Ev K mg w Cm){wW:Addr}{xW:FuncData}(je:ax P w K mg base 1 "_law_far" ["_law_script","_law_k"] Pd wW xW):aw P w K mg base (cw P w) 2 f fd ["_law_script","_law_k"] (c7 K B_):=by
 refine F.dW lF (λds M q x h=>?_) (λaW A outer s H E' hr=>⟨_,(η (ω 2 lF.nd (OI (vV (jv 1) (dU E.cG (Ο (jv 0) θ))) (Ι (jv 0) (jv 1)) υ))
   (η (aM (jE (ae je hr ν (Ο (jv 0) (Ο (jv 1) θ)))) (μ (Ζ (bN (jv 2) (gB υ υ)))) Τ)
   (η (ω 3 lF.nd (bN (bA (aI (jv 2) υ) (aI (aI (bA (jv 1) υ) (bA (jv 1) υ)) υ)) υ))
   (μ (Ζ (bN (bA (aI (jv 3) (bA (bN (jv 3) υ) υ)) (aI (bA (jv 1) υ) υ)) υ)))))),λds M q x h=>?_⟩)
 ·have⟨ns,k,rfl,_⟩:=h;rfl
 ·have⟨ns,k,rfl,hk,k2,h⟩:=h;have bk:=QN hk k2;have b1:g7 (k+1):=bg (k:=40) ();have b3:g7 (k+3):=bg (k:=40) ();have cc:∀n:Int,n.natAbs < 2 ^ 20->g7 n:=λn hn=>bg hn;walk_at "vc";refine(aO (d:=.ir ns) (xs:=ns.map .int) rfl ?_:iL [.ir ns] M _);rw[aae];refine⟨λh1=>?_,λh1=>?_⟩
  ·have NO:k < ns.length:=aao h1;refine(Η (d:=.ir ns) rfl (Df hk NO) ?_:cI (.ir ns) (.int k) M _);refine⟨ns,k,rfl,hk,λh2=>?_,λh2=>?_⟩
   ·exact⟨p64,@_,h _ (wK @_ @_) (aaz h2).symm⟩
   ·have⟨c0,c1⟩:=NN h2;refine⟨⟨bg (k:=64) (),cc _ @_⟩,⟨b1,b1⟩,⟨bk,cc _ @_⟩,@_,?_⟩;exact⟨@_,Jc _ (aa8 _ @_) (aa1 _ @_),⟨b3,cc _ @_⟩,@_,h _ (wK @_ @_) (aaC (by rw[h2];decide)).symm⟩
  ·have NO:¬k < ns.length:=aa4 h1;refine⟨ns,k,rfl,hk,λh2=>?_,λh2=>?_⟩
   ·unfold FZ at h2;rw[aaG NO,acH]at h2;cases h2
   ·refine⟨⟨cc _ @_,cc _ @_⟩,⟨b1,b1⟩,⟨bk,cc _ @_⟩,@_,?_⟩;refine⟨@_,Jc _ (aa8 _ @_) (aa1 _ @_),⟨b3,cc _ @_⟩,@_,h _ (wK @_ @_) ?_⟩;have e:Gr ns k=UN (D0 ns k) k:=aaC (by rw[h2];decide);rw[e,Ff NO];rfl
def wC:Ε ["_law_script","_law_k","_law_number_here"] ["_law_script","_law_k"] (χ um):=.of rfl
def Dp(F:dh K "_law_rest" "_law_rest" um f fd)(E:Ev K mg w Cm)(Υ:ax P w K mg base 2 "_law_number" ["_law_script","_law_k"] B_ bR bT){wW:Addr}{xW:FuncData}(je:ax P w K mg base 1 "_law_far" ["_law_script","_law_k"] Pd wW xW):aw P w K mg base (cw P w) 3 f fd ["_law_script","_law_k"] (c7 K OG):=by
 refine F.dW wC (λds M q x h=>?_) (λaW A outer s H E' hr=>⟨_,(η (ω 2 wC.nd (ae Υ hr ν (Ο (jv 0) (Ο (jv 1) θ))))
   (η (aM (jE (ae je hr ν (Ο (jv 0) (Ο (jv 1) θ)))) (μ (Ζ (eV (jv 2) (gB υ υ)))) Τ)
   (μ (Ζ (bN (aI (jv 2) υ) υ))))),λds M q x h=>?_⟩)
 ·have⟨ns,k,rfl,_⟩:=h;rfl
 ·have⟨ns,k,rfl,hk,k2,h⟩:=h;refine⟨ns,k,rfl,hk,k2,λn hn _=>?_⟩;refine⟨ns,k,rfl,hk,λh2=>?_,λh2=>?_⟩
  ·exact⟨p8,⟨@_,bg (k:=40) @_⟩,h _ (Jf hn @_)⟩
  ·exact⟨⟨sG hn,bg (k:=20) @_⟩,@_,h _ (wK @_ @_)⟩
def UE{b:Int}(h1: -(10 ^ 30)<=a)(h2:a<=10 ^ 30)(h3:b<=1000000):ba (a,b)=true:=by
 unfold ba;have:(if a < 0 then -a else a)<=10 ^ 30:=by split <;> omega
 show(decide ((if a < 0 then -a else a)<=10 ^ 30)&&decide (b<=1000000))=true;rw[aaI this,aaI h3];rfl
def D_{t b:Int}(h1: -(10 ^ 30)<=t)(h2:t<=10 ^ 30)(h0:0 < b)(h3:b<=1000000):ba (aD t b)=true:=by
 have l1:=uq (t:=t) (show b≠0 by omega);have l2:=i7 (t:=t) (show b≠0 by omega);generalize aD t b=f at *
 have⟨x,y⟩:=f;have l1:x.natAbs<=t.natAbs:=l1;have l2:y.natAbs<=b.natAbs:=l2;exact UE () () ()
def BY{t b:Int}(t0:0<=t)(t1:t < b)(hb1:b<=1000):ay (aD t b)=true:=by
 have Oq:0 < b:=()
 have l2:=i7 (t:=t) (show b≠0 by omega);have q0:=bJ (t:=t) (show b≠0 by omega);have hc:=cQ (t:=t) (show b≠0 by omega);generalize aD t b=f at *
 have⟨x,y⟩:=f;have l2:y.natAbs<=b.natAbs:=l2;have q0:0 < y:=q0;have hc:t * y=b * x:=hc;have x0:0<=x:=by
  rcases ach x 0 with z| z
  ·have:=ab0 Oq z;have:=aba t0 (aag q0);omega
  ·exact z
 have x1:x < y:=by
  rcases ach x y with z| z
  ·exact z
  ·have h3:b * y<=b * x:=aaA z (aag Oq);have h4:t * y < b * y:=Int.mul_lt_mul_of_pos_right t1 q0;omega
 unfold ay;show(decide (0<=x)&&(decide (x < y)&&decide (y<=1000)))=true;rw[aaI x0,aaI x1,aaI (show y<=1000 by omega)];rfl
def HL:DF:=λas M q _=>∃t b:Int,as=[.int t,.int b]/\0 < b/\g7 b/\q (Λ (aD t b)) M
def iB:Ε ["_law_top","_law_bottom","_law_one","_law_other"] ["_law_top","_law_bottom"] (χ mW):=.of rfl
def yv(F:dh K "_law_lowest" "_law_lowest" mW f fd)(E:Ev K mg w Cm):aw P w K mg base (cw P w) 1 f fd ["_law_top","_law_bottom"] (c7 K HL):=by
 refine F.dW iB (λds M q x h=>?_) (λaW A outer s H E' hr=>⟨_,(η (ω 2 iB.nd (Es E.rT (Ο (jv 0) θ)))
   (η (ω 3 iB.nd (jv 1))
   (η (kS (tQ hr (jv 3) υ) (μ (Q7 (i:=2) (j:=3) iB.nd rfl rfl (Ο (jv 3) (ι (bN (jv 2) (jv 3)) θ bb)))))
   (μ (Ζ (c_ (ι (eV (jv 0) (jv 2)) (ι (eV (jv 1) (jv 2)) θ bb) bb))))))),λds M q x h=>?_⟩)
 ·have⟨t,b,rfl,_⟩:=h;rfl
 ·have⟨t,b,rfl,h0,h1,h⟩:=h;have ga:g (if t < 0 then -t else t) b=g t b:=by have:=OO t b;rwa[aaC (show¬b < 0 by omega)]at this
  refine⟨λm ρ M'=>M'=M/\∃(x y:Int),ρ=[some (.int t),some (.int b),some (.int x),some (.int y)]/\0<=x/\0<=y/\g x y=g t b/\m=y.toNat,⟨_,rfl,_,_,rfl,by split <;> omega,(),ga,rfl⟩,?_⟩;rintro m ρ M' ⟨rfl,x,y,rfl,hx,hy,e,rfl⟩;refine⟨λhb=>?_,λhb=>?_⟩
  ·have L9:y≠0:=by simpa using hb
   refine⟨_,λρ' M2 h2=>h2,?_⟩;refine⟨(),(x % y).toNat,?_,rfl,y,x % y,rfl,hy,aa8 _ L9,?_,rfl⟩
   ·have:=aa1 x (show 0 < y by omega);have:=aa8 x L9;omega
   ·rw[<-abV x hy,K4 ()];exact e
  ·have L9:y=0:=by simpa using hb
   subst L9;rw[Lk hx]at e;subst e;have hg:0 < g t b:=zf ();have hle:g t b<=b:=abY h0 (Int.gcd_dvd_right ..);have hb:g7 (g t b):=aa3 (show(g t b).natAbs<=b.natAbs by omega) h1;have e:aD t b=(t / g t b,b / g t b):=by rw[MT h0,acn _ (aag hg),acn _ (aag hg)]
   rw[e]at h;exact⟨⟨hg,hb⟩,⟨hg,hb⟩,gV,h⟩
def Jl:DF:=λas M q _=>∃n:Int,as=[.int n]/\Nm n/\∀p,ba p=true->Red p->q (Λ p) M
def Ly:Ε ["_law_number_here"] ["_law_number_here"] (χ xQ):=.of rfl
def Gf(F:dh K "_law_pay" "_law_pay" xQ f fd)(E:Ev K mg w Cm)(aF:ax P w K mg base 1 "_law_lowest" ["_law_top","_law_bottom"] HL cP cT):aw P w K mg base (cw P w) 2 f fd ["_law_number_here"] (c7 K Jl):=by
 refine F.dW Ly (λds M q x h=>?_) (λaW A outer s H E' hr=>⟨_,(η (aM (cD hr (bN (jv 0) υ) υ) (μ (Ζ (ae aF hr ν (ι (oB (bN (aI (jv 0) (gB υ υ)) (bA (aI υ (gB υ υ)) υ)) (gB υ υ)) (ι (bA υ (bN (eV (jv 0) υ) (gB υ υ))) θ bb) bb)))) Τ)
   (μ (Ζ (ae aF hr ν (ι (oB (bN (eV (jv 0) υ) υ) υ) (ι (bA υ (bN (eV (jv 0) υ) υ)) θ bb) bb))))),λds M q x h=>?_⟩)
 ·have⟨n,rfl,_⟩:=h;rfl
 ·have⟨n,rfl,hn,h⟩:=h;refine⟨@_,λ_=>?_,λ_=>?_⟩
  ·have Ou:0 < 1+n / 8 % 10 ^ (6:Int).toNat/\1+n / 8 % 10 ^ (6:Int).toNat<=1000000:=by show 0 < 1+n / 8 % 1000000/\1+n / 8 % 1000000<=1000000;omega
   have Xj:g7 (1+n / 8 % 10 ^ (6:Int).toNat):=Co (k:=20) (aag Ou.1) (aaE Ou.2 @_) @_;have b22:g7 ((10:Int) ^ (22:Int).toNat):=bg (k:=110) @_;have b30:g7 ((10:Int) ^ (30:Int).toNat):=bg (k:=110) @_;have m0:(0:Int) < 2 * 10 ^ (30:Int).toNat+1:=@_
   have Xx:=aa8 (n * 10 ^ (22:Int).toNat) (show(2 * 10 ^ (30:Int).toNat+1:Int)≠0 by decide);have hm1:=aa1 (n * 10 ^ (22:Int).toNat) m0;refine⟨p22,⟨sG hn,b22⟩,VU,⟨bg (k:=4) @_,b30⟩,m0,VU,⟨@_,bg (k:=5) @_⟩,p6,(by show(0:Int) < 1000000;decide),_,_,rfl,Ou.1,Xj,h _ (D_ ?_ ?_ Ou.1 Ou.2) (aP ())⟩
   ·show -(10 ^ 30)<=n * 10 ^ (22:Int).toNat % (2 * 10 ^ (30:Int).toNat+1) - 10 ^ 30;omega
   ·have e:(10:Int) ^ (30:Int).toNat=10 ^ 30:=rfl;rw[e]at hm1;show n * 10 ^ (22:Int).toNat % (2 * 10 ^ 30+1) - 10 ^ 30<=10 ^ 30;omega
  ·exact⟨⟨@_,bg (k:=4) @_⟩,@_,⟨@_,bg (k:=8) @_⟩,@_,_,_,rfl,(),bg (k:=10) (),h _ (D_ () () () ()) (aP ())⟩
structure vy(kd:Str)(size:Int)(cs:List Fr)(ds:List bu):Prop where
 fit:∀d∈ds,aQ d.1 d.2.1 size=true/\0 < d.2.1.2
 Sg:kd="chance"->(∀d∈ds,d.2.2=[τ d])/\ds.map τ=cs.take ds.length
 Xm:kd≠"chance"->∀d∈ds,d.2.2=[]
def vy.more{kd:Str}{size:Int}(h:vy kd size cs ds)(h1:aQ d.1 d.2.1 size=true)(h2:0 < d.2.1.2)(hl:ds.length < cs.length)(h3:kd="chance"->d.2.2=[cs[ds.length]])(h4:kd≠"chance"->d.2.2=[]):vy kd size cs (ds++[d]):=by
 refine⟨λe he=>?_,λhc=>⟨λe he=>?_,?_⟩,λhc e he=>?_⟩
 ·rcases aaV.mp he with he| he
  ·exact h.fit e he
  ·have:e=d:=by simpa using he
   subst this;exact⟨h1,h2⟩
 ·rcases aaV.mp he with he| he
  ·exact(h.Sg hc).1 e he
  ·have:e=d:=by simpa using he
   subst this;unfold τ;rw[h3 hc];rfl
 ·rw[aa7,(h.Sg hc).2,aah];show cs.take ds.length++[τ d]=cs.take (ds.length+1);rw[List.take_succ,aaa hl];unfold τ;rw[h3 hc];rfl
 ·rcases aaV.mp he with he| he
  ·exact h.Xm hc e he
  ·have:e=d:=by simpa using he
   subst this;exact h4 hc
def vy.good{kd:Str}{size:Int}(h:vy kd size cs ds)(hk:Γ kd=true\/kd="chance")(h1:1<=ds.length)(h6:ds.length<=6)(hl:ds.length=cs.length)(hc:au cs=true)(ho:Q8 cs):qW size (.ο kd ds):=by
 by_cases y8:kd="chance"
 ·subst y8;have e:ds.map τ=cs:=by rw[(h.Sg rfl).2,hl,List.take_length]
  exact Hf h1 h6 (λd hd=>(h.fit d hd).1) (h.Sg rfl).1 (by rw[e];exact hc) (by rw[e];exact ho) λd hd=>(h.fit d hd).2
 ·exact N_ (hk.resolve_right y8) h1 h6 (λd hd=>(h.fit d hd).1) λd hd=>⟨h.Xm y8 d hd,(h.fit d hd).2⟩
def RW(size:Int)(r:Rw):Prop:=qW size r/\(∀k ds,r= .ο k ds->Γ k=true->∀d∈ds,d.2.2=[])/\(∀p,r= .fin p->Red p)/\∀k ds,r= .ο k ds->∀d∈ds,Red d.2.1
def MZ{k:Str}(h:Γ k=true):k≠"chance":=λz=>by subst z;exact aaP h @_
def D7:DF:=λas M q _=>∃(ns:List Int) (a:Int) (kd:Str) (eQ:Nat) (size:Int),as=[.ir ns,.int a,.str kd,.int eQ,.int size]/\1<=a/\a<=150/\1<=eQ/\eQ<=6/\1<=size/\size<=12/\(Γ kd=true\/kd="chance")/\∀ds,ds.length=eQ->RW size (.ο kd ds)->q (.loc M.length) (M++[.lst (ds.map cZ)])
def cv:Ε ["_law_script","_law_at","_law_kind","_law_many","_law_size","_law_numbers","_law_most","_law_weights","_law_doors_here","_law_k","_law_door"] ["_law_script","_law_at","_law_kind","_law_many","_law_size"] (χ pY):=.of rfl
def Af(F:dh K "_law_doors" "_law_doors" pY f fd)(E:Ev K mg w Cm)(Υ:ax P w K mg base 2 "_law_number" ["_law_script","_law_k"] B_ bR bT){wX:Addr}{yI:FuncData}(i4:ax P w K mg base 2 "_law_pay" ["_law_number_here"] Jl wX yI){KL:Addr}{Je:FuncData}(pZ:ax P w K mg base 3 "_law_rest" ["_law_script","_law_k"] OG KL Je)(aF:ax P w K mg base 1 "_law_lowest" ["_law_top","_law_bottom"] HL cP cT):aw P w K mg base (cw P w) 4 f fd ["_law_script","_law_at","_law_kind","_law_many","_law_size"] (c7 K D7):=by
 refine F.dW cv (λds M q x h=>?_) (λaW A outer s H E' hr=>⟨_,(η (sv (i:=5) cv.nd rfl (Or.inl rfl) (ys:=["_law_script","_law_at"]) (af:=[0,1]) (.of cv rfl rfl rfl) (dF E.cU (Ο (jv 3) θ)) (λC s H fp=>(ae Υ hr (fW (P:=P) (w:=w)) (Ο (jv 1) (ι (bA (jv 2) (jv 0)) θ bb)))))
   (η (ω 6 cv.nd (Ι (oz (ι υ (ι (eV (gB υ υ) (jv 3)) θ bb) b_)) (eV (bN (eV (ae Υ hr ν (Ο (jv 0) (ι (oB (jv 1) υ) θ bb))) υ) υ) υ)))
   (η (iy (i:=7) cv.nd rfl (Or.inl rfl) (ys:=["_law_most","_law_size"]) (af:=[6,4]) (.of cv rfl rfl rfl) (bD (jv 5)) (λC s H fp=>(bA υ (bN (eV (jv 0) (jv 2)) (jv 1)))))
   (η (ω 8 cv.nd (kG θ))
   (η (ng (dF E.cU (Ο (jv 3) θ)) (av (i:=9) cv.nd rfl (Or.inl rfl)) bq (η (ω 10 cv.nd (c_ (ι (bN (Ι (jv 5) (jv 9)) (jv 4)) (ι (ae i4 hr ν (ι (ae pZ hr ν (Ο (jv 0) (ι (bA (jv 1) (jv 9)) θ bb))) θ aY)) θ aY) bb)))
   (η (kM (aM (cD hr (jv 2) gP) (μ (ω 10 cv.nd (bA (jv 10) (c_ (ι (ae aF hr ν (ι (Ι (jv 7) (jv 9)) (ι (O9 E.AA (Ο (jv 7) θ)) θ aY) bQ)) θ aY))))) Τ))
   (μ (eB (e_ (jv 8) (Ο (jv 10) θ)))))))
   (μ (Ζ (jv 8)))))))),λds M q x h=>?_⟩)
 ·have⟨ns,a,kd,eQ,size,rfl,_⟩:=h;rfl
 ·have⟨ns,a,kd,eQ,size,rfl,a0,a1,n1,n6,s1,s12,Pb,h⟩:=h;walk_at "vc";refine⟨⟨(),()⟩,by rw[gs];exact aax (show _<=6 by omega) @_,?_⟩;refine nC (f:=Dt.int) Nm _ [] (λ_ z=>(nomatch z)) (λx MJ q' hq=>?_) λxs Wa hx=>?_
  ·have⟨k,hk,rfl⟩:=k7 MJ;have hk6:(k:Int) < 6:=()
   exact⟨ns,a+(0+(k:Int)),rfl,(),(),λn hn _=>hq n hn⟩
  have Wa:xs.length=eQ:=by rw[Wa,gs];simp
  refine⟨p6,⟨(),bg (k:=10) ()⟩,gV,ns,a - 1,rfl,(),(),λn hn _=>?_⟩;refine⟨⟨@_,bg (k:=8) @_⟩,@_,⟨@_,bg (k:=4) @_⟩,?_⟩;obtain⟨most,em,m0,m1⟩:∃most:Int,nY [Dt.int 6,Dt.int (10 ^ (6:Int).toNat / (eQ:Int))] (n / 42 % 4 / 3)=some (.int most)/\0 < most/\eQ * most<=1000000:=by
   have⟨t1,t2⟩:=Ob n1 n6;have:n / 42 % 4 / 3=0\/n / 42 % 4 / 3=1:=()
   rcases this with e| e
   ·rw[e];exact⟨6,bP,@_,()⟩
   ·rw[e];exact⟨_,ak (j:=1) rfl,t1,t2⟩
  refine Η (d:=.lst [Dt.int 6,Dt.int (10 ^ (6:Int).toNat / (eQ:Int))]) rfl em ?_;show ft _ _ _ _ _;refine bC (i:=5) (d:=.lst (xs.map .int)) rfl rfl ⟨by rw[aae,Wa];exact aax n6 @_,?_⟩;refine fG (f:=λd=>match d with| .int n=>.int (1+n / size % most)| _=>.bU) trivial (λx MJ q' hq=>?_) ?_
  ·have⟨y,hy,rfl⟩:=aai.mp MJ;exact⟨⟨(),bg (k:=10) ()⟩,m0,hq⟩
  rw[aaW,show(xs.map Dt.int).map (λd=>match d with| .int n=>.int (1+n / size % most)| _=>.bU)=(xs.map λn=>1+n / size % most).map Dt.int by rw[aaN,aaN];rfl];generalize Wb:(xs.map λn=>1+n / size % most)=ws;have wl:ws.length=eQ:=by rw[<-Wb,aae,Wa]
  have w0:∀w∈ws,0 < w/\w<=most:=λw hw=>by rw[<-Wb]at hw;have⟨y,_,rfl⟩:=aai.mp hw;have e0:=aa8 (y / size) (show most≠0 by omega);have e1:=aa1 (y / size) m0;omega
  have hS:ws.sum<=1000000:=by have:=Jm λw X3=>(w0 w X3).2;rw[wl]at this;omega
  have my:ws≠[]:=λz=>by rw[z]at wl;simp at wl;omega
  have XH:=D6 (λw hw=>(w0 w hw).1) my;have⟨c1,c2⟩:=Cu (S:=ws.sum) rfl (λw X3=>(w0 w X3).1) my hS ();have cl:(ws.map λw=>aD w ws.sum).length=eQ:=by rw[aae,wl]
  have bS:g7 ws.sum:=bg (k:=21) ();clear Wb;refine⟨@_,⟨(),()⟩,?_⟩;refine gw (λzs ρ M'=>∃(n k:Nat) (ds:List bu) (o1 o2:Option Dt),zs=e6 k n/\k+n=eQ/\ds.length=k/\vy kd size (ws.map λw=>aD w ws.sum) ds/\(∀d∈ds,Red d.2.1)/\M'=M++[MO.lst (ds.map cZ)]/\ρ=[some (.ir ns),some (.int a),some (.str kd),some (.int eQ),some (.int size),some (.lst (xs.map .int)),some (.int most),some (.lst (ws.map .int)),some (.loc M.length),o1,o2]) (λx zs ρ M' hj gT=>?_) (λρ M' hj=>?_) _ _ _ ⟨eQ,0,[],none,none,by simp,by simp,rfl,⟨λ_ z=>(nomatch z),λ_=>⟨λ_ z=>(nomatch z),rfl⟩,λ_ _ z=>(nomatch z)⟩,λ_ z=>(nomatch z),rfl,rfl⟩
  ·have⟨n,k,ds,o1,o2,ex,S_,hl,hd,VN,rfl,rfl⟩:=hj;have⟨m,rfl,rfl,rfl⟩:=fF ex;have k6:(k:Int) < 6:=()
   have kx:k < xs.length:=()
   have kw:k < ws.length:=()
   have Bp:(M++[MO.lst (ds.map cZ)])[M.length]? =some (.lst (ds.map cZ)):=by simp
   have setM:∀y:bu,(M++[MO.lst (ds.map cZ)]).set M.length (.lst (ds.map cZ++[cZ y]))=M++[.lst ((ds++[y]).map cZ)]:=λy=>by simp
   have lt:(ds.map cZ).length < sizeLine:=by rw[aae,hl];exact aa3 (show k<=12 by omega) @_
   walk_at "vc";refine(Η (d:=.lst (xs.map .int)) rfl (j8 kx) ?_:cI (.lst (xs.map .int)) (.int (k:Int)) _ _);refine⟨(),ns,_,rfl,(),(),λr qI=>⟨r,rfl,qI,λp hp vk=>⟨gV,?_⟩⟩⟩;have OR:=vk.pos;have NM:aQ (xs[k] % size) p size=true:=M9 (aa8 _ ()) (aa1 _ ()) hp;refine⟨λρ M2=>M2=M++[MO.lst (ds.map cZ)]/\∃d:bu,(aQ d.1 d.2.1 size=true/\0 < d.2.1.2/\(kd="chance"->d.2.2=[aD ws[k] ws.sum])/\(kd≠"chance"->d.2.2=[])/\Red d.2.1)/\ρ=[some (.ir ns),some (.int a),some (.str kd),some (.int eQ),some (.int size),some (.lst (xs.map .int)),some (.int most),some (.lst (ws.map .int)),some (.loc M.length),some (.int (k:Int)),some (cZ d)],⟨λhc=>?_,λhc=>?_⟩,?_⟩
   ·have hc:kd="chance":=aao hc;walk_at "vc";refine(Η (d:=.lst (ws.map .int)) rfl (j8 kw) ?_:cI (.lst (ws.map .int)) (.int (k:Int)) _ _);exact⟨ws,rfl,⟨_,_,rfl⟩,_,_,rfl,XH,bS,(by show 1<=sizeLine;decide),⟨by simp,by show 3<=sizeLine;decide⟩,rfl,(xs[k] % size,p,[aD ws[k] ws.sum]),⟨NM,OR,λ_=>rfl,λz=>absurd hc z,vk⟩,rfl⟩
   ·have hc:kd≠"chance":=aa4 hc;exact⟨rfl,(xs[k] % size,p,[]),⟨NM,OR,λz=>aaP z hc,λ_=>rfl,vk⟩,rfl⟩
   ·rintro ρ2 M2 ⟨rfl,d,⟨d1,d2,d3,d4,d5⟩,rfl⟩;refine⟨⟨M.length,_,rfl,Bp⟩,M.length,_,_,rfl,rfl,Bp,lt,?_⟩;rw[setM d];refine gT _ _ ⟨m,k+1,ds++[d],_,_,by simp,(),by simp[hl],hd.more d1 d2 (by rw[cl];omega) (λz=>?_) d4,λy hy=>?_,rfl,rfl⟩
    ·rw[d3 z];simp[hl]
    ·rcases aaV.mp hy with z| z
     ·exact VN y z
     ·rw[abq.mp z];exact d5
  ·have⟨n,k,ds,o1,o2,ex,S_,hl,hd,VN,rfl,rfl⟩:=hj;have hn:n=0:=by have:=aa2 List.length ex;unfold e6 at this;simpa using this.symm
   exact h ds () ⟨hd.good Pb () () (by rw[cl];omega) c1 c2,λk' qx e hk d ML=>by cases e;exact hd.Xm (MZ hk) d ML,λ_ e=>(nomatch e),λk' qx e d ML=>by cases e;exact VN d ML⟩
def Fd:DF:=λas M q _=>∃n:Int,as=[.int n]/\∀p,ay p=true->q (Λ p) M
def sx:Ε ["_law_number_here","_law_bottom"] ["_law_number_here"] (χ pM):=.of rfl
def AI(F:dh K "_law_share" "_law_share" pM f fd)(E:Ev K mg w Cm)(aF:ax P w K mg base 1 "_law_lowest" ["_law_top","_law_bottom"] HL cP cT):aw P w K mg base (cw P w) 2 f fd ["_law_number_here"] (c7 K Fd):=by
 refine F.dW sx (λds M q x h=>?_) (λaW A outer s H E' hr=>⟨_,(η (ω 1 sx.nd (Ι (oz (ι υ (ι (bA υ (bN (jv 0) υ)) (ι υ θ b_) bb) b_)) (bN (eV (jv 0) υ) υ)))
   (μ (Ζ (ae aF hr ν (ι (bN (eV (jv 0) υ) (jv 1)) (Ο (jv 1) θ) bb))))),λds M q x h=>?_⟩)
 ·have⟨n,rfl,_⟩:=h;rfl
 ·have⟨n,rfl,h⟩:=h;refine⟨@_,(by show 3<=sizeLine;decide),⟨@_,bg (k:=11) @_⟩,@_,?_⟩;obtain⟨b,eb,b0,b1⟩:∃b:Int,nY [Dt.int 2,.int (1+n % 1000),.int 3] (n / 1000 % 3)=some (.int b)/\0 < b/\b<=1000:=by
   have:n / 1000 % 3=0\/n / 1000 % 3=1\/n / 1000 % 3=2:=()
   rcases this with e| e| e <;> rw[e]
   ·exact⟨_,bP,@_,@_⟩
   ·exact⟨_,ak (j:=1) rfl,(),()⟩
   ·exact⟨_,ak (j:=2) rfl,@_,@_⟩
  refine Η rfl eb ?_;exact⟨⟨@_,bg (k:=13) @_⟩,b0,_,_,rfl,b0,bg (k:=11) (),h _ (BY (aa8 _ ()) (aa1 _ b0) b1)⟩
def Le{n:Int}:∃kd:Str,nY [Dt.str "one",Dt.str "chance",Dt.str "other",Dt.str "end",Dt.str "chance",Dt.str "one",Dt.str "other"] (n % 7)=some (.str kd)/\(Γ kd=true\/kd="chance"\/kd="end"):=by
 have:n % 7=0\/n % 7=1\/n % 7=2\/n % 7=3\/n % 7=4\/n % 7=5\/n % 7=6:=()
 rcases this with e| e| e| e| e| e| e <;> rw[e]
 ·exact⟨_,bP,.inl @_⟩
 ·exact⟨_,ak (j:=1) rfl,.inr (.inl rfl)⟩
 ·exact⟨_,ak (j:=2) rfl,.inl @_⟩
 ·exact⟨_,ak (j:=3) rfl,.inr (.inr rfl)⟩
 ·exact⟨_,ak (j:=4) rfl,.inr (.inl rfl)⟩
 ·exact⟨_,ak (j:=5) rfl,.inl @_⟩
 ·exact⟨_,ak (j:=6) rfl,.inl @_⟩
def qF(r:Rw):Bool:=Γ (kindOf r)
def KN:Dt->Bool
 | .tup (.str k::_)=>Γ k
 | _=>false
def K5(r:Rw):KN (aL r)=Γ (kindOf r):=by cases r <;> rfl
def Pj(rs:List Rw):(rs.map aL).filter KN=(rs.filter qF).map aL:=by
 rw[List.filter_map]
 congr 1
 exact aa2 (λf=>rs.filter f) (funext K5)
def rA{k:Nat}{xs:List Dt}(h:M[k]? =some (MO.lst xs)):j7 M (.loc k)=some (xs,λM':Ms=>M'[k]? =some (MO.lst xs)):=by show(match M[k]? with| some (MO.lst xs)=>some (xs,λM':Ms=>M'[k]? =some (MO.lst xs))| _=>none)=_;rw[h]
def nH(rs:List Rw):Nat:=(rs.filter qF).length
def JL(rs:List Rw)(r:Rw):nH (rs++[r])=nH rs+if qF r then 1 else 0:=by
 unfold nH;rw[List.filter_append,aah];cases h:qF r with
 | true=>rw[ab9 h];rfl
 | false=>rw[aca (by rw[h];decide)];rfl
def sS(rs:List Rw):Prop:=kZ rs<=2 ^ (min 4 (nH rs))
def sS.Fi(h:sS rs)(hr:qF r=false):sS (rs++[r]):=by unfold sS at h⊢;rw[qe,JL,hr];unfold cH;have hr:Γ (kindOf r)=false:=hr;rw[hr,aaC @_,Nat.mul_one];exact h
def sS.hand{k:Str}(h:sS rs)(hk:Γ k=true)(hl:ds.length<=1+if nH rs < 4 then 1 else 0):sS (rs++[.ο k ds]):=by
 unfold sS at h⊢;have hr:qF (.ο k ds)=true:=hk;rw[qe,JL,hr,aaz rfl];have e:cH (kindOf (.ο k ds)) (Ν (.ο k ds)).length=ds.length:=by show(if Γ k=true then ds.length else 1)=_;rw[aaz hk]
 rw[e];by_cases c:nH rs < 4
 ·rw[aaz c]at hl;have m1:min 4 (nH rs+1)=min 4 (nH rs)+1:=()
  rw[m1,Nat.pow_succ];exact Nat.mul_le_mul h hl
 ·rw[aaC c]at hl;have m1:min 4 (nH rs+1)=min 4 (nH rs):=()
  rw[m1];have:=Nat.mul_le_mul h hl;omega
def sS.le(h:sS rs):kZ rs<=16:=aax h (by
 have:min 4 (nH rs)<=4:=Nat.min_le_left _ _
 exact abd @_ this)
def Eh:DF:=λas M q _=>∃ns:List Int,as=[.ir ns,.int 6,.int 5]/\∀γ:List Rw,1<=γ.length->γ.length<=6->(∀r∈γ,RW γ.length r)->(γ.length<=4\/∀k ds,Rw.ο k ds∈γ->ds.length<=4)->(Gr ns 33 % 2=1->kZ γ<=16)->q (.loc M.length) (M++[.lst (γ.map aL)])
def cE:Ε ["_law_script","_law_most","_law_wide","_law_size","_law_rows_here","_law_place","_law_at","_law_first","_law_kind","_law_many"] ["_law_script","_law_most","_law_wide"] (χ tD):=.of rfl
def BP   (F:dh K "_law_rows" "_law_rows" tD f fd) (E:Ev K mg w Cm)   (Υ:ax P w K mg base 2 "_law_number" ["_law_script","_law_k"] B_ bR bT) {wX:Addr} {yI:FuncData} (i4:ax P w K mg base 2 "_law_pay" ["_law_number_here"] Jl wX yI) {FK:Addr} {FX:FuncData} (mE:ax P w K mg base 4 "_law_doors" ["_law_script","_law_at","_law_kind","_law_many","_law_size"] D7 FK FX):aw P w K mg base (cw P w) 5 f fd ["_law_script","_law_most","_law_wide"] (c7 K Eh):=by
 refine F.dW cE (λds M q x h=>?_) (λaW A outer s H E' hr=>⟨_,(η (ω 3 cE.nd (bA υ (bN (ae Υ hr ν (Ο (jv 0) (ι υ θ b_))) (jv 1))))
   (η (kM (ω 2 cE.nd (OI (SR (jv 3) υ) υ (jv 2))))
   (η (ω 4 cE.nd (kG θ))
   (η (ng (dF E.cU (Ο (jv 3) θ)) (av (i:=5) cE.nd rfl (Or.inl rfl)) bq (η (ω 6 cE.nd (bA υ (aI (jv 2) (jv 5))))
   (η (ω 7 cE.nd (ae Υ hr ν (Ο (jv 0) (Ο (jv 6) θ))))
   (η (ω 8 cE.nd (Ι (jI 3 (d:=.lst [.str "one",.str "chance",.str "other",.str "end",.str "chance",.str "one",.str "other"]) (by rfl)) (bN (jv 7) υ)))
   (μ (aM (cD hr (jv 8) gP) (μ (eB (e_ (jv 4) (ι (c_ (ι gP (ι (ae i4 hr ν (ι (eV (jv 7) υ) θ bb)) θ aY) b_)) θ wc)))) (η (ω 9 cE.nd (bA υ (bN (eV (jv 7) υ) (oB (jv 2) υ))))
   (η (kM (aM (JW.jt (C1 (tQ hr (jv 8) gP) (xt (cD hr (bN (ae Υ hr ν (Ο (jv 0) (ι υ θ b_))) υ) υ)))) (μ (ω 9 cE.nd (SA E.DV (Ο (jv 9) (ι (bA υ (T7 E.Fj (ι (BV (dU E.cG (ι (zG (ys:=[]) (af:=[]) (.of cE rfl rfl rfl) (bD (jv 4)) (λC s H fp=>(JW.jt (El (cD hr (Ι (jv 0) υ) gP) (xB (cD hr (Ι (jv 0) υ) gP))))) (λC s H fp=>(jv 0))) θ)) υ) θ O0))) θ bb))))) Τ))
   (μ (eB (e_ (jv 4) (ι (c_ (Ο (jv 8) (ι (dc (ae mE hr ν (Ο (jv 0) (ι (bA (jv 6) υ) (Ο (jv 8) (Ο (jv 9) (Ο (jv 3) θ))) bb)))) θ aY))) θ wc))))))))))))
   (μ (Ζ (jv 4))))))),λds M q x h=>?_⟩)
 ·have⟨ns,rfl,_⟩:=h;rfl
 ·have⟨ns,rfl,h⟩:=h;refine⟨ns,0,rfl,@_,@_,λn0 hn0 _=>⟨@_,?_⟩⟩;obtain⟨sz,hz,z1,z6⟩:∃sz:Nat,1+n0 % 6=(sz:Int)/\1<=sz/\sz<=6:=⟨(1+n0 % 6).toNat,(),(),()⟩;dsimp only[uP];rw[hz];refine⟨λρ M'=>M'=M/\∃wd:Int,(wd=5\/wd=7/\sz<=4)/\ρ=[some (.ir ns),some (.int 6),some (.int wd),some (.int sz),none,none,none,none,none,none],⟨λz=>⟨rfl,7,.inr ⟨rfl,by have:=aao z;omega⟩,rfl⟩,λ_=>⟨rfl,5,.inl rfl,rfl⟩⟩,?_⟩;rintro ρ' M' ⟨rfl,wd,hwd,rfl⟩;refine⟨@_,⟨(),()⟩,?_⟩;refine gw (λzs ρ M2=>∃(n k:Nat) (rs:List Rw) (o1 o2 o3 o4 o5:Option Dt),zs=e6 k n/\k+n=sz/\rs.length=k/\(∀r∈rs,RW sz r)/\(wd=5->∀k ds,Rw.ο k ds∈rs->ds.length<=4)/\(Gr ns 33 % 2=1->sS rs)/\M2=M'++[MO.lst (rs.map aL)]/\ρ=[some (.ir ns),some (.int 6),some (.int wd),some (.int sz),some (.loc M'.length),o1,o2,o3,o4,o5]) (λx zs ρ M2 hj gT=>?_) (λρ M2 hj=>?_) _ _ _ ⟨sz,0,[],none,none,none,none,none,by simp,by simp,rfl,λ_ z=>(nomatch z),λ_ _ _ z=>(nomatch z),λ_=>Nat.le_refl _,rfl,rfl⟩
  ·have⟨n,k,rs,o1,o2,o3,o4,o5,ex,S_,hl,hd,V3,Sw,rfl,rfl⟩:=hj;have⟨m,rfl,rfl,rfl⟩:=fF ex;have k6:(k:Int) < 6:=()
   have hat:0<=2+wd * (k:Int)/\2+wd * (k:Int)<=100:=by rcases hwd with rfl| ⟨rfl,_⟩ <;> omega
   have bw:g7 wd:=bg (k:=10) ();have Bp:(M'++[MO.lst (rs.map aL)])[M'.length]? =some (.lst (rs.map aL)):=by simp
   have setM:∀y:Rw,(M'++[MO.lst (rs.map aL)]).set M'.length (.lst (rs.map aL++[aL y]))=M'++[.lst ((rs++[y]).map aL)]:=λy=>by simp
   have lt:(rs.map aL).length < sizeLine:=by rw[aae,hl];exact aa3 (show k<=12 by omega) @_
   have first:∃k' xs',Dt.loc M'.length= .loc k'/\(M'++[MO.lst (rs.map aL)])[k']? =some (.lst xs'):=⟨_,_,rfl,Bp⟩
   have more:∀y,RW sz y->∀r∈rs++[y],RW sz r:=λy hy r hr=>by
    rcases aaV.mp hr with hr| hr
    ·exact hd r hr
    ·have:r=y:=by simpa using hr
     rw[this];exact hy
   refine⟨⟨bw,bg (k:=10) ()⟩,ns,_,rfl,hat.1,(),λf hf _=>⟨@_,?_⟩⟩;have⟨kd,ek,Pb⟩:=Le (n:=f);refine Η rfl ek ?_;refine⟨λz=>?_,λz=>?_⟩
   ·have z:kd="end":=aao z;refine⟨first,⟨@_,bg (k:=4) @_⟩,_,rfl,Jf hf @_,λp hp vk=>⟨gV,M'.length,_,_,rfl,rfl,Bp,lt,?_⟩⟩;refine gT _ _ ⟨m,k+1,rs++[Rw.fin p],_,_,_,_,_,by simp,(),by simp[hl],more (.fin p) ⟨⟨vk.pos,hp⟩,λ_ _ e=>(nomatch e),λ_ e=>by cases e;exact vk,λ_ _ e=>(nomatch e)⟩,λw5 k' qx hm=>?_,λw1=>(Sw w1).Fi rfl,setM (.fin p),rfl⟩;rcases aaV.mp hm with hm| hm
    ·exact V3 w5 k' qx hm
    ·exact(nomatch abq.mp hm)
   ·have z:kd≠"end":=aa4 z;have Pb:Γ kd=true\/kd="chance":=by
     rcases Pb with hk| hk| hk
     ·exact .inl hk
     ·exact .inr hk
     ·exact aaP hk z
    have w1:0 < wd - 1:=()
    have Xx:=aa8 (f / 7) (show wd - 1≠0 by omega);have hm1:=aa1 (f / 7) w1;obtain⟨mn,emn,W0,mn6,mn4⟩:∃mn:Nat,1+f / 7 % (wd - 1)=(mn:Int)/\1<=mn/\mn<=6/\(wd=5->mn<=4):=⟨(1+f / 7 % (wd - 1)).toNat,(),(),(),λe=>()⟩;refine⟨⟨@_,bg (k:=4) @_⟩,w1,?_⟩;dsimp only[uP];rw[emn];refine⟨λρ M2=>M2=M'++[MO.lst (rs.map aL)]/\∃mm:Nat,1<=mm/\mm<=mn/\(Gr ns 33 % 2=1->Γ kd=true->mm<=1+if nH rs < 4 then 1 else 0)/\ρ=[some (.ir ns),some (.int 6),some (.int wd),some (.int sz),some (.loc M'.length),some (.int (k:Int)),some (.int (2+wd * (k:Int))),some (.int f),some (.str kd),some (.int mm)],?_,?_⟩
    ·walk_at "vc";refine⟨λy=>⟨ns,33,rfl,@_,@_,λn33 _ e33=>⟨@_,λu=>?_,λu=>?_⟩⟩,λy=>?_⟩
     ·show ft _ _ _ _ _;refine bC (i:=4) (d:=.loc M'.length) rfl (rA Bp) ⟨by rw[aae,hl];exact aax (show k<=12 by omega) @_,?_⟩;refine e7 Bp KN (λx=>x) _ _ (λx hx q' p' h1 h2=>?_) ?_
      ·have⟨r,hr,rfl⟩:=aai.mp hx;obtain⟨e,er⟩:∃e,aL r= .tup [.str (kindOf r),e]:=by
        cases r with
        | fin p=>exact⟨_,rfl⟩
        | ο k ds=>exact⟨_,rfl⟩
       rw[K5 r]at h1 h2;rw[er]at h1⊢;generalize kindOf r=kk at *
       have key:cI (.tup [.str kk,e]) (.int 0) (M'++[MO.lst (rs.map aL)]) (λd M1=>zJ d (.str "one") M1 (λd M2=>match d with| .bl c=>((c=true->q' (.tup [.str kk,e]) M2)/\(c=false->cI (.tup [.str kk,e]) (.int 0) M2 (λd M3=>zJ d (.str "other") M3 (λd M4=>match d with| .bl c=>(match c with| true=>q' (.tup [.str kk,e]) M4| false=>p' M4)| _=>False))))| _=>False)):=by
        refine Η (d:=.tup [.str kk,e]) rfl bP ?_;refine⟨λa=>h1 ?_,λa=>?_⟩
        ·unfold Γ;rw[Bool.or_eq_true,beq_iff_eq];exact .inl (of_decide_eq_true a)
        ·refine Η (d:=.tup [.str kk,e]) rfl bP ?_;have a:kk≠"one":=aa4 a;show match decide (kk="other") with| true=>_| false=>_
         by_cases b:kk="other"
         ·rw[aaI b];exact h1 (by unfold Γ;rw[Bool.or_eq_true,beq_iff_eq,beq_iff_eq];exact .inr b)
         ·rw[aaG b];refine h2 ?_;unfold Γ;rw[beq_eq_false_iff_ne.mpr a,beq_eq_false_iff_ne.mpr b];rfl
       exact key
      ·rw[aaW,List.map_id',Pj rs];refine(aO (d:=.lst ((rs.filter qF).map aL)) (xs:=(rs.filter qF).map aL) rfl ?_:iL [.lst ((rs.filter qF).map aL)] _ _);rw[aae];obtain⟨c,ec,c1⟩:∃c:Nat,(1:Int)+(if decide (((rs.filter qF).length:Int) < 4)=true then 1 else 0)=(c:Int)/\c=1+if nH rs < 4 then 1 else 0:=by
        by_cases z:nH rs < 4
        ·have:((rs.filter qF).length:Int) < 4:=by unfold nH at z;omega
         rw[aaI this,aaz rfl,aaz z];exact⟨2,rfl,rfl⟩
        ·have:¬((rs.filter qF).length:Int) < 4:=by unfold nH at z;omega
         rw[aaG this,aaC @_,aaC z];exact⟨1,rfl,rfl⟩
       dsimp only[UT,Mf,uP];rw[ec];show _/\∃mm:Nat,_;by_cases z:(c:Int) < mn
       ·refine⟨rfl,c,(),(),λ_ _=>(),?_⟩;rw[aaz z]
       ·refine⟨rfl,mn,W0,aaj _,λ_ _=>(),?_⟩;rw[aaC z]
     ·refine⟨rfl,mn,W0,aaj _,λw1=>?_,rfl⟩;have u:¬n33 % 2=1:=aa4 u;rw[e33]at u;exact aaP w1 u
     ·refine⟨nofun,λ_=>⟨rfl,mn,W0,aaj _,λ_ hk=>?_,rfl⟩⟩;have y:kd="chance":=by simpa using y
      subst y;exact aaP hk @_
    rintro ρ2 M2 ⟨rfl,mm,mm1,mmn,mmf,rfl⟩;refine⟨first,ns,_,kd,mm,sz,rfl,(),(),mm1,(),(),(),Pb,λds dl hds=>dX (gM ds) ?_⟩;refine⟨gV,M'.length,_,_,rfl,rfl,Bp,lt,?_⟩;refine gT _ _ ⟨m,k+1,rs++[Rw.ο kd ds],_,_,_,_,_,by simp,(),by simp[hl],more (.ο kd ds) hds,λw5 k' qx hm=>?_,λw1=>?_,setM (.ο kd ds),rfl⟩
    ·rcases aaV.mp hm with hm| hm
     ·exact V3 w5 k' qx hm
     ·have⟨_,rfl⟩:=Rw.ο.inj (abq.mp hm);have:=mn4 w5;omega
    ·rcases Pb with hk| hk
     ·exact(Sw w1).hand hk (by rw[dl];exact mmf w1 hk)
     ·subst hk;exact(Sw w1).Fi rfl
  ·have⟨n,k,rs,o1,o2,o3,o4,o5,ex,S_,hl,hd,V3,Sw,rfl,rfl⟩:=hj;have hn:n=0:=by have:=aa2 List.length ex;unfold e6 at this;simpa using this.symm
   have e:rs.length=sz:=()
   refine h rs () () (by rw[e];exact hd) ?_ λw1=>(Sw w1).le;rcases hwd with w5| ⟨_,w4⟩
   ·exact .inr (V3 w5)
   ·exact .inl ()
def wg:Rw->List Fr
 | .fin p=>[p]
 | .ο _ ds=>ds.map (·.2.1)
def lJ:List Rw->List Fr
 | []=>[]
 | r::rs=>wg r++lJ rs
def qU{r:Rw}{p:Fr}(hp:p∈wg r):∀{γ:List Rw},r∈γ->p∈lJ γ
 | s::rs,h=>by
  rcases aaL.mp h with e| e
  ·subst e;exact aco _ hp
  ·exact aaH _ (qU hp e)
def zd:∀{γ:List Rw},(∀r∈γ,(wg r).length<=6)->(lJ γ).length<=6 * γ.length
 | [],_=>aaj _
 | r::rs,h=>by have i:=zd λs hs=>h s (aac _ hs);have:=h r aad;show(wg r++lJ rs).length<=_;rw[aah,aau];omega
def A5{Q:Fr->Prop}:∀{γ:List Rw},(∀r∈γ,∀p∈wg r,Q p)->∀p∈lJ γ,Q p
 | [],_,p,hp=>by cases hp
 | r::rs,h,p,hp=>by
  rcases aaV.mp hp with z| z
  ·exact h r aad p z
  ·exact A5 (λs hs=>h s (aac _ hs)) p z
def ju(v:Rat)(E:Int):Prop:=∃N:Int,v * (E:Rat)=(N:Rat)
def eE(h:0 < p.2):val p * (p.2:Rat)=p.1:=by
 have:=aR (show p.2≠0 by omega);unfold val;generalize (p.1:Rat)=x at *
 generalize (p.2:Rat)=y at *
 grind
def MY(h0:0 < p.2)(h:fh p E):ju (val p) E:=by
 have⟨N,e⟩:=h;refine⟨N,?_⟩;have c:=aR (show p.2≠0 by omega);have m:=eE h0;have e:(p.1:Rat) * (E:Rat)=(N:Rat) * (p.2:Rat):=by rw[<-aaK,<-aaK,e]
 generalize (p.1:Rat)=x at *
 generalize (p.2:Rat)=y at *
 generalize (E:Rat)=z at *
 generalize (N:Rat)=u at *
 generalize val p=v at *
 have:(v * z - u) * y=0:=by grind
 grind
def E5(h0:0 < p.2)(h:ju (val p) E):fh p E:=by
 have⟨N,e⟩:=h;refine⟨N,?_⟩;have m:=eE h0;have:(p.1:Rat) * (E:Rat)=(N:Rat) * (p.2:Rat):=by
  generalize (p.1:Rat)=x at *
  generalize (p.2:Rat)=y at *
  generalize (E:Rat)=z at *
  generalize (N:Rat)=u at *
  grind
 rw[<-aaK,<-aaK]at this;exact Rat.intCast_inj.mp this
def ju.add{u:Rat}(h:ju v E)(h':ju u E):ju (v+u) E:=by have⟨N,e⟩:=h;have⟨N',e'⟩:=h';exact⟨N+N',by rw[Rat.intCast_add];grind⟩
def ju.sub{u:Rat}(h:ju v E)(h':ju u E):ju (v - u) E:=by have⟨N,e⟩:=h;have⟨N',e'⟩:=h';exact⟨N - N',by rw[Rat.intCast_sub];grind⟩
def ju.mul{u:Rat}{F:Int}(h:ju v E)(h':ju u F):ju (v * u) (E * F):=by have⟨N,e⟩:=h;have⟨N',e'⟩:=h';exact⟨N * N',by rw[Rat.intCast_mul,Rat.intCast_mul,<-e,<-e'];grind⟩
def ju.more(h:ju v E)(k:Int):ju v (E * k):=by have⟨N,e⟩:=h;exact⟨N * k,by rw[Rat.intCast_mul,Rat.intCast_mul,<-e];grind⟩
def ju.less(h:ju v E)(k:Int):ju v (k * E):=by rw[aa0];exact h.more k
def jg(h:0 < p.2):ju (val p) p.2:=⟨p.1,eE h⟩
def xA{x y a b:Rat}(h:ab x<=a)(h':ab y<=b):ab (x+y)<=a+b:=by have:=eh.mp h;have:=eh.mp h';exact eh.mpr ⟨by grind,by grind⟩
def Q2{x y a b:Rat}(h:ab x<=a)(h':ab y<=b):ab (x - y)<=a+b:=by have:=eh.mp h;have:=eh.mp h';exact eh.mpr ⟨by grind,by grind⟩
def DY{s x a:Rat}(s0:0<=s)(s1:s<=1)(h:ab x<=a):ab (s * x)<=a:=by have⟨h1,h2⟩:=eh.mp h;have a0:0<=a:=acB (Nn x) h;have m1:=aaR h1 s0;have m2:=aaR h2 s0;have m3:=abj s1 a0;exact eh.mpr ⟨by grind,by grind⟩
def yk{f:Fr}{k:Nat}(r:Red f)(h:ju (val f) E)(e0:0 < E)(e1:E < 2 ^ k)(a:ab (val f)<=(C:Rat))(c0:0<=C)(c1:C < 2 ^ m):Sz (k+m) f:=vI r (E5 r.pos h) e0 e1 (Fb r.pos a) c0 c1
def jY{s:Fr}(h:ay s=true):0 < s.2/\s.2<=1000/\0<=val s/\val s<=1:=by
 have⟨s0,s1,s2⟩:=ub h;have m:=eE s0;have p:(0:Rat) < (s.2:Rat):=aaO.mpr s0;have a:(0:Rat)<=(s.1:Rat):=aay.mpr s1.1;have b:(s.1:Rat)<=(s.2:Rat):=aay.mpr s1.2;refine⟨s0,s2,?_,?_⟩
 ·by_cases z:0<=val s
  ·exact z
  ·have:=Rat.mul_pos (show 0 < -val s by grind) p;grind
 ·by_cases z:val s<=1
  ·exact z
  ·have:=Rat.mul_pos (show 0 < val s - 1 by grind) p;grind
def cW:Int:=6000000000000000000000000000000000
structure Gb(ε:Fr)(γ:List Rw)(tb:List Fr)(N:Int):Prop where
 fl:Cg ε γ tb
 red:∀i,i < γ.length->Red (tb.getD i (0,1))
 n0:0 < N
 n1:N < bB γ.length
 has:∀i,i < γ.length->ju (val (tb.getD i (0,1))) N
 abs:∀i,i < γ.length->ab (val (tb.getD i (0,1)))<=(cW:Rat)
 fin:∀i p,γ[i]? =some (.fin p)->val (tb.getD i (0,1))=val p
def Gb.wth(fw:FW ε γ (10 ^ 36) (10 ^ 30))(dk:iw γ Θ)(h:mh ε γ Θ tb):∃N,Gb ε γ tb N:=by
 have b1:1<=ma (10 ^ 36) (10 ^ 30):=@_
 have S:=fw.sys dk b1;have⟨_,_,_,_,_,s3⟩:=fw.sh;have⟨N,n0,n1,hN⟩:=h.cb;have ab:=S.abs h.tab s3 (c:=((6 * 10 ^ 30:Int):Rat)) λi hi=>by have⟨E,p,_⟩:=fw.GA dk (rw_at hi);exact qS p.gn.red.pos p.gn.ab
 refine⟨N,h.V6 fw dk b1,h.tab.red,n0,n1,λi hi=>MY (h.tab.red i hi).pos (hN i hi),λi hi=>?_,λi p hi=>h.fin hi⟩;have:=ab i hi;rw[show(cW:Rat)=((1000:Int):Rat) * ((6 * 10 ^ 30:Int):Rat) by rw[<-aaK];rfl];exact this
def pB(γ:List Rw):Int:=lL ((lJ γ).map (·.2))
def lQ(pl:k8 ε γ):∀p∈lJ γ,0 < p.2/\p.2<=1000000/\c8 p (10 ^ 30):=A5 λr hr p hp=>by
 cases r with
 | fin e=>
  have:p=e:=by simpa [wg] using hp
  subst this;have⟨e0,ef⟩:=pl.row _ hr;have⟨a,b⟩:=lR ef e0;exact⟨e0,b,a⟩
 | ο k ds=>
  have⟨d,hd,rfl⟩:=aai.mp hp;have⟨f,p0⟩:=(bI pl hr).py d hd;have⟨a,b⟩:=lR f p0;exact⟨p0,b,a⟩
def Ui(pl:k8 ε γ)(l6:γ.length<=6):0 < pB γ/\pB γ < 2 ^ 720:=by
 have al:∀a∈(lJ γ).map (·.2),0 < a/\a<=1000000:=λa ha=>by have⟨p,hp,rfl⟩:=aai.mp ha;exact⟨(lQ pl p hp).1,(lQ pl p hp).2.1⟩
 refine⟨kD λa ha=>(al a ha).1,?_⟩;have:=rB al;have len:(lJ γ).length<=36:=by
  have:=zd (γ:=γ) λr hr=>by
   cases r with
   | fin e=>exact(show 1<=6 by decide)
   | ο k ds=>
    show(ds.map _).length<=6;rw[aae];exact(bI pl hr).l6
  omega
 rw[aae]at this;have l:(1000000:Int) ^ (lJ γ).length<=1000000 ^ 36:=by have h:=abd (show 0 < 1000000 by decide) len;have:((1000000 ^ (lJ γ).length:Nat):Int)<=((1000000 ^ 36:Nat):Int):=Int.ofNat_le.mpr h;rw[abz,abz]at this;exact this
 exact aaE (abc this l) @_
def BD(pl:k8 ε γ)(hp:p∈lJ γ):ju (val p) (pB γ):=by have⟨c,e⟩:=nN (l:=(lJ γ).map (·.2)) (aai.mpr ⟨p,hp,rfl⟩);have:=(jg (lQ pl p hp).1).more c;have e:pB γ=p.2 * c:=e;rw[e];exact this
def BW(h:0 < p.2)(a:c8 p (10 ^ 30)):ab (val p)<=((10 ^ 30:Int):Rat):=qS h a
def cB:Int:=13000000000000000000000000000000000
section
variable{N:Int}{k:Str}
def Gb.to(t:Gb ε γ tb N)(pl:k8 ε γ)(hi:γ[i]? =some (.ο k ds))(hd:d∈ds):val (aa ε tb d i)=val d.2.1+val ε * val (tb.getD d.1.toNat (0,1)) - val (tb.getD i (0,1))/\Red (aa ε tb d i)/\d.1.toNat < γ.length/\0 < d.2.1.2/\d.2.1.2<=1000000/\c8 d.2.1 (10 ^ 30)/\d.2.1∈lJ γ:=by have⟨a,b⟩:=zq t.fl hi hd;have rm:=aak hi;have⟨t0,t1⟩:=(bI pl rm).to d hd;have pm:d.2.1∈lJ γ:=qU (r:=.ο k ds) (aai.mpr ⟨d,hd,rfl⟩) rm;have⟨p0,p1,p2⟩:=lQ pl _ pm;exact⟨a,b,(),p0,p1,p2,pm⟩
def Gb.FE(t:Gb ε γ tb N)(pl:k8 ε γ)(hi:γ[i]? =some (.ο k ds))(hd:d∈ds):ju (val (aa ε tb d i)) (d.2.1.2 * (ε.2 * N))/\ju (val (aa ε tb d i)) (pB γ * (ε.2 * N))/\ab (val (aa ε tb d i))<=(cB:Rat):=by
 have⟨e,r,tl,p0,p1,pa,pm⟩:=t.to pl hi hd;have il:=(aaf.mp hi).1;have⟨s0,s1,s2,s3⟩:=jY pl.sh;have h1:=t.has _ tl;have h2:=t.has i il;have sh:=(jg s0).mul h1;rw[e];refine⟨?_,?_,?_⟩
 ·exact(((jg p0).more _).add (sh.less _)).sub ((h2.less _).less _)
 ·exact(((BD pl pm).more _).add (sh.less _)).sub ((h2.less _).less _)
 ·have a1:=BW p0 pa;have a2:=DY s2 s3 (t.abs _ tl);have a3:=t.abs i il;have:=Q2 (xA a1 a2) a3;refine acB this ?_;rw[<-ab3,<-ab3];exact aay.mpr @_
end
structure R7(γ:List Rw)(n:Nat)(tb:List Fr):Prop where
 len:tb.length=n
 num:∀t∈tb,Red t/\t.2<=1000000/\c8 t (10 ^ 30)
 fin:∀i p,i < n->γ[i]? =some (.fin p)->tb.getD i (0,1)=p
def R7.more{t:Fr}(h:R7 γ n tb)(h1:Red t/\t.2<=1000000/\c8 t (10 ^ 30))(h2:∀p,γ[n]? =some (.fin p)->t=p):R7 γ (n+1) (tb++[t]):=by
 refine⟨by rw[aah,h.len];rfl,λu hu=>?_,λi p hi hp=>?_⟩
 ·rcases aaV.mp hu with z| z
  ·exact h.num u z
  ·rw[abq.mp z];exact h1
 ·by_cases c:i < n
  ·rw[aab,aas (by rw[h.len];exact c),<-aab];exact h.fin i p c hp
  ·have e:i=n:=()
   subst e;have g:(tb++[t]).getD i (0,1)=t:=by rw[aab,<-h.len,aan (aaj _),acz];rfl
   rw[g];exact h2 p hp
def JO:(2:Int) ^ 1000 < bB n:=by unfold bB;split <;> decide
def Gb.drawn(pl:k8 ε γ)(l6:γ.length<=6)(h:R7 γ γ.length tb):∃N,Gb ε γ tb N:=by
 have al:∀a∈tb.map (·.2),0 < a/\a<=1000000:=λa ha=>by have⟨p,hp,rfl⟩:=aai.mp ha;exact⟨(h.num p hp).1.pos,(h.num p hp).2.1⟩
 have gm:∀i,i < γ.length->tb.getD i (0,1)∈tb:=λi hi=>by
  have il:i < tb.length:=by rw[h.len];exact hi
  rw[aab,aaa il];exact aaq il
 have nb:=rB al;have nn:lL (tb.map (·.2)) < bB γ.length:=by
  rw[aae,h.len]at nb;have l:(1000000:Int) ^ γ.length<=1000000 ^ 6:=by have h:=abd (show 0 < 1000000 by decide) l6;have:((1000000 ^ γ.length:Nat):Int)<=((1000000 ^ 6:Nat):Int):=Int.ofNat_le.mpr h;rw[abz,abz]at this;exact this
  exact acA (aaE (abc nb l) (show(1000000:Int) ^ 6 < 2 ^ 1000 by decide)) JO
 refine⟨lL (tb.map (·.2)),⟨pl.sh,pl.len,pl.row,h.len,λt ht=>?_⟩,λi hi=>(h.num _ (gm i hi)).1,kD λa ha=>(al a ha).1,nn,λi hi=>?_,λi hi=>?_,λi p hi=>?_⟩
 ·have⟨r,b,a⟩:=h.num t ht;have p0:=r.pos;exact j4 (vI (E:=t.2) (k:=20) (m:=100) r (i5 t) p0 (aaE b @_) a @_ @_) @_
 ·have⟨c,e⟩:=nN (l:=tb.map (·.2)) (aai.mpr ⟨_,gm i hi,rfl⟩);rw[e];exact(jg (h.num _ (gm i hi)).1.pos).more c
 ·have⟨r,b,a⟩:=h.num _ (gm i hi);exact acB (qS r.pos a) (aay.mpr @_)
 ·rw[h.fin i p (aaf.mp hi).1 hi]
def zi:DF:=λas M q _=>∃(ns:List Int) (γ:List Rw),as=[.ir ns,.lst (γ.map aL)]/\γ.length<=6/\(∀r∈γ,RW γ.length r)/\∀tb:List Fr,R7 γ γ.length tb->q (.loc M.length) (M++[.lst (tb.map Λ)])
def hW:Ε ["_law_script","_law_rows_here","_law_found","_law_k","_law_number_here","_law_top"] ["_law_script","_law_rows_here"] (χ pE):=.of rfl
def zg(F:dh K "_law_table" "_law_table" pE f fd)(E:Ev K mg w Cm)(Υ:ax P w K mg base 2 "_law_number" ["_law_script","_law_k"] B_ bR bT)(aF:ax P w K mg base 1 "_law_lowest" ["_law_top","_law_bottom"] HL cP cT):aw P w K mg base (cw P w) 3 f fd ["_law_script","_law_rows_here"] (c7 K zi):=by
 refine F.dW hW (λds M q x h=>?_) (λaW A outer s H E' hr=>⟨_,(η (ω 2 hW.nd (kG θ))
   (η (ng (dF E.cU (ι (dU E.cG (Ο (jv 1) θ)) θ aY)) (av (i:=3) hW.nd rfl (Or.inl rfl)) bq (η (ω 4 hW.nd (ae Υ hr ν (Ο (jv 0) (ι (bA υ (jv 3)) θ bb))))
   (μ (aM (cD hr (Ι (Ι (jv 1) (jv 3)) υ) gP) (μ (eB (e_ (jv 2) (ι (Ι (Ι (jv 1) (jv 3)) υ) θ bQ)))) (η (ω 5 hW.nd (oB (bN (aI (jv 4) (gB υ υ)) (bA (aI υ (gB υ υ)) υ)) (gB υ υ)))
   (μ (eB (e_ (jv 2) (ι (ae aF hr ν (Ο (jv 5) (ι (bA υ (bN (aI (jv 4) υ) (gB υ υ))) θ bb))) θ aY)))))))))
   (μ (Ζ (jv 2))))),λds M q x h=>?_⟩)
 ·have⟨ns,γ,rfl,_⟩:=h;rfl
 ·have⟨ns,γ,rfl,l6,hg,h⟩:=h;refine⟨@_,?_⟩;walk_at "vc";refine(aO (d:=.lst (γ.map aL)) (xs:=γ.map aL) rfl ?_:iL [.lst (γ.map aL)] _ _);rw[aae];refine⟨⟨(),()⟩,?_⟩;refine gw (λxs ρ M'=>∃(n k:Nat) (tb:List Fr) (o1 o2 o3:Option Dt),xs=e6 k n/\k+n=γ.length/\R7 γ k tb/\M'=M++[MO.lst (tb.map Λ)]/\ρ=[some (.ir ns),some (.lst (γ.map aL)),some (.loc M.length),o1,o2,o3]) (λx xs ρ M' hj gT=>?_) (λρ M' hj=>?_) _ _ _ ⟨γ.length,0,[],none,none,none,by simp,by simp,⟨rfl,λ_ z=>(nomatch z),λi p hi=>absurd hi (Nat.not_lt_zero _)⟩,rfl,rfl⟩
  ·have⟨n,k,tb,o1,o2,o3,ex,S_,td,rfl,rfl⟩:=hj;have⟨m,rfl,rfl,rfl⟩:=fF ex;have hk:k < γ.length:=()
   have k6:(k:Int) < 6:=()
   have rk:γ[k]? =some γ[k]:=aaa hk;have hr:=hg _ (aaq hk);generalize γ[k]=r at rk hr;have a1:nY (γ.map aL) (k:Int)=some (aL r):=ak (jN rk);have Bp:(M++[MO.lst (tb.map Λ)])[M.length]? =some (.lst (tb.map Λ)):=bM;have setM:∀y:Fr,(M++[MO.lst (tb.map Λ)]).set M.length (.lst (tb.map Λ++[Λ y]))=M++[.lst ((tb++[y]).map Λ)]:=λy=>by simp
   have lt:(tb.map Λ).length < sizeLine:=by rw[aae,td.len];exact aa3 (show k<=12 by omega) @_
   refine⟨ns,_,rfl,(),(),λnn hn _=>?_⟩;walk_at "vc";refine(Η (d:=.lst (γ.map aL)) rfl a1 ?_:cI (.lst (γ.map aL)) (.int (k:Int)) _ _);cases r with
   | fin p=>
    have⟨e0,ef⟩:=hr.1;have⟨pa,pb⟩:=lR ef e0;refine⟨λ_=>?_,nofun⟩;refine⟨⟨M.length,_,rfl,Bp⟩,?_⟩;walk_at "vc";refine(Η (d:=.lst (γ.map aL)) rfl a1 ?_:cI (.lst (γ.map aL)) (.int (k:Int)) _ _);refine(Η (d:=.tup [.str "end",Λ p]) (xs:=[.str "end",Λ p]) rfl (ak (j:=1) rfl) ?_:cI (.tup [.str "end",Λ p]) (.int 1) _ _);refine⟨M.length,_,_,rfl,rfl,Bp,lt,?_⟩;exact gT _ _ ⟨m,k+1,tb++[p],_,_,_,by simp,(),td.more ⟨hr.2.2.1 p rfl,pb,pa⟩ λp' e=>by rw[rk]at e;cases e;rfl,setM p,rfl⟩
   | ο kd ds=>
    refine⟨λz=>aaP (aao z) hr.1.1.1,λ_=>?_⟩;have p12:sD 10 12:=⟨@_,@_,@_⟩;have p20:sD 10 20:=⟨@_,@_,@_⟩;have m0:(0:Int) < 2 * 10 ^ (20:Int).toNat+1:=@_
    have e0:=aa8 (nn * 10 ^ (12:Int).toNat) (show(2 * 10 ^ (20:Int).toNat+1:Int)≠0 by decide);have e1:=aa1 (nn * 10 ^ (12:Int).toNat) m0;have h20:(10:Int) ^ (20:Int).toNat=100000000000000000000:=@_
    have Ou:0 < 1+nn * 69621 % 10 ^ (6:Int).toNat/\1+nn * 69621 % 10 ^ (6:Int).toNat<=1000000:=by show 0 < 1+nn * 69621 % 1000000/\1+nn * 69621 % 1000000<=1000000;omega
    have Xj:(1+nn * 69621 % 10 ^ (6:Int).toNat).natAbs < 2 ^ 101:=aat (show _ < 2 ^ 21 by omega) @_;refine⟨p12,⟨sG hn,bg (k:=50) @_⟩,p20,⟨bg (k:=4) @_,bg (k:=80) @_⟩,m0,p20,?_⟩;refine⟨⟨M.length,_,rfl,Bp⟩,⟨sG hn,bg (k:=20) @_⟩,p6,(by show(0:Int) < 1000000;decide),_,_,rfl,Ou.1,bg (k:=101) Xj,M.length,_,_,rfl,rfl,Bp,lt,?_⟩;generalize nn * 10 ^ (12:Int).toNat % (2 * 10 ^ (20:Int).toNat+1)=tp at *
    generalize 1+nn * 69621 % 10 ^ (6:Int).toNat=bt at *
    rw[h20]at e1⊢;have⟨b0,b1⟩:=Ou;have r:Red (aD (tp - 100000000000000000000) bt):=aP ();have bd:(aD (tp - 100000000000000000000) bt).2<=1000000:=by have:=i7 (t:=tp - 100000000000000000000) (b:=bt) ();have:=r.pos;omega
    have a:c8 (aD (tp - 100000000000000000000) bt) (10 ^ 30):=by
     have x:bt * 10 ^ 30 ≥ 10 ^ 30:=by have:=aaD (show 1<=bt by omega) (show(0:Int)<=10 ^ 30 by decide);omega
     exact nM b0 () ()
    exact gT _ _ ⟨m,k+1,tb++[aD (tp - 100000000000000000000) bt],_,_,_,by simp,(),td.more ⟨r,bd,a⟩ (λp' e=>by rw[rk]at e;cases e),setM _,rfl⟩
  ·have⟨n,k,tb,o1,o2,o3,ex,S_,td,rfl,rfl⟩:=hj;have hn:n=0:=by have:=aa2 List.length ex;unfold e6 at this;simpa using this.symm
   have e:k=γ.length:=()
   subst e;exact h tb td
def fE{x y:Int}{a b:Nat}(h:x.natAbs < 2 ^ a)(h':y.natAbs < 2 ^ b):(x * y).natAbs < 2 ^ (a+b):=by rw[abi];exact cj h h'
def KP{x y:Int}{a:Nat}(h:x.natAbs < 2 ^ a)(h':y.natAbs < 2 ^ a):(x+y).natAbs < 2 ^ (a+1):=by rw[Nat.pow_succ];omega
def Ey{x:Int}{a b:Nat}(h:x.natAbs < 2 ^ a)(hb:a<=b):x.natAbs < 2 ^ b:=aat h (abd @_ hb)
structure Hs(f:Fr)(s:Int)(E C:Int)(n:Nat):Prop where
 rd:Red f
 has:ju (val f) (E * s ^ n)
 ab:ab (val f)<=((C * (n+1:Nat):Int):Rat)
def Hs.step{s h:Fr}(z:Hs h s.2 E C n)(hs:ay s=true)(rp:Red p)(hp:ju (val p) E)(ap:Pg.ab (val p)<=(C:Rat)):Hs (tS s h p) s.2 E C (n+1):=by
 have⟨s0,s1,v0,v1⟩:=jY hs;have⟨e,r⟩:=wB s0 z.rd.pos rp.pos;refine⟨r,?_,?_⟩
 ·rw[e,abD];refine ju.add (hp.more _) ?_;have:=(jg s0).mul z.has;rwa[show s.2 * (E * s.2 ^ n)=E * (s.2 ^ n * s.2) by grind]at this
 ·rw[e];have:=xA ap (DY v0 v1 z.ab);refine acB this ?_;rw[<-ab3];refine aay.mpr (Int.le_of_eq ?_);rw[show((n+1+1:Nat):Int)=((n+1:Nat):Int)+1 from rfl,Int.mul_add,abR,Int.add_comm]
def ES{s:Int}(s0:0 < s)(s1:s<=1000)(h:n<=20):0 < s ^ n/\s ^ n < 2 ^ 200:=by
 refine⟨Int.pow_pos s0,?_⟩;have a:∀n:Nat,s ^ n<=1000 ^ n:=λn=>by
  induction n with
  | zero=>rw[acx,acx];exact acg _
  | succ n ih=>rw[abD,abD];exact abb ih s1 (aag s0) (abZ @_)
 have b:(1000:Int) ^ n<=1000 ^ 20:=by have h:=abd (show 0 < 1000 by decide) h;have:((1000 ^ n:Nat):Int)<=((1000 ^ 20:Nat):Int):=Int.ofNat_le.mpr h;rw[abz,abz]at this;exact this
 exact aaE (abc (a n) b) @_
def Hs.sz{f s:Fr}{k:Nat}(z:Hs f s.2 E C n)(hs:ay s=true)(hn:n<=20)(e0:0 < E)(e1:E < 2 ^ k)(c0:0<=C)(c1:C < 2 ^ 120):Sz (k+330) f:=by
 have⟨s0,s1,_⟩:=jY hs;have⟨p0,p1⟩:=ES s0 s1 hn;have m:=Int.mul_lt_mul e1 (aag p1) p0 (aag (Int.pow_pos @_));have n0:(0:Int)<=((n+1:Nat):Int):=()
 have c2:C * ((n+1:Nat):Int) < 2 ^ 130:=by have:=abb (aag c1) (show((n+1:Nat):Int)<=21 by omega) n0 @_;exact aaE this @_
 have:=yk (k:=k+200) (m:=130) z.rd z.has (aap e0 p0) (by rw[Int.pow_add];exact m) z.ab (aba c0 n0) c2;exact this
def OU:DF:=λas M q _=>∃(ns:List Int) (k:Int),as=[.ir ns,.int k]/\0<=k/\k<=100/\∀n:Int,q (.int n) M
def HJ:Ε ["_law_script","_law_k"] ["_law_script","_law_k"] (χ t_):=.of rfl
def Cc(F:dh K "_law_pick" "_law_pick" t_ f fd)(E:Ev K mg w Cm)(Υ:ax P w K mg base 2 "_law_number" ["_law_script","_law_k"] B_ bR bT):aw P w K mg base (cw P w) 3 f fd ["_law_script","_law_k"] (c7 K OU):=by
 refine F.dW HJ (λds M q x h=>?_) (λaW A outer s H E' hr=>⟨_,(μ (Ζ (oB (bN (aI (ae Υ hr ν (Ο (jv 0) (ι (bA υ (jv 1)) θ bb))) (gB υ υ)) (bA (aI υ (gB υ υ)) υ)) (gB υ υ)))),λds M q x h=>?_⟩)
 ·have⟨ns,k,rfl,_⟩:=h;rfl
 ·have⟨ns,k,rfl,k0,k1,h⟩:=h;refine⟨ns,_,rfl,(),(),λn hn _=>⟨p22,⟨sG hn,bg (k:=80) @_⟩,VU,⟨bg (k:=4) @_,bg (k:=110) @_⟩,@_,VU,h _⟩⟩
def Uv:DF:=λas M q _=>∃(p:Dt) (ps:List Fr) (s l:Fr) (E C:Int),as=[p,Λ s,Λ l]/\A9 M p=some (ps.map Λ)/\ay s=true/\(∀p∈ps,Red p/\ju (val p) E/\ab (val p)<=(C:Rat))/\ps.length<=20/\Red l/\ju (val l) E/\ab (val l)<=(C:Rat)/\0 < E/\E < 2 ^ 2350/\0<=C/\C < 2 ^ 120/\q (Λ (hZ s ps l)) M
def gq:Ε ["_law_parts","_law_some","_law_last","_law_top","_law_bottom","_law_one"] ["_law_parts","_law_some","_law_last"] (χ xE):=.of rfl
def HF(F:dh K "_law_sum" "_law_sum" xE f fd)(E:Ev K mg w Cm)(aF:ax P w K mg base 1 "_law_lowest" ["_law_top","_law_bottom"] HL cP cT):aw P w K mg base (cw P w) 2 f fd ["_law_parts","_law_some","_law_last"] (c7 K Uv):=by
 refine F.dW gq (λds M q x h=>?_) (λaW A outer s H E' hr=>⟨_,(η (FC (jv 2) (jZ rfl (aV (av (i:=3) gq.nd rfl (Or.inl rfl)) (aV (av (i:=4) gq.nd rfl (Or.inl rfl)) gO))))
   (η (dR (bD (dc (Q3 (jv 0) (OV υ)))) (av (i:=5) gq.nd rfl (Or.inl rfl)) bq (η (ω 4 gq.nd (aI (jv 4) (Ι (jv 1) υ)))
   (η (ω 3 gq.nd (bA (aI (aI (jv 3) (Ι (jv 1) υ)) (Ι (jv 5) υ)) (aI (Ι (jv 5) υ) (jv 4))))
   (μ (FC (ae aF hr ν (Ο (jv 3) (ι (aI (jv 4) (Ι (jv 5) υ)) θ bb))) (jZ rfl (aV (av (i:=3) gq.nd rfl (Or.inl rfl)) (aV (av (i:=4) gq.nd rfl (Or.inl rfl)) gO))))))))
   (μ (Ζ (c_ (Ο (jv 3) (Ο (jv 4) θ))))))),λds M q x h=>?_⟩)
 ·have⟨p,ps,s,l,E,C,rfl,_⟩:=h;rfl
 ·have⟨p0,ps,s,l,Eb,C,rfl,hp,hs,hps,hz,rl,il,al,e0,e1,c0,c1,h⟩:=h;have⟨s0,s1,v0,v1⟩:=jY hs;have OQ:=ip hs;refine⟨ps.map Λ,Qa hp,rfl,?_⟩;rw[<-List.map_reverse];refine dX (rf _) ?_;refine cf (λxs ρ M'=>M'=M/\∃(rest done:List Fr) (o:Option Dt),xs=rest.map Λ/\ps=rest.reverse++done/\Hs (hZ s done l) s.2 Eb C done.length/\ρ=[some p0,some (Λ s),some (Λ l),some (.int (hZ s done l).1),some (.int (hZ s done l).2),o]) (λxs ρ M' hj=>trivial) (λx xs ρ M' hj gT=>?_) (λρ M' hj=>?_) _ _ _ ⟨rfl,ps.reverse,[],none,rfl,by simp,⟨rl,by rw[show Eb * s.2 ^ ([]:List Fr).length=Eb by rw[List.length_nil,Int.pow_zero,Int.mul_one]];exact il,by rw[show C * (([]:List Fr).length+1:Nat)=C from Int.mul_one C];exact al⟩,rfl⟩
  ·have⟨rfl,rest,done,o,ex,Ua,hh,rfl⟩:=hj;cases rest with
   | nil=>cases ex
   | cons y rest=>
    cases ex;have hd:done.length<=20:=by have:=congrArg List.length Ua;simp at this;omega
    have ym:y∈ps:=by rw[Ua];simp
    have⟨yr,y1,y2⟩:=hps y ym;have Wh:Sz (2350+120) y:=yk yr y1 e0 e1 y2 c0 c1;have Wk:=hh.sz hs hd e0 e1 c0 c1;have nx:=hh.step hs yr y1 y2;have e:hZ s (y::done) l=tS s (hZ s done l) y:=rfl;generalize hZ s done l=hf at *
    have B1:=fE Wk.2.2 OQ.2.2;have B2:=fE Wk.1 OQ.1;have B3:=fE B1 Wh.2.2;walk_at "vc";refine(gc ?_:cI (Λ s) (.int 1) _ _);refine⟨⟨bg Wk.2.2,bg OQ.2.2⟩,?_⟩;refine(jr ?_:cI (Λ s) (.int 0) _ _);refine⟨⟨bg Wk.1,bg OQ.1⟩,?_⟩;refine(gc ?_:cI (Λ y) (.int 1) _ _);refine⟨⟨bg B2,bg Wh.2.2⟩,?_⟩;refine(jr ?_:cI (Λ y) (.int 0) _ _);refine⟨⟨bg Wh.1,bg B1⟩,?_⟩;dsimp only[uP,OS];walk_at "vc";refine(gc ?_:cI (Λ y) (.int 1) _ _);refine⟨⟨bg B1,bg Wh.2.2⟩,_,_,rfl,aap (aap hh.rd.pos s0) yr.pos,bg B3,?_⟩;refine gT _ _ ⟨rfl,rest,y::done,some (Λ y),rfl,by rw[Ua];simp,by rw[e];exact nx,?_⟩;rw[e];rfl
  ·have⟨rfl,rest,done,o,ex,Ua,hh,rfl⟩:=hj;cases rest with
   | cons y rest=>cases ex
   | nil=>
    have:ps=done:=by simpa using Ua
    rw[this]at h;exact⟨gV,h⟩
structure Jh(v:Rat)(a c:Int)(b j:Nat):Prop where
 c0:0 < c
 c1:c.natAbs < 2 ^ (b * j+1)
 a1:a.natAbs < 2 ^ (b * j+121)
 e:(a:Rat)=(c:Rat) * v
def Jn{x:Rat}(e:(a:Rat)=x)(h1:x < ((2 ^ m:Nat):Rat))(h2: -((2 ^ m:Nat):Rat) < x):a.natAbs < 2 ^ m:=by rw[<-e]at h1 h2;have b1:a < ((2 ^ m:Nat):Int):=aaO.mp (by rw[acd];exact h1);have b2: -((2 ^ m:Nat):Int) < a:=aaO.mp (by rw[Rat.intCast_neg,acd];exact h2);omega
def Jh.step{c:Int}{b:Nat}{o ch:Fr}(m:Jh v a c b j)(o0:0 < o.2)(h0:0 < ch.2)(hb:(o.2 * ch.2).natAbs < 2 ^ b)(hv:ab (v+val ch * val o)<=(C:Rat))(hC:C < 2 ^ 120):Jh (v+val ch * val o) (a * (o.2 * ch.2)+o.1 * ch.1 * c) (c * (o.2 * ch.2)) b (j+1):=by
 have c0:=aap m.c0 (aap o0 h0);have c1:(c * (o.2 * ch.2)).natAbs < 2 ^ (b * (j+1)+1):=by rw[show b * (j+1)+1=b * j+1+b by rw[Nat.mul_add];omega];exact fE m.c1 hb
 have e:((a * (o.2 * ch.2)+o.1 * ch.1 * c:Int):Rat)=((c * (o.2 * ch.2):Int):Rat) * (v+val ch * val o):=by have e1:=eE o0;have e2:=eE h0;have e3:=m.e;simp only[Rat.intCast_add,Rat.intCast_mul];rw[e3,<-e1,<-e2];grind
 refine⟨c0,c1,?_,e⟩;have⟨v1,v2⟩:=eh.mp hv;have cc:(0:Rat) < ((c * (o.2 * ch.2):Int):Rat):=aaO.mpr c0;have cl:((c * (o.2 * ch.2):Int):Rat) < ((2 ^ (b * (j+1)+1):Nat):Rat):=by rw[<-acd];exact aaO.mpr ()
 have hC:(C:Rat) < ((2 ^ 120:Nat):Rat):=by rw[<-acd];exact aaO.mpr (by exact_mod_cast hC)
 have pw:((2 ^ (b * (j+1)+1+120):Nat):Rat)=((2 ^ (b * (j+1)+1):Nat):Rat) * ((2 ^ 120:Nat):Rat):=by rw[Nat.pow_add,Rat.natCast_mul]
 refine Jn e ?_ ?_
 all_goals
  rw[pw];generalize ((c * (o.2 * ch.2):Int):Rat)=x at *
  generalize v+val ch * val o=y at *
  generalize ((2 ^ (b * (j+1)+1):Nat):Rat)=X at *
  generalize ((2 ^ 120:Nat):Rat)=Y at *
  have y1:y < Y:=by grind
  have y2: -Y < y:=by grind
  have p1:=Rat.mul_pos cc (show 0 < Y - y by grind);have p2:=Rat.mul_pos cc (show 0 < y+Y by grind);have p3:=Rat.mul_pos (show 0 < X - x by grind) (show 0 < Y by grind);grind
def LI{f:Fr}(r:Red f):(0 < f.1->0 < val f)/\(f.1 < 0->val f < 0):=by
 have m:=eE r.pos;have p:(0:Rat) < (f.2:Rat):=aaO.mpr r.pos;refine⟨λh=>?_,λh=>?_⟩
 ·have q:(0:Rat) < (f.1:Rat):=aaO.mpr h;by_cases z:0 < val f
  ·exact z
  ·have:=Rat.mul_le_mul_of_nonneg_right (show val f<=0 by grind) (show 0<=(f.2:Rat) by grind);grind
 ·have q:(f.1:Rat) < (0:Rat):=aaO.mpr h;by_cases z:val f < 0
  ·exact z
  ·have:=Rat.mul_le_mul_of_nonneg_right (show 0<=val f by grind) (show 0<=(f.2:Rat) by grind);grind
def vC{g:bu->Rat}{t:Rat}:∀ds:List bu,aj (λd=>cV d * (g d - t)) ds=aj (λd=>cV d * g d) ds - t * aj cV ds
 | []=>by show(0:Rat)=0 - t * 0;grind
 | d::ds=>by have ih:=vC (g:=g) (t:=t) ds;show cV d * (g d - t)+aj (λd=>cV d * (g d - t)) ds=(cV d * g d+aj (λd=>cV d * g d) ds) - t * (cV d+aj cV ds);rw[ih];grind
def Ah(f:bu->Rat):∀(l r:List bu),aj f (l++r)=aj f l+aj f r
 | [],r=>by show aj f r=0+aj f r;grind
 | d::l,r=>by show f d+aj f (l++r)=f d+aj f l+aj f r;rw[Ah f l r];grind
def vx{f:bu->Rat}(h:j < ds.length):aj f (ds.take (j+1))=aj f (ds.take j)+f ds[j]:=by rw[List.take_succ,aaa h,Ah];show _+(f ds[j]+0)=_;grind
def EY{g:bu->Rat}{c:Rat}:∀{l:List bu},(∀d∈l,0<=cV d/\cV d<=1/\ab (g d)<=c)->ab (aj (λd=>cV d * g d) l)<=(l.length:Rat) * c
 | [],_=>by
  show ab 0<=((0:Nat):Rat) * c;have:ab 0=0:=by unfold ab;grind
  rw[this];grind
 | d::l,h=>by
  have ih:=EY λe he=>h e (aac _ he);have⟨a,b,e⟩:=h d aad;have:=xA (DY a b e) ih;rw[aau];have e2:((l.length+1:Nat):Rat)=(l.length:Rat)+1:=by rw[Rat.natCast_add];rfl
  rw[e2];show ab (cV d * g d+aj (λd=>cV d * g d) l)<=_;grind
def QH{c:Fr}(h:0 < c.2)(u:eF c):0<=val c/\val c<=1:=by
 have m:=eE h;have p:(0:Rat) < (c.2:Rat):=aaO.mpr h;have a:(0:Rat)<=(c.1:Rat):=aay.mpr u.1;have b:(c.1:Rat)<=(c.2:Rat):=aay.mpr u.2;constructor
 ·by_cases z:0<=val c
  ·exact z
  ·have:=Rat.mul_pos (show 0 < -val c by grind) p;grind
 ·by_cases z:val c<=1
  ·exact z
  ·have:=Rat.mul_pos (show 0 < val c - 1 by grind) p;grind
def Nz{b:Nat}{f:bu->Rat}:Jh (aj f (ds.take 0)) 0 1 b 0:=by refine⟨@_,by rw[Nat.mul_zero];decide,by rw[Nat.mul_zero];decide,?_⟩;show((0:Int):Rat)=((1:Int):Rat) * 0;grind
def lO(n:Nat):Nat:=if n<=4 then 1090 else 1650
def TZ(n:Nat):bB n * 2 ^ 50<=2 ^ lO n:=by unfold bB lO;split <;> decide
def Lm(h:n<=4\/m<=4)(h6:m<=6):lO n * m<=6600:=by
 unfold lO;split
 ·omega
 ·have:m<=4:=()
  omega
def LH(A:Addr):DF:=λas M q _=>∃(ε:Fr) (γ:List Rw) (tb:List Fr) (N:Int) (st:List (Nat×Nat)) (d:Dt) (ok:Ms->Prop),as=[ao A ε γ,.lst (γ.map aL),.lst (tb.map Λ),d]/\qm M d=some (st.map da,ok)/\ok M/\k8 ε γ/\Gb ε γ tb N/\Wr ε γ tb/\(γ.length<=4\/∀k ds,Rw.ο k ds∈γ->ds.length<=4)/\(∀s∈st,∃k ds,γ[s.1]? =some (.ο k ds)/\s.2 < ds.length)/\q (.bl true) M
def aK:Ε ["_law_floor","_law_rows_here","_law_table_here","_law_steps","_law_place","_law_door","_law_top","_law_mean","_law_k","_law_one","_law_chance","_law_below"] ["_law_floor","_law_rows_here","_law_table_here","_law_steps"] (χ ik):=.of rfl
def pT(F:dh K "_law_worth_rules" "_law_worth_rules" ik f fd)(E:Ev K mg w Cm){tX:Addr}{tV:FuncData}(fC:ax P w K mg base 5 "brought" ["floor","table","place","door"] (uk Cm) tX tV):aw P w K mg base (cw P w) 6 f fd ["_law_floor","_law_rows_here","_law_table_here","_law_steps"] (c7 K (LH Cm)):=by
 refine F.dW aK (λds M q x h=>?_) (λaW A outer s H E' hr=>⟨_,(η (dR (bD (jv 3)) (jZ rfl (aV (av (i:=4) aK.nd rfl (Or.inl rfl)) (aV (av (i:=5) aK.nd rfl (Or.inl rfl)) gO))) lG (η (ω 6 aK.nd (Ι (ae fC hr ν (Ο (jv 0) (Ο (jv 2) (Ο (jv 4) (Ο (jv 5) θ))))) υ))
   (η (kM (aM (JW.jt (El (JW.jt (C1 (cD hr (Ι (Ι (jv 1) (jv 4)) υ) gP) (xt (Ft (jv 6) υ)))) (xB (JW.jt (C1 (cD hr (Ι (Ι (jv 1) (jv 4)) υ) gP) (xt (vV (jv 6) υ))))))) (μ (Ζ O7)) Τ))
   (μ (aM (cD hr (Ι (Ι (jv 1) (jv 4)) υ) gP) (η (ω 7 aK.nd (c_ (ι υ (ι υ θ b_) b_)))
   (η (ng (dF E.cU (ι (dU E.cG (ι (Ι (Ι (jv 1) (jv 4)) υ) θ bQ)) θ aY)) (av (i:=8) aK.nd rfl (Or.inl rfl)) bq (η (ω 9 aK.nd (ae fC hr ν (Ο (jv 0) (Ο (jv 2) (Ο (jv 4) (Ο (jv 8) θ))))))
   (η (ω 10 aK.nd (Ι (Ι (Ι (Ι (jv 1) (jv 4)) υ) (jv 8)) υ))
   (η (ω 11 aK.nd (aI (Ι (jv 9) υ) (Ι (jv 10) υ)))
   (μ (ω 7 aK.nd (c_ (ι (bA (aI (Ι (jv 7) υ) (jv 11)) (aI (aI (Ι (jv 9) υ) (Ι (jv 10) υ)) (Ι (jv 7) υ))) (ι (aI (Ι (jv 7) υ) (jv 11)) θ bb) bb))))))))
   (μ (aM (tQ hr (Ι (jv 7) υ) υ) (μ (Ζ O7)) Τ)))) Τ)))))
   (μ (Ζ O7))),λds M q x h=>?_⟩)
 ·have⟨ε,γ,tb,N,st,d,ok,rfl,_⟩:=h;rfl
 ·have⟨ε,γ,tb,N,st,d,ok,rfl,hd,bc,pl,t,wr,S8,Ht,h⟩:=h;dsimp only[Lg,A0,ft];walk_at "vc";show(match qm M d with| some (xs,ok)=>_| none=>False);rw[hd];refine cf (λxs ρ M'=>M'=M/\∃(rest:List (Nat×Nat)) (o4 o5 o6 o7 o8 o9 Nk MS:Option Dt),xs=rest.map da/\(∀s∈rest,s∈st)/\ρ=[some (ao Cm ε γ),some (.lst (γ.map aL)),some (.lst (tb.map Λ)),some d,o4,o5,o6,o7,o8,o9,Nk,MS]) (λxs ρ M' hj=>by have⟨rfl,_⟩:=hj;exact bc) (λx xs ρ M' hj gT=>?_) (λρ M' hj=>?_) _ _ _ ⟨rfl,st,none,none,none,none,none,none,none,none,rfl,λ_ h=>h,rfl⟩
  ·have⟨rfl,rest,o4,o5,o6,o7,o8,o9,Nk,MS,ex,qI,rfl⟩:=hj;cases rest with
   | nil=>cases ex
   | cons s rest=>
    cases ex;have⟨k,ds,hi,jl⟩:=Ht s (qI s aad);have⟨i,j⟩:=s;have hi:γ[i]? =some (.ο k ds):=hi;have jl:j < ds.length:=jl;have hj:ds[j]? =some ds[j]:=aaa jl;have Yk:ds[j]∈ds:=aaq jl;have rm:=aak hi;have dr:=bI pl rm;have il:=(aaf.mp hi).1;have a1:nY (γ.map aL) (i:Int)=some (aL (.ο k ds)):=ak (jN hi);have rk:∀{M':Ms} {q':DQ},q' (.str k) M'->cI (.lst (γ.map aL)) (.int (i:Int)) M' (λd M1=>cI d (.int 0) M1 q'):=λhq=>Η (d:=.lst (γ.map aL)) rfl a1 (Η (d:=.tup [.str k,.lst (ds.map cZ)]) rfl bP hq);have rd:∀{M':Ms} {q':DQ},q' (.lst (ds.map cZ)) M'->cI (.lst (γ.map aL)) (.int (i:Int)) M' (λd M1=>cI d (.int 1) M1 q'):=λhq=>Η (d:=.lst (γ.map aL)) rfl a1 (Η (d:=.tup [.str k,.lst (ds.map cZ)]) (xs:=[.str k,.lst (ds.map cZ)]) rfl (ak (j:=1) rfl) hq);have⟨bv,br,_⟩:=t.to pl hi Yk;have⟨sg1,sg2⟩:=LI br;generalize hbf:aa ε tb ds[j] i=bf at *
    refine⟨ε,γ,tb,i,j,k,ds,ds[j],rfl,hi,hj,t.fl,?_⟩;rw[hbf];dsimp only[dC,Lg,List.set_cons_zero,List.set_cons_succ];refine jr ?_;refine⟨λρ M2=>M2=M'/\ρ=[some (ao Cm ε γ),some (.lst (γ.map aL)),some (.lst (tb.map Λ)),some d,some (.int (i:Int)),some (.int (j:Int)),some (.int bf.1),o7,o8,o9,Nk,MS],?_,?_⟩
    ·have hw:Γ k=true->kj k * val bf<=0:=λhh=>by have a:=wr.Wu i k ds hi hh _ Yk;rw[(vo t.fl rm Yk).1]at a;have a:kj k * (val ds[j].2.1+val ε * val (tb.getD ds[j].1.toNat (0,1)))<=kj k * val (tb.getD i (0,1)):=a;rw[bv];grind
     walk_at "vc";refine rk ⟨λz1=>⟨λz2=>?_,λz2=>rk ⟨λz3=>?_,λz3=>⟨nofun,λ_=>⟨rfl,rfl⟩⟩⟩⟩,λz1=>⟨nofun,λ_=>rk ⟨λz3=>⟨λz4=>?_,λz4=>⟨rfl,rfl⟩⟩,λz3=>⟨nofun,λ_=>⟨rfl,rfl⟩⟩⟩⟩⟩
     ·have z1:k="one":=aao z1;have z2:bf.1 > 0:=aao z2;have a:=hw (by rw[z1];decide);have b:=sg1 z2;rw[z1,show kj (Str.ofString "one")=1 from aaz rfl]at a;grind
     ·have z1:k="one":=aao z1;have z3:k="other":=aao z3;rw[z1]at z3;exact aaP z3 @_
     ·have z3:k="other":=aao z3;have z4:bf.1 < 0:=aao z4;have a:=hw (by rw[z3];decide);have b:=sg2 z4;rw[z3,show kj (Str.ofString "other")= -1 from aaC @_]at a;grind
    rintro ρ2 M3 ⟨rfl,rfl⟩;walk_at "vc";refine rk ⟨λz=>?_,λz=>gT _ _ ⟨rfl,rest,_,_,_,_,_,_,_,_,rfl,λs hs=>qI s (aac _ hs),rfl⟩⟩;have z:k="chance":=aao z;subst z;refine⟨gV,rd (aO (d:=.lst (ds.map cZ)) (xs:=ds.map cZ) rfl ?_)⟩;rw[aae];have l6:=dr.l6;refine⟨⟨(),()⟩,?_⟩;have⟨ch1,_⟩:=dr.ro.2.2.1 rfl;have co:qH (ds.map τ):=by
     rcases dr.kd with hk| ⟨_,_,o⟩
     ·exact aaP hk @_
     ·exact o
    have⟨one,_⟩:=EL co;have cu:∀e∈ds,0 < (τ e).2/\(τ e).2<=1000000/\0<=cV e/\cV e<=1/\Sz 300 (τ e):=λe he=>by have⟨c0,c1,c2,c3⟩:=Fh co (aai.mpr ⟨e,he,rfl⟩);have:=abY co.b0 c1;have:=co.b1;have⟨u1,u2⟩:=QH c0 c2;exact⟨c0,(),u1,u2,c3⟩
    have bh:∀e∈ds,Red (aa ε tb e i)/\(aa ε tb e i).2 < bB γ.length * 2 ^ 30/\Pg.ab (val (aa ε tb e i))<=(cB:Rat)/\(aa ε tb e i).1.natAbs < 2 ^ (1630+120):=λe he=>by
     have⟨_,r,_,p0,p1,_⟩:=t.to pl hi he;have⟨x1,_,x3⟩:=t.FE pl hi he;have⟨s0,s1,_⟩:=jY pl.sh;have n0:=t.n0;have e0:0 < e.2.1.2 * (ε.2 * N):=aap p0 (aap s0 n0);have b1:e.2.1.2 * (ε.2 * N) < bB γ.length * 2 ^ 30:=by have y1:=abb p1 (aaD s1 (aag n0)) (aag (aap s0 n0)) @_;have y2:=t.n1;omega
     have l:=abY e0 (q5 r (E5 r.pos x1));refine⟨r,(),x3,?_⟩;have b2:e.2.1.2 * (ε.2 * N) < 2 ^ 1630:=abN b1 (by have:=AL γ.length;omega);exact(yk r x1 e0 b2 x3 @_ @_).1
    refine gw (λzs ρ M2=>M2=M3/\∃(n jj:Nat) (a c:Int) (o8 o9 Nk MS:Option Dt),zs=e6 jj n/\jj+n=ds.length/\Jh (aj (λe=>cV e * val (aa ε tb e i)) (ds.take jj)) a c (lO γ.length) jj/\ρ=[some (ao Cm ε γ),some (.lst (γ.map aL)),some (.lst (tb.map Λ)),some d,some (.int (i:Int)),some (.int (j:Int)),some (.int bf.1),some (Λ (a,c)),o8,o9,Nk,MS]) (λx zs ρ M2 hj YD=>?_) (λρ M2 hj=>?_) _ _ _ ⟨rfl,ds.length,0,0,1,o8,o9,Nk,MS,rfl,(),Nz,rfl⟩
    ·have⟨rfl,n,jj,a,c,o8,o9,Nk,MS,ex,hjn,mn,rfl⟩:=hj;have⟨m,rfl,rfl,rfl⟩:=fF ex;have TQ:jj < ds.length:=()
     have hj2:ds[jj]? =some ds[jj]:=aaa TQ;have RU:ds[jj]∈ds:=aaq TQ;have⟨c0,c1,_,_,c4⟩:=cu _ RU;have⟨r,b1,b2,b3⟩:=bh _ RU;have hv:Pg.ab (aj (λe=>cV e * val (aa ε tb e i)) (ds.take (jj+1)))<=((6 * cB:Int):Rat):=by
      have:=EY (g:=λe=>val (aa ε tb e i)) (c:=(cB:Rat)) (l:=ds.take (jj+1)) λe he=>⟨(cu e (acp he)).2.2.1,(cu e (acp he)).2.2.2.1,(bh e (acp he)).2.2.1⟩;refine acB this ?_;rw[aaK];have l:(((ds.take (jj+1)).length:Nat):Rat)<=((6:Int):Rat):=by rw[<-acd];refine aay.mpr ?_;rw[acu];omega
      exact abj l (aay.mpr @_)
     rw[vx TQ]at hv;have bw:((aa ε tb ds[jj] i).2 * (τ ds[jj]).2).natAbs < 2 ^ lO γ.length:=by
      have r0:=r.pos;have y:=Int.mul_lt_mul b1 c1 c0 (aba (abc @_ (aag (JO (n:=γ.length)))) @_);have y2:=TZ γ.length;have y3:=aap r0 c0;have y4:(0:Int) < bB γ.length:=acA @_ (JO (n:=γ.length));have:(((aa ε tb ds[jj] i).2 * (τ ds[jj]).2).natAbs:Int) < ((2 ^ lO γ.length:Nat):Int):=by rw[abe (aag y3),abz];refine abN ?_ y2;omega
      exact abG.mp this
     have ms:=mn.step (o:=aa ε tb ds[jj] i) (ch:=τ ds[jj]) r.pos c0 bw hv @_;rw[<-vx (f:=λe=>cV e * val (aa ε tb e i)) TQ]at ms;have Yc:lO γ.length * (jj+1)<=6600:=Lm (S8.imp_right λf=>by have:=f _ _ rm;omega) ();have fj:lO γ.length * jj<=6600:=aax (Nat.mul_le_mul_left _ (Nat.le_succ _)) Yc;have fb1:lO γ.length<=1650:=by unfold lO;split <;> decide
     generalize hbo:aa ε tb ds[jj] i=bo at *
     generalize y8:τ ds[jj]=WG at *
     refine⟨ε,γ,tb,i,jj,"chance",ds,ds[jj],rfl,hi,hj2,t.fl,?_⟩;rw[hbo]
     have hz:Sz (1630+120) bo:=⟨b3,r.pos,by
      have r0:=r.pos;have y:=AL γ.length;have:(bo.2.natAbs:Int) < ((2 ^ (1630+120):Nat):Int):=by rw[abe (aag r0)];refine abN b1 (abc (aaD y @_) @_)
      exact abG.mp this⟩
     have bbw:g7 (bo.2 * WG.2):=bg bw ();have b7:=fE mn.a1 bw;have b8:=fE b3 c4.1;have b9:=fE b8 mn.c1;walk_at "vc";refine rd ?_;refine(Η (d:=.lst (ds.map cZ)) rfl (ON TQ) ?_:cI (.lst (ds.map cZ)) (.int (jj:Int)) _ _);refine(LC (ch1 _ RU) ?_:cI (cZ ds[jj]) (.int 2) _ _);rw[y8];refine(gc ?_:cI (Λ bo) (.int 1) _ _);refine(gc ?_:cI (Λ WG) (.int 1) _ _);refine⟨⟨bg hz.2.2,bg c4.2.2⟩,?_⟩;refine(jr ?_:cI (Λ (a,c)) (.int 0) _ _);refine⟨⟨bg mn.a1 (),bbw⟩,?_⟩;refine(jr ?_:cI (Λ bo) (.int 0) _ _);refine(jr ?_:cI (Λ WG) (.int 0) _ _);refine⟨⟨bg hz.1,bg c4.1⟩,?_⟩;refine(gc ?_:cI (Λ (a,c)) (.int 1) _ _);refine⟨⟨bg b8,bg mn.c1 ()⟩,?_⟩;dsimp only[uP];refine(gc ?_:cI (Λ (a,c)) (.int 1) _ _);refine⟨⟨bg mn.c1 (),bbw⟩,gV,?_⟩;exact YD _ _ ⟨rfl,m,jj+1,_,_,_,_,_,_,by rw[Int.natCast_add];rfl,(),ms,rfl⟩
    ·have⟨rfl,n,jj,a,c,o8,o9,Nk,MS,ex,hjn,mn,rfl⟩:=hj;have n0:n=0:=by have:=aa2 List.length ex;unfold e6 at this;simpa using this.symm
     have e:jj=ds.length:=()
     subst e;rw[List.take_length]at mn;have a0:a=0:=by
      have e:=mn.e;have z:aj (λe=>cV e * val (aa ε tb e i)) ds=0:=by
       have e1:aj (λe=>cV e * val (aa ε tb e i)) ds=aj (λe=>cV e * ((val e.2.1+val ε * val (tb.getD e.1.toNat (0,1))) - val (tb.getD i (0,1)))) ds:=jQ λe he=>by rw[(t.to pl hi he).1]
       rw[e1,vC,wr.Sg i ds hi,one];grind
      rw[z]at e;exact Rat.intCast_inj.mp (by rw[e];show _=((0:Int):Rat);grind)
     subst a0;walk_at "vc";refine(jr ?_:cI (Λ (0,c)) (.int 0) _ _);exact⟨nofun,λ_=>gT _ _ ⟨rfl,rest,_,_,_,_,_,_,_,_,rfl,λs hs=>qI s (aac _ hs),rfl⟩⟩
  ·have⟨rfl,rest,o4,o5,o6,o7,o8,o9,Nk,MS,ex,qI,rfl⟩:=hj;exact h
def zV{M:Ms}:∀rs:List Rw,Paired (kO M) (rs.map aL) rs
 | []=>.nil
 | r::rs=>.cons (Mo _ r) (zV rs)
def IV{q:DQ}{A:Addr}(h:q (ao A ε γ) M):r_ M q (.loc M.length) ((M++[MO.ins A [] []]).set M.length (.ins A ["kept_share","kept_rows"] [Λ ε,.lst (γ.map aL)])):=by rw[gL];exact mG (d':=ao A ε γ) (.Ye (Nat.le_refl _) (by simp) (.cons (.old (qh ε)) (.cons (.old (ow γ)) .nil))) h
def xq(ε:Fr)(γ:List Rw)(tb:List Fr)(s:Nat×Nat):Fr:=match γ[s.1]? with
 | some (.ο _ ds)=>aa ε tb (ds.getD s.2 d0) s.1
 | _=>(0,1)
def kT(_:Nat×Nat):Fr:=(0,1)
def QD:val ((0,1):Fr)=0:=by unfold val;show((0:Int):Rat) / ((1:Int):Rat)=0;grind
def mw(γ:List Rw)(tb:List Fr)(i:Nat):Rat:=match γ[i]? with
 | some (.fin _)=>0
 | _=>val (tb.getD i (0,1))
section
variable{N:Int}
def Ee(pl:k8 ε γ):∀(ps:List Int) (i:Nat),i < γ.length->(∀s∈d7 γ i ps,∃k ds,γ[s.1]? =some (.ο k ds)/\s.2 < ds.length)/\gz γ i ps < γ.length
 | [],i,hi=>⟨λ_ z=>(nomatch z),hi⟩
 | p::ps,i,hi=>by
  have ri:γ[i]? =some γ[i]:=aaa hi;have rm:γ[i]∈γ:=aaq hi;generalize γ[i]=r at ri rm;cases r with
  | fin e=>
   have⟨e1,e2,_⟩:=lU ri (p::ps);rw[e1,e2];exact⟨λ_ z=>(nomatch z),hi⟩
  | ο k ds=>
   have dn:=bI pl rm;have⟨j,d,hj,dl,JZ,HR⟩:=qY dn ri p;have⟨e1,e2,_⟩:=jy (ps:=ps) HR;have⟨t0,t1⟩:=dn.to _ (aak JZ);have⟨a,b⟩:=Ee pl ps d.1.toNat ();rw[e1,e2];refine⟨λs hs=>?_,b⟩;rcases aaL.mp hs with rfl| hs
   ·exact⟨k,ds,ri,dl⟩
   ·exact a s hs
def wD(pl:k8 ε γ)(t:Gb ε γ tb N):∀(ps:List Int) (i:Nat),i < γ.length->h8 ε γ i ps+mr (val ε) ((d7 γ i ps).map kT) (mw γ tb (gz γ i ps))=val (tb.getD i (0,1))+mr (val ε) ((d7 γ i ps).map (xq ε γ tb)) 0
 | ps,i,hi=>by
  have ri:γ[i]? =some γ[i]:=aaa hi;have rm:γ[i]∈γ:=aaq hi;generalize γ[i]=r at ri rm;cases r with
  | fin e=>
   have⟨e1,e2,e3⟩:=lU ri ps;unfold h8;rw[e1,e2,e3];show val (lA γ i)+mw γ tb i=_+0;unfold lA mw;rw[ri,t.fin i e ri]
  | ο k ds=>
   cases ps with
   | nil=>
    show val (lA γ i)+mw γ tb i=_+0;unfold lA mw;rw[ri];show val ((0,1):Fr)+val (tb.getD i (0,1))=_;rw[QD];grind
   | cons p ps=>
    have dn:=bI pl rm;have⟨j,d,hj,dl,JZ,HR⟩:=qY dn ri p;have⟨e1,e2,e3⟩:=jy (ps:=ps) HR;have hd:=aak JZ;have⟨t0,t1⟩:=dn.to _ hd;have ih:=wD pl t ps d.1.toNat ();have eb:xq ε γ tb (i,j)=aa ε tb d i:=by unfold xq;show(match γ[i]? with| some (.ο _ ds)=>aa ε tb (ds.getD j d0) i| _=>(0,1))=_;rw[ri];show aa ε tb (ds.getD j d0) i=_;rw[aab,JZ];rfl
    have et:h8 ε γ i (p::ps)=val d.2.1+val ε * h8 ε γ d.1.toNat ps:=by unfold h8;rw[e2,e3];rfl
    rw[et,e1,e2];show val d.2.1+val ε * h8 ε γ d.1.toNat ps+(val ((0,1):Fr)+val ε * mr (val ε) ((d7 γ d.1.toNat ps).map kT) (mw γ tb (gz γ d.1.toNat ps)))=val (tb.getD i (0,1))+(val (xq ε γ tb (i,j))+val ε * mr (val ε) ((d7 γ d.1.toNat ps).map (xq ε γ tb)) 0);rw[eb,(t.to pl ri hd).1,QD];generalize mr (val ε) ((d7 γ d.1.toNat ps).map kT) (mw γ tb (gz γ d.1.toNat ps))=x1 at *
    generalize mr (val ε) ((d7 γ d.1.toNat ps).map (xq ε γ tb)) 0=x2 at *
    generalize h8 ε γ d.1.toNat ps=x3 at *
    have:=aa2 (λz=>val ε * z) ih;grind
def Fx(pl:k8 ε γ)(hi:i < γ.length):ju (val (lA γ i)) (pB γ)/\ab (val (lA γ i))<=((10 ^ 30:Int):Rat):=by
 have ri:γ[i]? =some γ[i]:=aaa hi;have rm:γ[i]∈γ:=aaq hi;generalize γ[i]=r at ri rm;unfold lA;rw[ri];cases r with
 | fin e=>
  have pm:e∈lJ γ:=qU (r:=.fin e) (abq.mpr rfl) rm;have⟨p0,_,pa⟩:=lQ pl e pm;exact⟨BD pl pm,BW p0 pa⟩
 | ο k ds=>
  show ju (val ((0,1):Fr)) _/\ab (val ((0,1):Fr))<=_;rw[QD];exact⟨⟨0,by show(0:Rat) * _=((0:Int):Rat);grind⟩,eh.mpr ⟨Rat.le_trans (b:=0) (by rw[<-Rat.intCast_neg];exact Rat.intCast_le_intCast.mpr @_) (by grind),Rat.intCast_le_intCast.mpr (show(0:Int)<=10 ^ 30 by decide)⟩⟩
def Kf(pl:k8 ε γ):∀(ps:List Int) (i:Nat),i < γ.length->ju (h8 ε γ i ps) (pB γ * ε.2 ^ ps.length)/\ab (h8 ε γ i ps)<=((10 ^ 30 * (ps.length+1:Nat):Int):Rat)
 | [],i,hi=>by have⟨a,b⟩:=Fx pl hi;rw[acf,acx,abR];exact⟨a,b⟩
 | p::ps,i,hi=>by
  have ri:γ[i]? =some γ[i]:=aaa hi;have rm:γ[i]∈γ:=aaq hi;generalize γ[i]=r at ri rm;cases r with
  | fin e=>
   have⟨e1,e2,e3⟩:=lU ri (p::ps);have⟨a,b⟩:=Fx pl hi;unfold h8;rw[e2,e3];refine⟨a.more _,acB b (aay.mpr ?_)⟩;have:=aaA (show(1:Int)<=(((p::ps).length+1:Nat):Int) by omega) (show(0:Int)<=10 ^ 30 by decide);rwa[abR]at this
  | ο k ds=>
   have dn:=bI pl rm;have⟨j,d,hj,dl,JZ,HR⟩:=qY dn ri p;have⟨e1,e2,e3⟩:=jy (ps:=ps) HR;have hd:=aak JZ;have⟨t0,t1⟩:=dn.to _ hd;have⟨a,b⟩:=Kf pl ps d.1.toNat ();have⟨s0,s1,s2,s3⟩:=jY pl.sh;have pm:d.2.1∈lJ γ:=qU (r:=.ο k ds) (aai.mpr ⟨d,hd,rfl⟩) rm;have⟨p0,_,pa⟩:=lQ pl _ pm;have et:h8 ε γ i (p::ps)=val d.2.1+val ε * h8 ε γ d.1.toNat ps:=by unfold h8;rw[e2,e3];rfl
   rw[et,aau];refine⟨((BD pl pm).more _).add ?_,?_⟩
   ·have:=(jg s0).mul a;rw[abD];rwa[show ε.2 * (pB γ * ε.2 ^ ps.length)=pB γ * (ε.2 ^ ps.length * ε.2) by grind]at this
   ·refine acB (xA (BW p0 pa) (DY s2 s3 b)) ?_;rw[<-ab3];refine aay.mpr (Int.le_of_eq ?_);rw[show((ps.length+1+1:Nat):Int)=((ps.length+1:Nat):Int)+1 from rfl,Int.mul_add,abR,Int.add_comm]
def wN{s l:Fr}{E C:Int}(hs:ay s=true)(rl:Red l)(il:ju (val l) E)(al:ab (val l)<=(C:Rat)):∀{ps:List Fr},(∀p∈ps,Red p/\ju (val p) E/\ab (val p)<=(C:Rat))->Hs (hZ s ps l) s.2 E C ps.length
 | [],_=>⟨rl,by rw[acf,acx,abR];exact il,by rw[show C * (([]:List Fr).length+1:Nat)=C from abR C];exact al⟩
 | p::ps,h=>by have⟨a,b,c⟩:=h p aad;exact(wN hs rl il al λq hq=>h q (aac _ hq)).step hs a b c
def Q1{g t f d:Fr}(g0:0 < g.2)(t0:0 < t.2)(f0:0 < f.2)(d0:0 < d.2)(e:val g+val t=val f+val d):(g.1 * t.2+t.1 * g.2) * f.2 * d.2=(f.1 * d.2+d.1 * f.2) * g.2 * t.2:=by
 have a:=eE g0;have b:=eE t0;have c:=eE f0;have h:=eE d0;apply Rat.intCast_inj.mp;simp only[Rat.intCast_mul,Rat.intCast_add];rw[<-a,<-b,<-c,<-h];have e:val d=val g+val t - val f:=by grind
 rw[e];generalize val g=x1;generalize val t=x2;generalize val f=x3;generalize (g.2:Rat)=y1;generalize (t.2:Rat)=y2;generalize (f.2:Rat)=y3;generalize (d.2:Rat)=y4;grind
end
def S5(hs:ay ε=true)(n1:1<=γ.length)(r6:γ.length<=6)(hg:∀r∈γ,RW γ.length r):FW ε γ (10 ^ 36) (10 ^ 30):=by
 have pl:k8 ε γ:=⟨hs,(),λr hr=>(hg r hr).1⟩;have bot:∀{p:Fr},ba p=true->0 < p.2->0 < p.2/\p.2<=1000000:=λ{p} f p0=>by unfold ba at f;rw[aav,aam,aam]at f;exact⟨p0,f.2⟩
 refine⟨pl,n1,λk ds hm hk d hd=>(hg _ hm).2.1 k ds rfl hk d hd,λk ds hm=>?_,λp hm=>?_,acg _,@_,acg _⟩
 ·have dr:=bI pl hm;have pb:∀a∈ds.map (·.2.1.2),0 < a/\a<=1000000:=λa ha=>by have⟨d,hd,rfl⟩:=aai.mp ha;exact bot (dr.py d hd).1 (dr.py d hd).2
  refine⟨lL (ds.map (·.2.1.2)),kD λa ha=>(pb a ha).1,?_,λd hd=>?_⟩
  ·have:=rB pb;rw[aae]at this;have l:(1000000:Int) ^ ds.length<=1000000 ^ 6:=by have h:=abd (show 0 < 1000000 by decide) dr.l6;have:((1000000 ^ ds.length:Nat):Int)<=((1000000 ^ 6:Nat):Int):=Int.ofNat_le.mpr h;rw[abz,abz]at this;exact this
   exact abc (abc this l) @_
  ·have pa:=lR (dr.py d hd).1 (dr.py d hd).2;exact⟨(hg _ hm).2.2.2 k ds rfl d hd,Bc (nN (l:=ds.map (·.2.1.2)) (aai.mpr ⟨d,hd,rfl⟩)),pa.1⟩
 ·have⟨p0,f⟩:=(hg _ hm).1;have b:=bot f p0;exact⟨p.2,p0,abc b.2 @_,(hg _ hm).2.2.1 p rfl,i5 p,(lR f p0).1⟩
def Vf(n:Nat)(h:n<=6):ma (10 ^ 36) (10 ^ 30)<=2 ^ 450/\1<=ma (10 ^ 36) (10 ^ 30)/\(12 * ma (10 ^ 36) (10 ^ 30)) ^ n < bB n:=by
 refine⟨@_,@_,?_⟩;have:n=0\/n=1\/n=2\/n=3\/n=4\/n=5\/n=6:=()
 rcases this with rfl| rfl| rfl| rfl| rfl| rfl| rfl <;> decide
def stF(g:Nat×Nat->Fr):Dt->Dt
 | .tup [.int a,.int b]=>Λ (g (a.toNat,b.toNat))
 | _=>.bU
def ND(g:Nat×Nat->Fr)(st:List (Nat×Nat)):(st.map da).map (stF g)=(st.map g).map Λ:=by rw[aaN,aaN];rfl
def dD:Ε ["_law_script","_law_rows_here","_law_some","_law_floor","_law_number_here","_law_picks","_law_table_here","_law_steps","_law_last","_law_gathered","_law_parts","_law_due","_law_first","_law_tail","_law_nothing","_law_left","_law_right"] ["_law_script"] (χ Rk):=.of rfl
def Pu(F:dh K "law" "law" Rk f fd)(E:Ev K mg w Cm){Kt:Addr}{IU:FuncData}(pk:ax P w K mg base 5 "_law_rows" ["_law_script","_law_most","_law_wide"] Eh Kt IU){HQ:Addr}{GJ:FuncData}(mD:ax P w K mg base 2 "_law_share" ["_law_number_here"] Fd HQ GJ)(Υ:ax P w K mg base 2 "_law_number" ["_law_script","_law_k"] B_ bR bT){Dv:Addr}{CT:FuncData}(kF:QS P w K mg base 5 "Floor" Cm ["self","share","rows"] (OX Cm) Dv CT){Jz:Addr}{Jw:FuncData}(pF:ax P w K mg base 3 "_law_pick" ["_law_script","_law_k"] OU Jz Jw){GR:Addr}{HX:FuncData}(nJ:ax P w K mg base 3 "_law_table" ["_law_script","_law_rows_here"] zi GR HX){Mn:Addr}{MM:FuncData}(rM:ax P w K mg base 11 "worths" ["floor"] (AJ Cm) Mn MM){Mc:Addr}{Na:FuncData}(tY:ax P w K mg base 6 "played" ["floor","place","picks"] (Eg Cm) Mc Na){tX:Addr}{tV:FuncData}(fC:ax P w K mg base 5 "brought" ["floor","table","place","door"] (uk Cm) tX tV){Oa:Addr}{Ny:FuncData}(ou:ax P w K mg base 2 "_law_sum" ["_law_parts","_law_some","_law_last"] Uv Oa Ny){sV:Addr}{sd:FuncData}(gx:ax P w K mg base 6 "_law_worth_rules" ["_law_floor","_law_rows_here","_law_table_here","_law_steps"] (LH Cm) sV sd):aw P w K mg base (cw P w) 12 f fd ["_law_script"] (c7 K QV):=by
 refine F.dW dD (λds M q x h=>?_) (λaW A outer s H E' hr=>⟨_,(η (ω 1 dD.nd (dc (ae pk hr ν (Ο (jv 0) (ι υ (ι υ θ b_) b_)))))
   (η (ω 2 dD.nd (ae mD hr ν (ι (ae Υ hr ν (Ο (jv 0) (ι υ θ b_))) θ aY)))
   (η (ω 3 dD.nd (dc (QW kF hr ν (Ο (jv 2) (ι (dc (xR E.mU (Ο (jv 1) θ))) θ aY)))))
   (η (ω 4 dD.nd (ae Υ hr ν (Ο (jv 0) (ι υ θ b_))))
   (η (sv (i:=5) dD.nd rfl (Or.inl rfl) (ys:=["_law_script"]) (af:=[0]) (.of dD rfl rfl rfl) (dF E.cU (ι (bN (eV (jv 4) υ) υ) θ bb)) (λC s H fp=>(ae pF hr (fW (P:=P) (w:=w)) (Ο (jv 1) (Ο (jv 0) θ)))))
   (η (ω 6 dD.nd (dc (ae nJ hr ν (Ο (jv 0) (Ο (jv 1) θ)))))
   (η (kM (aM (cD hr (bN (ae Υ hr ν (Ο (jv 0) (ι υ θ b_))) υ) υ) (μ (ω 6 dD.nd (ae rM hr ν (Ο (jv 3) θ)))) Τ))
   (η (Mp (ae tY hr ν (Ο (jv 3) (ι (bN (jv 4) (dU E.cG (Ο (jv 1) θ))) (Ο (jv 5) θ) bb))) (jZ rfl (aV (av (i:=7) dD.nd rfl (Or.inl rfl)) (aV (av (i:=8) dD.nd rfl (Or.inl rfl)) (aV (av (i:=9) dD.nd rfl (Or.inl rfl)) gO)))))
   (η (zD (i:=10) dD.nd rfl (Or.inl rfl) (ys:=["_law_floor","_law_table_here"]) (af:=[3,6]) (.of dD rfl rfl rfl) (bD (jv 7)) (λC s H fp=>(ae fC hr (fW (P:=P) (w:=w)) (Ο (jv 2) (Ο (jv 3) (Ο (jv 0) (Ο (jv 1) θ)))))))
   (η (ω 11 dD.nd (ae ou hr ν (Ο (jv 10) (Ο (jv 2) (ι (c_ (ι υ (ι υ θ b_) b_)) θ wc)))))
   (η (ω 12 dD.nd (Ι (jv 6) (bN (jv 4) (dU E.cG (Ο (jv 1) θ)))))
   (η (ω 13 dD.nd (Ι (jv 6) (jv 8)))
   (η (kM (aM (cD hr (Ι (Ι (jv 1) (jv 8)) υ) gP) (μ (ω 13 dD.nd (c_ (ι υ (ι υ θ b_) b_)))) Τ))
   (η (iy (i:=14) dD.nd rfl (Or.inl rfl) (ys:=[]) (af:=[]) (.of dD rfl rfl rfl) (bD (jv 7)) (λC s H fp=>(c_ (ι υ (ι υ θ b_) b_))))
   (η (ω 13 dD.nd (ae ou hr ν (Ο (jv 14) (Ο (jv 2) (Ο (jv 13) θ)))))
   (η (ω 15 dD.nd (bA (aI (Ι (jv 9) υ) (Ι (jv 13) υ)) (aI (Ι (jv 13) υ) (Ι (jv 9) υ))))
   (η (ω 16 dD.nd (bA (aI (Ι (jv 12) υ) (Ι (jv 11) υ)) (aI (Ι (jv 11) υ) (Ι (jv 12) υ))))
   (η (aM (tQ hr (aI (aI (jv 15) (Ι (jv 12) υ)) (Ι (jv 11) υ)) (aI (aI (jv 16) (Ι (jv 9) υ)) (Ι (jv 13) υ))) (μ (Ζ O7)) Τ)
   (μ (Ζ (OM (S4 hr (bN (ae Υ hr ν (Ο (jv 0) (ι υ θ b_))) υ) υ) (jV (ae gx hr ν (Ο (jv 3) (Ο (jv 1) (Ο (jv 6) (Ο (jv 7) θ))))))))))))))))))))))))))),λds M q x h=>?_⟩)
 ·have⟨ns,rfl,_⟩:=h;rfl
 ·have⟨ns,rfl,hl,hq⟩:=h;refine⟨ns,rfl,λγ r1 r6 hg S8 WR=>dX (ow γ) ?_⟩;refine⟨ns,1,rfl,@_,@_,λn1 hn1 _=>⟨n1,rfl,λε hs=>?_⟩⟩;have pl:k8 ε γ:=⟨hs,(),λr hr=>(hg r hr).1⟩;have fw:=S5 hs r1 r6 hg;have⟨nI,b1,xw⟩:=Vf γ.length r6;walk_at "vc";refine Nv (ow γ) ?_;refine⟨M.length,.lst (γ.map aL),ε,γ.map aL,γ,λ_=>True,rfl,bM,rfl,zV γ,hs,r1,(),λr hr=>(hg r hr).1,rfl,IV ?_⟩;refine⟨ns,32,rfl,@_,@_,λn2 Ud _=>?_⟩;obtain⟨pc,epc,acb⟩:∃pc:Nat,n2 / 6 % 21=(pc:Int)/\pc<=20:=⟨(n2 / 6 % 21).toNat,(),()⟩;obtain⟨i,ei,il⟩:∃i:Nat,n2 % (γ.length:Int)=(i:Int)/\i < γ.length:=by have a:=aa8 n2 (show(γ.length:Int)≠0 by omega);have b:=aa1 n2 (show(0:Int) < γ.length by omega);exact⟨(n2 % (γ.length:Int)).toNat,(),()⟩
  refine⟨⟨@_,bg (k:=4) @_⟩,@_,?_⟩;dsimp only;rw[epc];refine⟨⟨(),()⟩,by rw[gs];exact aax (show _<=20 by omega) @_,?_⟩;refine nC (f:=Dt.int) (λ_=>True) _ [] (λ_ z=>(nomatch z)) (λx MJ q' nZ=>?_) λpicks ZV _=>?_
  ·have⟨j,hj,rfl⟩:=k7 MJ;have hj2:(j:Int) < 21:=()
   exact⟨ns,_,rfl,(),(),λn=>nZ n trivial⟩
  have ZV:picks.length<=20:=by rw[ZV,gs];simp;omega
  refine⟨ns,γ,rfl,r6,hg,λSd td=>dX (rf Sd) ?_⟩;refine⟨λρ M2=>∃(tb:List Fr) (N:Int) (E:Ms),Gb ε γ tb N/\(Gr ns 33 % 2=1->Wr ε γ tb)/\M2=M++E/\ρ=[some (.ir ns),some (.lst (γ.map aL)),some (Λ ε),some (ao Cm ε γ),some (.int n2),some (.lst (picks.map Dt.int)),some (.lst (tb.map Λ)),none,none,none,none,none,none,none,none,none,none],?_,?_⟩
  ·walk_at "vc";refine⟨ns,33,rfl,@_,@_,λn3 _ e3=>⟨@_,λu=>?_,λu=>?_⟩⟩
   ·have u:n3 % 2=1:=aao u;rw[e3]at u;refine⟨ε,γ,10 ^ 36,10 ^ 30,rfl,fw,nI,xw,b1,aax (Jq fw @_) (aax (WR u) @_),λp pa tb E fp Ri be=>?_⟩;have o:=UL fw fp Ri be;have⟨N,t⟩:=Gb.wth fw (o.dk fw) o.wt;exact⟨tb,N,E,t,λ_=>o.wr fw,rfl,rfl⟩
   ·have u:¬n3 % 2=1:=aa4 u;rw[e3]at u;have⟨N,t⟩:=Gb.drawn pl r6 td;exact⟨Sd,N,[],t,λz=>absurd z u,by simp,rfl⟩
  rintro ρ1 M1 ⟨tb,N,E1,t,wr,rfl,rfl⟩;generalize M++E1=M1;have hlen:∀{M':Ms} {q':DQ},q' (.int (γ.length:Int)) M'->iL [.lst (γ.map aL)] M' q':=λhq=>by refine aO (d:=.lst (γ.map aL)) (xs:=γ.map aL) rfl ?_;rw[aae];exact hq
  have tat:∀{j:Nat} {M':Ms} {q':DQ},j < γ.length->q' (Λ (tb.getD j (0,1))) M'->cI (.lst (tb.map Λ)) (.int (j:Int)) M' q':=λ{j M' q'} hj nZ=>by have:=(jD (t:=(j:Int)) t.fl () ()).1;exact Η (d:=.lst (tb.map Λ)) rfl this nZ
  dsimp only[Lg,O2];walk_at "vc";refine(hlen ?_:iL [.lst (γ.map aL)] _ _);refine⟨by show(0:Int) < (γ.length:Int);omega,?_⟩;rw[ei];refine⟨ε,γ,i,.lst (picks.map Dt.int),picks,λ_=>True,rfl,rfl,λ_=>trivial,pl,il,(),λR rR vR=>?_⟩;have⟨Z3,Sj⟩:=Ee pl picks i il;have pln:=z7 γ picks i;have T8:=wD pl t picks i il;have⟨ti1,ti2⟩:=Kf pl picks i il;rw[<-vR]at T8 ti1 ti2;generalize d7 γ i picks=st at *
  generalize gz γ i picks=la at *
  have atS:(M1++[MO.lst (st.map da)])[M1.length]? =some (.lst (st.map da)):=bM;generalize M1++[MO.lst (st.map da)]=M2 at *
  generalize M1.length=ks at *
  have Hw:st.length<=20:=()
  walk_at "vc";dsimp only[tG];show ft _ _ _ _ _;refine bC (i:=7) (d:=.loc ks) rfl (rA atS) ⟨by rw[aae];exact aax Hw @_,?_⟩;refine qc atS (stF (xq ε γ tb)) _ _ (λx hx q' nZ=>?_) ?_
  ·have⟨⟨a,b⟩,hs,rfl⟩:=aai.mp hx;have⟨k,ds,hi,bl⟩:=Z3 _ hs;have hi:γ[a]? =some (.ο k ds):=hi;have bl:b < ds.length:=bl;have nZ:q' (Λ (xq ε γ tb (a,b))) M2:=nZ;have eb:xq ε γ tb (a,b)=aa ε tb ds[b] a:=by unfold xq;show(match γ[a]? with| some (.ο _ ds)=>aa ε tb (ds.getD b d0) a| _=>(0,1))=_;rw[hi];show aa ε tb (ds.getD b d0) a=_;rw[aab,aaa bl];rfl
   rw[eb]at nZ;exact⟨ε,γ,tb,a,b,k,ds,ds[b],rfl,hi,aaa bl,t.fl,nZ⟩
  rw[aaW,ND];have⟨s0,s1,s2,s3⟩:=jY hs;have il2:=il;have⟨pb0,pb1⟩:=Ui pl r6;have n0:=t.n0;have Ub:N < 2 ^ 1600:=abN t.n1 (AL _);have E0:0 < pB γ * (ε.2 * N):=aap pb0 (aap s0 n0);have E1:pB γ * (ε.2 * N) < 2 ^ 2350:=by have y1:=abb s1 (aag Ub) (aag n0) @_;have y2:=abb (aag pb1) y1 (aag (aap s0 n0)) @_;exact aaE y2 @_
  have parts:∀p∈st.map (xq ε γ tb),Red p/\ju (val p) (pB γ * (ε.2 * N))/\ab (val p)<=(cB:Rat):=λp hp=>by
   have⟨⟨a,b⟩,hs,rfl⟩:=aai.mp hp;have⟨k,ds,hi,bl⟩:=Z3 _ hs;have hi:γ[a]? =some (.ο k ds):=hi;have bl:b < ds.length:=bl;have eb:xq ε γ tb (a,b)=aa ε tb ds[b] a:=by unfold xq;show(match γ[a]? with| some (.ο _ ds)=>aa ε tb (ds.getD b d0) a| _=>(0,1))=_;rw[hi];show aa ε tb (ds.getD b d0) a=_;rw[aab,aaa bl];rfl
   rw[eb];have hd:ds[b]∈ds:=aaq bl;have⟨_,y2,y3⟩:=t.FE pl hi hd;exact⟨(t.to pl hi hd).2.1,y2,y3⟩
  have Vw:Red ((0,1):Fr):=⟨@_,@_⟩;have zE:∀E:Int,ju (val ((0,1):Fr)) E:=λE=>by rw[QD];exact⟨0,by show(0:Rat) * _=((0:Int):Rat);grind⟩
  have zA:∀C:Int,0<=C->ab (val ((0,1):Fr))<=(C:Rat):=λC h=>by rw[QD];have:(0:Rat)<=(C:Rat):=aay.mpr h;exact eh.mpr ⟨by grind,this⟩
  have NS:=wN hs Vw (zE _) (zA cB @_) parts;have UP:=(ue (s:=ε) (l:=(0,1)) s0 Vw (ps:=st.map (xq ε γ tb)) λp hp=>(parts p hp).1.pos).1;rw[QD]at UP;have Vg:=NS.sz hs (by rw[aae];exact Hw) E0 E1 @_ @_;refine⟨gV,.lst ((st.map (xq ε γ tb)).map Λ),st.map (xq ε γ tb),ε,(0,1),pB γ * (ε.2 * N),cB,rfl,rfl,hs,parts,by rw[aae];exact Hw,Vw,zE _,zA cB @_,E0,E1,@_,@_,?_⟩;have rd:Red (hZ ε (st.map (xq ε γ tb)) (0,1)):=NS.rd;generalize hZ ε (st.map (xq ε γ tb)) (0,1)=ve at *
  refine(hlen ?_:iL [.lst (γ.map aL)] _ _);refine⟨by show(0:Int) < (γ.length:Int);omega,?_⟩;rw[ei];refine(tat il ?_:cI (.lst (tb.map Λ)) (.int (i:Int)) _ _);refine(tat Sj ?_:cI (.lst (tb.map Λ)) (.int (la:Int)) _ _);have rl:γ[la]? =some γ[la]:=aaa Sj;have rlm:γ[la]∈γ:=aaq Sj;have hrl:=hg _ rlm;generalize γ[la]=r at rl rlm hrl;have a1:nY (γ.map aL) (la:Int)=some (aL r):=ak (jN rl);refine⟨λρ M3=>M3=M2/\∃tl:Fr,Red tl/\ju (val tl) N/\ab (val tl)<=(cW:Rat)/\val tl=mw γ tb la/\ρ=[some (.ir ns),some (.lst (γ.map aL)),some (Λ ε),some (ao Cm ε γ),some (.int n2),some (.lst (picks.map Dt.int)),some (.lst (tb.map Λ)),some (.loc ks),some (.int (la:Int)),some (Λ R),some (.lst ((st.map (xq ε γ tb)).map Λ)),some (Λ ve),some (Λ (tb.getD i (0,1))),some (Λ tl),none,none,none],?_,?_⟩
  ·walk_at "vc";refine(Η (d:=.lst (γ.map aL)) rfl a1 ?_:cI (.lst (γ.map aL)) (.int (la:Int)) _ _);cases r with
   | fin e=>
    refine⟨λ_=>⟨gV,rfl,(0,1),Vw,zE _,zA cW @_,?_,rfl⟩,nofun⟩;unfold mw;rw[rl,QD]
   | ο k ds=>
    refine⟨λz=>aaP (aao z) hrl.1.1.1,λ_=>⟨rfl,tb.getD la (0,1),t.red la Sj,t.has la Sj,t.abs la Sj,?_,rfl⟩⟩;unfold mw;rw[rl]
  rintro ρ3 M3 ⟨rfl,tl,Yt,htl,atl,vtl,rfl⟩;walk_at "vc";show ft _ _ _ _ _;refine bC (i:=7) (d:=.loc ks) rfl (rA atS) ⟨by rw[aae];exact aax Hw @_,?_⟩;refine dt (F:=λx a=>x=da a/\a∈st) (f:=λa=>Λ (kT a)) atS (λx a ha q' nZ=>?_) (ig da st st λ_ h=>h) ?_
  ·exact⟨gV,nZ⟩
  rw[aaW,show st.map (λa=>Λ (kT a))=(st.map kT).map Λ by rw[aaN];rfl];have Yh:∀p∈st.map kT,Red p/\ju (val p) N/\ab (val p)<=(cW:Rat):=λp hp=>by have⟨a,_,rfl⟩:=aai.mp hp;exact⟨Vw,zE _,zA cW @_⟩
  have Oj:=wN hs Yt htl atl Yh;have UQ:=(ue (s:=ε) s0 Yt (ps:=st.map kT) λp hp=>(Yh p hp).1.pos).1;have RJ:=Oj.sz hs (by rw[aae];exact Hw) n0 Ub @_ @_;have rtt:=Oj.rd;refine⟨.lst ((st.map kT).map Λ),st.map kT,ε,tl,N,cW,rfl,rfl,hs,Yh,by rw[aae];exact Hw,Yt,htl,atl,n0,acA Ub @_,@_,@_,?_⟩;generalize hZ ε (st.map kT) tl=tt at *
  have R4:Sz (921+120) R:=by
   have⟨p0,p1⟩:=ES s0 s1 ZV;have m:=abb (aag pb1) (aag p1) (aag p0) @_;have n20:((picks.length+1:Nat):Int)<=21:=()
   have c:=aaA n20 (show(0:Int)<=10 ^ 30 by decide);exact yk rR ti1 (aap pb0 p0) (aaE m @_) ti2 (aba @_ ()) (aaE c @_)
  have R5:Sz 1720 (tb.getD i (0,1)):=(jD (t:=(i:Int)) t.fl () ()).2;have rF:=t.red i il;have key:=Q1 rR.pos rtt.pos rF.pos rd.pos (by rw[UQ,vtl,UP];exact T8);generalize tb.getD i (0,1)=fi at *
  have B1:=fE R4.1 RJ.2.2;have B2:=fE RJ.1 R4.2.2;have B3:=KP (Ey B1 (show _<=2971 by decide)) (Ey B2 (show _<=2971 by decide));have B4:=fE R5.1 Vg.2.2;have B5:=fE Vg.1 R5.2.2;have B6:=KP (Ey B4 (show _<=4400 by decide)) (Ey B5 (show _<=4400 by decide));have B7:=fE B3 R5.2.2;have B9:=fE B6 R4.2.2;refine jr (gc ⟨⟨bg R4.1,bg RJ.2.2⟩,?_⟩);refine(jr ?_:cI (Λ tt) (.int 0) _ _);refine(gc ?_:cI (Λ R) (.int 1) _ _);refine⟨⟨bg RJ.1,bg R4.2.2⟩,?_⟩;dsimp only[uP];refine(jr ?_:cI (Λ fi) (.int 0) _ _);refine(gc ?_:cI (Λ ve) (.int 1) _ _);refine⟨⟨bg R5.1,bg Vg.2.2⟩,?_⟩;refine(jr ?_:cI (Λ ve) (.int 0) _ _);refine(gc ?_:cI (Λ fi) (.int 1) _ _);refine⟨⟨bg Vg.1,bg R5.2.2⟩,?_⟩;refine(gc ?_:cI (Λ fi) (.int 1) _ _);refine⟨⟨bg B3,bg R5.2.2⟩,?_⟩;refine(gc ?_:cI (Λ ve) (.int 1) _ _);refine⟨⟨bg B7,bg Vg.2.2⟩,?_⟩;refine(gc ?_:cI (Λ R) (.int 1) _ _);refine⟨⟨bg B6,bg R4.2.2⟩,?_⟩;refine(gc ?_:cI (Λ tt) (.int 1) _ _);refine⟨⟨bg B9,bg RJ.2.2⟩,?_⟩;refine⟨λz=>?_,λ_=>?_⟩
  ·rw[Bool.not_eq_true',decide_eq_false_iff_not]at z;exact aaP key z
  refine⟨ns,33,rfl,@_,@_,λn3 _ e3=>⟨@_,?_⟩⟩;refine⟨λ_=>hq _,λz=>?_⟩;have z:¬n3 % 2=0:=aa4 z;have w1:=wr (by rw[<-e3];omega);exact⟨ε,γ,tb,N,st,.loc ks,_,rfl,rA atS,atS,pl,t,w1,S8,Z3,hq _⟩
structure FT(K:fI)(f:Addr)(x:Str)(st:Stmt):Prop where
 a:PySem.W.nsIn K mainGlobals x=some (some (.ref f))
 e:∃fd,dh K x x st f fd
structure FM(K:fI)(C f:Addr)(m x:Str)(st:Stmt):Prop where
 a:PySem.W.findIn K (.ref C) m=some (some (.ref f))
 i:PySem.W.isFn K (.ref f)=true
 e:∃fd,dh K m x st f fd
structure FV(K:fI)(f:Addr)(x:Str)(st:Stmt)(U:Addr)(its:Array Value):Prop where
 a:PySem.W.nsIn K mainGlobals x=some (some (.ref f))
 e:∃fd,Gg K x st U its f fd
section
variable{K:fI}{C:Addr}{m x:Str}{st:Stmt}{oc:Value}{od an:Option Addr}{Bu:Array (Option Value)}{kV doc pm aW ct:Value}
def FT.of(a:PySem.W.nsIn K mainGlobals x=some (some (.ref f)))(l:K.lookup f=some ⟨oc,od,.func (PySem.W.fnOf x x (gH st) (eD st) (χ st) .none kV doc pm an aW ct),Bu⟩)(c:PySem.W.codeIn K aW x=true)(k:PySem.W.keepIn K (.ref f)=true):FT K f x st:=⟨a,_,Kq l c k⟩
def FM.of(a:PySem.W.findIn K (.ref C) m=some (some (.ref f)))(i:PySem.W.isFn K (.ref f)=true)(l:K.lookup f=some ⟨oc,od,.func (PySem.W.fnOf m x (gH st) (eD st) (χ st) .none kV doc pm an aW ct),Bu⟩)(c:PySem.W.codeIn K aW x=true)(k:PySem.W.keepIn K (.ref f)=true):FM K C f m x st:=⟨a,i,_,Kq l c k⟩
def FV.of{U:Addr}{tc:Value}{td:Option Addr}{tn:Nat}{ts:Array (Option Value)}(a:PySem.W.nsIn K mainGlobals x=some (some (.ref f)))(l:K.lookup f=some ⟨oc,od,.func (PySem.W.fnOf x x (gH st) (eD st) (χ st) (.ref U) kV doc pm an aW ct),Bu⟩)(c:PySem.W.codeIn K aW x=true)(k:PySem.W.keepIn K (.ref f)=true)(t:K.lookup U=some ⟨tc,td,.seq its tn,ts⟩):FV K f x st U its:=⟨a,_,⟨_,_,_,_,_,_,_,_,_,rfl,l,c⟩,⟨_,_,t,rfl⟩,k⟩
end
section
variable{P:List Value->Prop}
def Up(h:P []):∀us:List Value,us.length=0->P us
 | [],_=>h
 | _::_,e=>nomatch e
def gu(h:∀a0:Value,P [a0]):∀us:List Value,us.length=1->P us
 | [],e=>nomatch e
 | a::us,e=>Up (P:=λus=>P (a::us)) (h a) us (Nat.succ.inj e)
def cK(h:∀a0 a1:Value,P [a0,a1]):∀us:List Value,us.length=2->P us
 | [],e=>nomatch e
 | a::us,e=>gu (P:=λus=>P (a::us)) (h a) us (Nat.succ.inj e)
def fA(h:∀a0 a1 a2:Value,P [a0,a1,a2]):∀us:List Value,us.length=3->P us
 | [],e=>nomatch e
 | a::us,e=>cK (P:=λus=>P (a::us)) (h a) us (Nat.succ.inj e)
def vg(h:∀a0 a1 a2 a3:Value,P [a0,a1,a2,a3]):∀us:List Value,us.length=4->P us
 | [],e=>nomatch e
 | a::us,e=>fA (P:=λus=>P (a::us)) (h a) us (Nat.succ.inj e)
def OT(h:∀a0 a1 a2 a3 a4:Value,P [a0,a1,a2,a3,a4]):∀us:List Value,us.length=5->P us
 | [],e=>nomatch e
 | a::us,e=>vg (P:=λus=>P (a::us)) (h a) us (Nat.succ.inj e)
end
def xn{K:fI}(h:PySem.W.subIn K (.type "int") (.type "bool")=some false):PySem.W.kitOne K (.type "int") (.type "bool")=some false:=by unfold PySem.W.kitOne PySem.W.kitCls;rw[aaC (by decide+kernel)];show(if PySem.W.kitMeta "bool"=true then _ else _)=_;rw[aaz (by decide+kernel)];exact h
def Ad{K:fI}(h:PySem.W.subIn K (.type "int") (.type "str")=some false):PySem.W.kitOne K (.type "int") (.type "str")=some false:=by unfold PySem.W.kitOne PySem.W.kitCls;rw[aaC (by decide+kernel)];show(if PySem.W.kitMeta "str"=true then _ else _)=_;rw[aaz (by decide+kernel)];exact h
def uV{K:fI}(h:PySem.W.subIn K (.type "tuple") (.type "str")=some false):PySem.W.kitOne K (.type "tuple") (.type "str")=some false:=by unfold PySem.W.kitOne PySem.W.kitCls;rw[aaC (by decide+kernel)];show(if PySem.W.kitMeta "str"=true then _ else _)=_;rw[aaz (by decide+kernel)];exact h
def uH{K:fI}(h:PySem.W.subIn K (.type "tuple") (.type "int")=some false):PySem.W.kitOne K (.type "tuple") (.type "int")=some false:=by unfold PySem.W.kitOne PySem.W.kitCls;rw[aaC (by decide+kernel)];show(if PySem.W.kitMeta "int"=true then _ else _)=_;rw[aaz (by decide+kernel)];exact h
def wR{K:fI}(h:PySem.W.subIn K (.type "list") (.type "str")=some false):PySem.W.kitOne K (.type "list") (.type "str")=some false:=by unfold PySem.W.kitOne PySem.W.kitCls;rw[aaC (by decide+kernel)];show(if PySem.W.kitMeta "str"=true then _ else _)=_;rw[aaz (by decide+kernel)];exact h
def yg{K:fI}(h:PySem.W.subIn K (.type "list") (.type "int")=some false):PySem.W.kitOne K (.type "list") (.type "int")=some false:=by unfold PySem.W.kitOne PySem.W.kitCls;rw[aaC (by decide+kernel)];show(if PySem.W.kitMeta "int"=true then _ else _)=_;rw[aaz (by decide+kernel)];exact h
def tq{K:fI}(h:PySem.W.subIn K (.type "tuple") (.type "list")=some false):PySem.W.kitOne K (.type "tuple") (.type "list")=some false:=by unfold PySem.W.kitOne PySem.W.kitCls;rw[aaC (by decide+kernel)];show(if PySem.W.kitMeta "list"=true then _ else _)=_;rw[aaz (by decide+kernel)];exact h
def r9{K:fI}(h:PySem.W.subIn K (.type "list") (.type "tuple")=some false):PySem.W.kitOne K (.type "list") (.type "tuple")=some false:=by unfold PySem.W.kitOne PySem.W.kitCls;rw[aaC (by decide+kernel)];show(if PySem.W.kitMeta "tuple"=true then _ else _)=_;rw[aaz (by decide+kernel)];exact h
def Qi{K:fI}{a:Addr}{t1 t2 t3:Tok}(h1:PySem.W.nsIn K a "one"=some (some (.str "other" t1)))(h2:PySem.W.nsIn K a "other"=some (some (.str "one" t2)))(h3:PySem.W.nsIn K a "chance"=some (some (.str "chance" t3))){z y:Str}(h:([("one","other"),("other","one"),("chance","chance")]:List (Str×Str)).lookup z=some y):∃tk,PySem.W.nsIn K a z=some (some (.str y tk)):=by
 rw[abB]at h;split at h
 ·rename_i e;cases abH.mp e;cases h;exact⟨_,h1⟩
 rw[abB]at h;split at h
 ·rename_i e;cases abH.mp e;cases h;exact⟨_,h2⟩
 rw[abB]at h;split at h
 ·rename_i e;cases abH.mp e;cases h;exact⟨_,h3⟩
 cases h
open PySem.W in
def all_mk{l:OpenLaw}{w:World}{K:Frag}{h:Heap}{fa Cm Fm SV f1 f2 f3 f4 f5 f6 f7 f8 f9 f10 f11 f12 f13 f14 f15 WR f17 f18 f19 f20 f21 f22 f23 f24 f25 f26 f27 f28 f29 f30 f31 f32 f33 f34 f35 f36 f37 f38 f39 f40 f41 f42 f43 f44 f45 f46 f47 f48 f49 f50 f51 f52 f53 f54 f55 f56 f57 f58 f59 f60 f61 f62 f63 f64 f65 f66:Addr}(X:K.In h)(G:h.Ns mainGlobals mg)(hfa:mg "law"=some (.ref fa))
  {xh u_ uY mi:Tok}
  (yq:nsIn K mainGlobals "MOST_DOORS"=some (some (.int (6) xh)))
  (uD:nsIn K mainGlobals "MOST_BOTTOM"=some (some (.int (1000000) u_)))
  (uF:nsIn K mainGlobals "MOST_PLACES"=some (some (.int (12) uY)))
  (md:nsIn K mainGlobals "MOST_SHARE_BOTTOM"=some (some (.int (1000) mi)))
  (Mx:nsIn K mainGlobals "Floor"=some (some (.ref Cm))) (fL:plainGet K Cm Str.empty=true) (fX:hasDictIn K Cm=true) (fT:plainOver K Cm=true) (fM:findIn K (.ref Cm) "__setattr__"=some (some (.builtin "object.__setattr__"))) (MV:makesIn K Cm=true) (N6:keepIn K (.ref Cm)=true)
  (xF:findIn K (.ref Cm) "kept_rows"=some none)
  (uI:findIn K (.ref Cm) "kept_share"=some none)
  {Lo II:Tok} {Lq:Option Addr} {JJ:Array (Option Value)} {Kw:Nat} (K':nsIn K mainGlobals "HANDS"=some (some (.ref Fm))) (J4:K.lookup Fm=some ⟨.type "tuple",Lq,.seq #[(.str "one" Lo),(.str "other" II)] Kw,JJ⟩)
  (zZ:subIn K (.type "int") (.type "bool")=some false)
  (Dy:subIn K (.type "int") (.type "str")=some false)
  (yF:subIn K (.type "tuple") (.type "str")=some false)
  (yx:subIn K (.type "tuple") (.type "int")=some false)
  (Bf:subIn K (.type "list") (.type "str")=some false)
  (AR:subIn K (.type "list") (.type "int")=some false)
  (vb:subIn K (.type "tuple") (.type "list")=some false)
  (va:subIn K (.type "list") (.type "tuple")=some false)
  (t1:FT K f1 "_law_far" wO)
  (t2:FT K f2 "_law_number" m_)
  (t3:FT K f3 "_law_lowest" mW)
  (t4:FT K f4 "_law_pay" xQ)
  (t5:FT K f5 "_law_rest" um)
  (t6:FT K f6 "_law_doors" pY)
  (t7:FT K f7 "_law_rows" tD)
  (t8:FT K f8 "_law_share" pM)
  (t9:FT K f9 "fits_share" mQ)
  (t10:FT K f10 "fits_pay" rJ)
  (t11:FT K f11 "fits_door" pP)
  (t12:FT K f12 "fits_doors" mM)
  (t13:FT K f13 "common_divisor" hG)
  (t14:FT K f14 "common_bottom" iI)
  (t15:FT K f15 "fits_chances" jF)
  (t16:FT K WR "fits_row" si)
  (t17:FT K f17 "copied_row" nA)
  (t18:FM K Cm f18 "__init__" "Floor.__init__" nj)
  (t19:FT K f19 "_law_pick" t_)
  (t20:FT K f20 "_law_table" pE)
  (t21:FM K Cm f21 "size" "Floor.size" mN)
  (t22:FM K Cm f22 "kind" "Floor.kind" mJ)
  (t23:FT K f23 "places_of" pd)
  (t24:FT K f24 "first_plan" nF)
  (t25:FT K f25 "started" sU)
  (t26:FM K Cm f26 "doors" "Floor.doors" kI)
  (t27:FT K f27 "has_door" rG)
  (t28:FT K f28 "doors_of" ug)
  (t29:FT K f29 "with_weights" jK)
  (t30:FT K f30 "number_of_head" iN)
  (t31:FT K f31 "moved_ahead" kL)
  (t32:FT K f32 "cleared_line" jz)
  (t33:FT K f33 "cleared" tF)
  (t34:FT K f34 "fraction" pI)
  (t35:FT K f35 "quotients" nu)
  (t36:FT K f36 "answer_of" o_)
  (t37:FT K f37 "minus" Cw)
  (t38:FT K f38 "times" DB)
  (t39:FT K f39 "whole_row" oQ)
  (t40:FT K f40 "led_row" yu)
  (t41:FM K Cm f41 "pay" "Floor.pay" oY)
  (t42:FM K Cm f42 "share" "Floor.share" lC)
  (t43:FT K f43 "ways_from" pv)
  (t44:FT K f44 "plus" Jv)
  (t45:FT K f45 "weighed" uo)
  (t46:FT K f46 "row_of" Cq)
  (t47:FT K f47 "worths_by" p_)
  (t48:FT K f48 "worths_against" hV)
  (t49:FM K Cm f49 "shown" "Floor.shown" ly)
  (t50:FM K Cm f50 "all_shown" "Floor.all_shown" g8)
  (t51:FT K f51 "under" Cj)
  (t52:FT K f52 "greatest" pG)
  (t53:FT K f53 "least" BX)
  (t54:FM K Cm f54 "look" "Floor.look" nB)
  (t55:FM K Cm f55 "best" "Floor.best" mK)
  (t56:FT K f56 "better_doors" jR)
  (t57:FT K f57 "against" sO)
  {U58:Addr} {IA:Tok} (t58:FV K f58 "mended" yj U58 #[.str "one" IA,.none])
  (t59:FT K f59 "worths" wV)
  (t60:FT K f60 "chance_door" lM)
  (t61:FT K f61 "door_by" yN)
  (t62:FT K f62 "played" yB)
  (t63:FT K f63 "brought" rY)
  (t64:FT K f64 "_law_sum" xE)
  (t65:FT K f65 "_law_worth_rules" ik)
  (t66:FT K f66 "law" Rk)
  (UI:nsIn K mainGlobals "len"=some none)
  (S9:nsIn K mainGlobals "abs"=some none)
  (wJ:nsIn K mainGlobals "isinstance"=some none)
  (TJ:nsIn K mainGlobals "int"=some none)
  (QO:nsIn K mainGlobals "bool"=some none)
  (Ux:nsIn K mainGlobals "str"=some none)
  (NV:nsIn K mainGlobals "tuple"=some none)
  (Rm:nsIn K mainGlobals "list"=some none)
  (NY:nsIn K mainGlobals "range"=some none)
  (zw:nsIn K mainGlobals "enumerate"=some none)
  (S3:nsIn K mainGlobals "any"=some none)
  (S':nsIn K mainGlobals "all"=some none)
  (SK:nsIn K mainGlobals "sum"=some none)
  (SX:nsIn K mainGlobals "zip"=some none)
  (Rh:nsIn K mainGlobals "dict"=some none)
  (Um:nsIn K mainGlobals "min"=some none)
  (Tw:nsIn K mainGlobals "max"=some none)
  {Vo:Array DictEntry} {nTK:Nat} {YV WH Yy:Tok}
  (WU:nsIn K mainGlobals "TURNED_KINDS"=some (some (.ref SV)))
  (W_:K.lookup SV=some ⟨.type "dict",none,.dict Vo nTK,#[]⟩)
  (XM:KeysLit w.params Vo.toList)
  (XT:nsIn K SV "one"=some (some (.str "other" YV)))
  (Za:nsIn K SV "other"=some (some (.str "one" WH)))
  (ZO:nsIn K SV "chance"=some (some (.str "chance" Yy)))
  :∃fd:FuncData,(∀(s:Shared) (v:Value),BindsTo s fd ⟨[v],[]⟩ [("_law_script",v)])/\∀base:Heap,K.In base->base.Ns mainGlobals mg->aw l.prog w K mg base VJ 12 fa fd ["_law_script"] (AS K):=by
 have⟨a1,_,F1⟩:=t1;have⟨a2,_,F2⟩:=t2;have⟨a3,_,F3⟩:=t3;have⟨a4,_,F4⟩:=t4;have⟨a5,_,F5⟩:=t5;have⟨a6,_,F6⟩:=t6;have⟨a7,_,F7⟩:=t7;have⟨a8,_,F8⟩:=t8;have⟨a9,_,F9⟩:=t9;have⟨Yz,_,Z0⟩:=t10;have⟨a11,_,Xs⟩:=t11;have⟨a12,_,WX⟩:=t12;have⟨a13,_,Xh⟩:=t13;have⟨a14,_,Zx⟩:=t14;have⟨a15,_,YY⟩:=t15;have⟨a16,_,ZD⟩:=t16;have⟨a17,_,Zy⟩:=t17;have⟨a18,i18,_,F18⟩:=t18;have⟨a19,_,XB⟩:=t19;have⟨a20,_,YI⟩:=t20;have⟨a21,i21,_,Y9⟩:=t21;have⟨a22,i22,_,Zu⟩:=t22;have⟨a23,_,X1⟩:=t23;have⟨a24,_,YG⟩:=t24;have⟨a25,_,Zt⟩:=t25;have⟨a26,i26,_,X_⟩:=t26;have⟨a27,_,Yd⟩:=t27;have⟨a28,_,Zf⟩:=t28;have⟨a29,_,ZU⟩:=t29;have⟨a30,_,Yi⟩:=t30;have⟨a31,_,YS⟩:=t31;have⟨a32,_,Zd⟩:=t32;have⟨a33,_,ZY⟩:=t33;have⟨a34,_,W6⟩:=t34;have⟨a35,_,Y7⟩:=t35;have⟨a36,_,Xk⟩:=t36;have⟨a37,_,ZC⟩:=t37;have⟨a38,_,WQ⟩:=t38;have⟨a39,_,Y1⟩:=t39;have⟨a40,_,YH⟩:=t40;have⟨a41,i41,_,XZ⟩:=t41;have⟨a42,i42,_,Yb⟩:=t42;have⟨a43,_,XI⟩:=t43;have⟨a44,_,Xc⟩:=t44;have⟨a45,_,YQ⟩:=t45;have⟨a46,_,Xa⟩:=t46;have⟨a47,_,Zw⟩:=t47;have⟨a48,_,XF⟩:=t48;have⟨a49,i49,_,YZ⟩:=t49;have⟨a50,i50,_,XW⟩:=t50;have⟨a51,_,Ze⟩:=t51;have⟨a52,_,WD⟩:=t52;have⟨a53,_,ZM⟩:=t53;have⟨a54,i54,_,XQ⟩:=t54;have⟨a55,i55,_,ZR⟩:=t55;have⟨a56,_,Zg⟩:=t56;have⟨a57,_,XN⟩:=t57;have⟨a58,_,Y5⟩:=t58;have⟨a59,_,WS⟩:=t59;have⟨a60,_,Y2⟩:=t60;have⟨a61,_,ZJ⟩:=t61;have⟨a62,_,ZG⟩:=t62;have⟨a63,_,X9⟩:=t63;have⟨a64,_,XS⟩:=t64;have⟨a65,_,XA⟩:=t65;have⟨a66,dL,F66⟩:=t66;have e:=hfa.symm.trans (mg_of X G a66);cases e;have xg:=mg_of X G yq;have uK:=mg_of X G uD;have u6:=mg_of X G uF;have l':=mg_of X G md;have cG:=mg_none_of X G UI;have rT:=mg_none_of X G S9;have jL:=mg_none_of X G wJ;have Fj:=mg_none_of X G TJ;have BF:=mg_none_of X G QO;have Kc:=mg_none_of X G Ux;have xf:=mg_none_of X G NV;have mU:=mg_none_of X G Rm;have cU:=mg_none_of X G NY;have eW:=mg_none_of X G zw;have EE:=mg_none_of X G S3;have Fo:=mg_none_of X G S';have AA:=mg_none_of X G SK;have vq:=mg_none_of X G SX;have tE:=mg_none_of X G Rh;have DV:=mg_none_of X G Um;have KJ:=mg_none_of X G Tw;have E:Ev K mg w Cm:={cG:=cG,rT:=rT,jL:=jL,Fj:=Fj,BF:=BF,Kc:=Kc,xf:=xf,mU:=mU,cU:=cU,eW:=eW,EE:=EE,Fo:=Fo,AA:=AA,vq:=vq,tE:=tE,DV:=DV,KJ:=KJ,ib:=xn zZ,kis:=Ad Dy,kts:=uV yF,kti:=uH yx,kls:=wR Bf,kli:=yg AR,ktl:=tq vb,klt:=r9 va,d9:=⟨fL,fX,fT,fM⟩,cR:=xF,fQ:=uI,rP:=⟨_,_,_,_,mg_of X G K',J4,rfl,rfl,gV,.cons ⟨_,rfl⟩ (.cons ⟨_,rfl⟩ .nil)⟩,mj:=⟨_,_,_,mg_of X G WU,W_,XM,λz y h=>Qi XT Za ZO h⟩,qo:=⟨_,xg⟩,jM:=⟨_,uK⟩,oy:=⟨_,u6⟩,gW:=⟨_,l'⟩};refine⟨dL,λs v=>by have⟨_,_,_,_,_,_,_,_,_,rfl,_⟩:=F66.ex;exact .of_eq rfl,λbase _ _=>?_⟩;have mc:=@ax.mk l.prog w K mg base;have je:=(Hm F1 E)&&&(F1,a1,cK λ_ _=>rfl);have Υ:=(yK F2 E je)&&&(F2,a2,cK λ_ _=>rfl);have aF:=(yv F3 E)&&&(F3,a3,cK λ_ _=>rfl);have i4:=(Gf F4 E aF)&&&(F4,a4,gu λ_=>rfl);have pZ:=(Dp F5 E Υ je)&&&(F5,a5,cK λ_ _=>rfl);have mE:=(Af F6 E Υ i4 pZ aF)&&&(F6,a6,OT λ_ _ _ _ _=>rfl);have pk:=(BP F7 E Υ i4 mE)&&&(F7,a7,fA λ_ _ _=>rfl);have mD:=(AI F8 E aF)&&&(F8,a8,gu λ_=>rfl);have kH:=(yy F9 E)&&&(F9,a9,gu λ_=>rfl);have gS:=(CA Z0 E)&&&(Z0,Yz,gu λ_=>rfl);have nE:=(A1 Xs E gS)&&&(Xs,a11,cK λ_ _=>rfl);have iC:=(yC WX E nE)&&&(WX,a12,cK λ_ _=>rfl);have b6:=(pK Xh E)&&&(Xh,a13,cK λ_ _=>rfl);have aU:=(qL Zx E b6)&&&(Zx,a14,gu λ_=>rfl);have iG:=(uy YY E aU)&&&(YY,a15,gu λ_=>rfl);have qb:=(BR ZD E gS iC iG)&&&(ZD,a16,cK λ_ _=>rfl);have kJ:=(w_ Zy E)&&&(Zy,a17,gu λ_=>rfl);have kF:QS l.prog w K mg base _ "Floor" Cm _ _ _ _:=⟨xV F18 E kH qb kJ,(F18.binds λ_ _ _ _ _ _=>fA λ_ _ _=>rfl),⟨MV,a18,i18,N6⟩,mg_of X G Mx⟩;have pF:=(Cc XB E Υ)&&&(XB,a19,cK λ_ _=>rfl);have nJ:=(zg YI E Υ aF)&&&(YI,a20,cK λ_ _=>rfl);have aZ:cy l.prog w K mg base _ Cm "size" _ _ _ _:=(xr Y9 E)|||(Y9,a21,i21,gu λ_=>rfl);have Κ:cy l.prog w K mg base _ Cm "kind" _ _ _ _:=(yc Zu E)|||(Zu,a22,i22,cK λ_ _=>rfl);have mR:=(zU X1 E aZ Κ)&&&(X1,a23,cK λ_ _=>rfl);have eR:=(x5 YG E mR)&&&(YG,a24,cK λ_ _=>rfl);have pW:=(CD Zt E eR)&&&(Zt,a25,fA λ_ _ _=>rfl);have ai:cy l.prog w K mg base _ Cm "doors" _ _ _ _:=(uN X_ E Κ)|||(X_,a26,i26,cK λ_ _=>rfl);have p7:=(C5 Yd E ai)&&&(Yd,a27,fA λ_ _ _=>rfl);have pL:=(BK Zf E aZ Κ p7)&&&(Zf,a28,cK λ_ _=>rfl);have iH:=(sT ZU E)&&&(ZU,a29,gu λ_=>rfl);have ic:=(qM Yi E)&&&(Yi,a30,fA λ_ _ _=>rfl);have jC:=(uW YS E)&&&(YS,a31,fA λ_ _ _=>rfl);have fY:=(uh Zd E)&&&(Zd,a32,vg λ_ _ _ _=>rfl);have pN:=(Bw ZY E iH ic jC fY)&&&(ZY,a33,cK λ_ _=>rfl);have bF:=(Ai W6 E b6)&&&(W6,a34,cK λ_ _=>rfl);have lB:=(x_ Y7 E bF)&&&(Y7,a35,vg λ_ _ _ _=>rfl);have nv:=(Ak Xk E pN lB)&&&(Xk,a36,gu λ_=>rfl);have lV:=(J' ZC E bF)&&&(ZC,a37,cK λ_ _=>rfl);have df:=(Lj WQ E bF)&&&(WQ,a38,cK λ_ _=>rfl);have mX:=(AB Y1 E aU)&&&(Y1,a39,gu λ_=>rfl);have nL:=(Hv YH E aZ lV df mX)&&&(YH,a40,OT λ_ _ _ _ _=>rfl);have cX:cy l.prog w K mg base _ Cm "pay" _ _ _ _:=(zC XZ E Κ)|||(XZ,a41,i41,cK λ_ _=>rfl);have cN:cy l.prog w K mg base _ Cm "share" _ _ _ _:=(uM Yb E)|||(Yb,a42,i42,gu λ_=>rfl);have nh:=(zj XI E ai Κ)&&&(XI,a43,fA λ_ _ _=>rfl);have iM:=(NG Xc E bF)&&&(Xc,a44,cK λ_ _=>rfl);have gR:=(Cp YQ E iM df)&&&(YQ,a45,cK λ_ _=>rfl);have yG:=(La Xa E Κ nL cX cN nh gR)&&&(Xa,a46,fA λ_ _ _=>rfl);have mH:=(Be Zw E nv aZ yG)&&&(Zw,a47,cK λ_ _=>rfl);have eC:=(pU XF E mH)&&&(XF,a48,fA λ_ _ _=>rfl);have dN:cy l.prog w K mg base _ Cm "shown" _ _ _ _:=(uS YZ E iM df)|||(YZ,a49,i49,vg λ_ _ _ _=>rfl);have aX:cy l.prog w K mg base _ Cm "all_shown" _ _ _ _:=(pO XW E ai dN)|||(XW,a50,i50,fA λ_ _ _=>rfl);have l7:=(Ky Ze E)&&&(Ze,a51,cK λ_ _=>rfl);have mL:=(y9 WD E l7)&&&(WD,a52,gu λ_=>rfl);have yw:=(Ls ZM E l7)&&&(ZM,a53,gu λ_=>rfl);have kX:cy l.prog w K mg base _ Cm "look" _ _ _ _:=(yD XQ E Κ cX gR aX ai mL yw)|||(XQ,a54,i54,fA λ_ _ _=>rfl);have k4:cy l.prog w K mg base _ Cm "best" _ _ _ _:=(xa ZR E Κ kX aX)|||(ZR,a55,i55,fA λ_ _ _=>rfl);have ck:=(sA Zg E k4)&&&(Zg,a56,fA λ_ _ _=>rfl);have pX:=(C_ XN E pL eR eC ck)&&&(XN,a57,fA λ_ _ _=>rfl);have IZ:=FR Y5 E (P:=l.prog) (base:=base) pW pX ck
 have pR:RS l.prog w K mg base _ "mended" _ _ [Dt.str "one",Dt.bU] _ _:=⟨IZ,⟨[V.str "one",V.bU],[Value.str "one" IA,Value.none],Y5.binds (λ_ _ _ _ _ _ us hl=>by
  obtain⟨a0,rfl⟩:∃a0,us=[a0]:=gu (P:=λus=>∃a0,us=[a0]) (λa0=>⟨a0,rfl⟩) us (by simpa using hl)
  exact⟨_,rfl,rfl⟩),(.cons ⟨_,rfl⟩ (.cons rfl .nil)),λ_ _=>⟨_,_,rfl,rfl,⟨_,_,rfl,rfl,rfl⟩⟩⟩,mg_of X G a58,Y5.kp⟩
 have rM:=(FQ WS E pR)&&&(WS,a59,gu λ_=>rfl);have jw:=(uX Y2 E aU)&&&(Y2,a60,cK λ_ _=>rfl);have sL:=(Gn ZJ E ai Κ jw)&&&(ZJ,a61,fA λ_ _ _=>rfl);have tY:=(Gi ZG E Κ sL ai iM df cN cX)&&&(ZG,a62,fA λ_ _ _=>rfl);have fC:=(Dr X9 E lV dN)&&&(X9,a63,vg λ_ _ _ _=>rfl);have ou:=(HF XS E aF)&&&(XS,a64,fA λ_ _ _=>rfl);have gx:=(pT XA E fC)&&&(XA,a65,vg λ_ _ _ _=>rfl);exact Qw (Pu F66 E pk mD Υ kF pF nJ rM tY fC ou gx)
def walk{l:PySem.W.OpenLaw}{q:Program}{loose:List Str}{XP:(Str->Option Value)->Heap->Prop}{YP:World->Heap->Prop}{d:DefRec}{K:Params->fI}(hn:l.most=some 63)(Tz:d.params.defaults=[])
  (hY:∀(w:World) (h:Heap),YP w h->(K w.params).In h)
  (F:∀(w:World) (mg:Str->Option Value) (fa:Addr) (h:Heap),(K w.params).In h->h.Ns mainGlobals mg->mg d.name=some (.ref fa)->
   ∃fd:FuncData,(∀(s:Shared) (u:Value),BindsTo s fd ⟨[u],[]⟩ [("_law_script",u)])/\∀base:Heap,(K w.params).In base->base.Ns mainGlobals mg->aw l.prog w (K w.params) mg base VJ 12 fa fd ["_law_script"] (AS (K w.params))):
  PySem.W.WalkO q loose XP YP l.row.toRowW d [] (λf vs=>PySem.call f vs):=
 L2.yM (n:=63) (k:=12) (x:="_law_script") (CX:=λ_=>VJ) (sp:=λw=>AS (K w.params)) hn @_ Tz ⟨rfl,@_,@_⟩ hY F (λ_ _ a ns hl _ hS=>⟨a,ns,rfl,hS,hl,λ_=>rfl⟩) λ_ _ _ _ _ z=>z
end
end Pg
open PySem PySem.W PyProof.Rows
set_option maxRecDepth 100000 in
set_option maxHeartbeats 0 in
theorem PySem.Challenge.cw_chanceduel_k63_whole_a_play_accounted_fo_holds : PySem.Challenge.rw_chanceduel_k63_whole_a_play_accounted_fo.Holds := by
 w_on;o_law
 refine holds_open (q:=Hd.q) (loose:=["TURNED_KINDS","mended"]) (Xt:=Hd.Xt) (XP:=XL Hd.q [])
  (Yf:=Hd.H.obs) (Ya:=Hd.H.val) (YP:=Hd.H.says) Hd.left Hd.H.of Hd.H.keeps
  (λs e=>xl_of s (Bool.and_eq_true_iff.mp e).1) XL.keeps (by rfl) (by rfl) (by rfl)
  (λs e=>recFacts_of (Bool.and_eq_true_iff.mp e).2) (by rfl) (by assumption) (by decide+kernel)
  ⟨rfl,rfl,rfl,rfl,rfl,by decide+kernel⟩ ?hw ?hc
 (case hw=>w_witness2)
 refine Pg.walk (l:=PySem.Challenge.rw_chanceduel_k63_whole_a_play_accounted_fo) rfl rfl (fun w h Y=>PySem.W.kIn_of Y) ?F
 case F=>
  k_fill
  intro w mg fa h KX G MI
  refine' Pg.all_mk KX G MI ?_ ?_ ?_ ?_ ?_ ?_ ?_ ?_ ?_ ?_ ?_ ?_ ?_ ?_ ?_ ?_ ?_ ?_ ?_ ?_ ?_ ?_ ?_ ?_ ?_ ?_ ?_ ?_ ?_ ?_ ?_ ?_ ?_ ?_ ?_ ?_ ?_ ?_ ?_ ?_ ?_ ?_ ?_ ?_ ?_ ?_ ?_ ?_ ?_ ?_ ?_ ?_ ?_ ?_ ?_ ?_ ?_ ?_ ?_ ?_ ?_ ?_ ?_ ?_ ?_ ?_ ?_ ?_ ?_ ?_ ?_ ?_ ?_ ?_ ?_ ?_ ?_ ?_ ?_ ?_ ?_ ?_ ?_ ?_ ?_ ?_ ?_ ?_ ?_ ?_ ?_ ?_ ?_ ?_ ?_ ?_ ?_ ?_ ?_ ?_ ?_ ?_ ?_ ?_ ?_ ?_ ?_ ?_ ?_ ?_ ?_ ?_
  all_goals try first| (refine' Pg.FT.of ?_ ?_ ?_ ?_ <;> try k_is)| (refine' Pg.FM.of ?_ ?_ ?_ ?_ ?_ <;> try k_is)| (refine' Pg.FV.of ?_ ?_ ?_ ?_ ?_ <;> try k_is)| k_is| k_exc| kernel_rfl
  all_goals try exact⟨⟨_,_,rfl,rfl⟩,⟨_,_,rfl,rfl⟩,⟨_,_,rfl,rfl⟩,trivial⟩
