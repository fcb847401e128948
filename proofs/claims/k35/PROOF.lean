import PyProof.Rows.All
import Wide.All
import OpenK.AllK
import Wide.FinOn
import Lean
import PyProof.EqAt
import PyProof.EqKinds
import PyProof.TupleCall
import PyProof.NeKinds
import PyProof.ZipIter
import PyProof.DictUpdate
import PyProof.FactsAll.dict_1
import PyProof.DictIter
import PyProof.DictWalks
import PySem.Challenge.RW_chanceduel_k35_whole_plans_that_hold
set_option Elab.async false
set_option linter.all false
set_option maxRecDepth 100000
set_option maxHeartbeats 4000000
def aaa:=@List.getElem?_eq_getElem
def aab:=@List.getD_eq_getElem?_getD
def aac:=@List.mem_cons_of_mem
def aad:=@List.length_map
def aae:=@List.mem_cons_self
def aaf:=@List.getElem?_eq_some_iff
def aag:=@List.length_append
def aah:=@Nat.le_refl
def aai:=@Int.le_of_lt
def aaj:=@List.mem_map
def aak:=@List.mem_of_getElem?
def aal:=@List.getElem?_append_right
def aam:=@List.getElem?_map
def aan:=@Int.mul_le_mul_of_nonneg_left
def aao:=@List.getElem?_append_left
def aap:=@Nat.lt_of_lt_of_le
def aaq:=@Nat.le_trans
def aar:=@Bool.and_eq_true
def aas:=@Option.some.inj
def aat:=@Bool.false_ne_true
def aau:=@List.length_cons
def aav:=@List.mem_append_right
def aaw:=@Int.lt_of_le_of_lt
def aax:=@List.getElem_mem
def aay:=@List.mem_cons
def aaz:=@List.size_toArray
def aaA:=@Int.mul_le_mul_of_nonneg_right
def aaB:=@List.map_cons
def aaC:=@List.map_map
def aaD:=@Rat.intCast_mul
def aaE:=@Nat.ne_of_lt
def aaF:=@List.getElem?_range
def aaG:=@Int.eq_of_mul_eq_mul_left
def aaH:=@Int.mul_pos
def aaI:=@List.append_assoc
def aaJ:=@Rat.mul_le_mul_of_nonneg_left
def aaK:=@Nat.lt_of_le_of_lt
def aaL:=@Int.emod_lt_of_pos
def aaM:=@List.length_range
def aaN:=@List.mem_append
def aaO:=@List.nil_append
def aaP:=@Int.emod_nonneg
def aaQ:=@List.length_replicate
def aaR:=@Int.mul_comm
def aaS:=@List.map_append
def aaT:=@List.map_congr_left
def aaU:=@Rat.intCast_le_intCast
def aaV:=@List.append_nil
def aaW:=@List.mem_range
def aaX:=@List.getElem_of_mem
def aaY:=@Int.mul_nonneg
def aaZ:=@Int.natAbs_mul
def aa0:=@Int.natAbs_of_nonneg
def aa1:=@List.getElem?_set_self
def aa2:=@List.length_set
def aa3:=@List.replicate_succ
def aa4:=@List.ext_getElem
def aa5:=@List.exists_cons_of_ne_nil
def aa6:=@List.mem_singleton
def aa7:=@List.drop_eq_getElem_cons
def aa8:=@Nat.lt_succ_self
def aa9:=@List.lookup_cons
def aba:=@Int.mul_ediv_cancel_left
def abb:=@Int.ne_of_gt
def abc:=@Nat.add_sub_cancel_left
def abd:=@List.zip_cons_cons
def abe:=@List.length_zip
def abf:=@Int.le_trans
def abg:=@Rat.intCast_lt_intCast
def abh:=@List.flatten_cons
def abi:=@Nat.lt_irrefl
def abj:=@Int.mul_le_mul
def abk:=@List.of_mem_zip
def abl:=@List.foldl_cons
def abm:=@Nat.not_lt_zero
def abn:=@Rat.mul_le_mul_of_nonneg_right
def abo:=@Option.isSome_iff_exists
def abp:=@List.length_drop
def abq:=@List.getElem?_set_ne
def abr:=@Int.ofNat_lt
def abt:=@Int.toNat_natCast
def abu:=@List.nodup_cons
def abv:=@List.range_succ_eq_map
def abw:=@List.take_of_length_le
def abx:=@Int.fmod_eq_emod_of_nonneg
def aby:=@Nat.le_add_right
def abz:=@List.all_eq_true
def abA:=@Int.pow_succ
def abB:=@Int.pow_nonneg
def abC:=@Int.mul_neg_of_pos_of_neg
def abD:=@List.set_append_left
def abE:=@Nat.lt_succ_of_lt
def abF:=@Int.natCast_add
def abG:=@List.getElem?_replicate
def abH:=@List.all_cons
def abI:=@List.any_cons
def abJ:=@List.drop_eq_nil_of_le
def abK:=@Nat.zero_le
def abL:=@List.getElem?_eq_none
def abM:=@List.set_append_right
def abN:=@Int.le_of_dvd
def abO:=@Array.getElem?_eq_some_iff
def abP:=@Int.fdiv_eq_ediv_of_nonneg
def abQ:=@Nat.pow_le_pow_right
def abR:=@PySem.F.slot_dict_getitem
def abS:=@Int.le_of_mul_le_mul_left
def abT:=@List.length_take
def abU:=@Int.ediv_le_self
def abV:=@List.filterMap_cons
def abW:=@Int.toNat_of_nonneg
def abX:=@List.getElem?_take_of_lt
def abY:=@List.mem_of_mem_eraseIdx
def abZ:=@Int.lt_or_le
def ab0:=@Int.lt_trans
def ab2:=@List.mem_filterMap
def ab3:=@Nat.min_eq_left
def ab4:=@Int.mul_assoc
def ab5:=@List.map_take
def ab6:=@List.map_drop
def ab7:=@Bool.or_eq_true
def ab8:=@List.nodup_append
def ab9:=@List.ext_getElem?
def aca:=@List.drop_zero
def acb:=@Nat.ne_of_gt
def acd:=@Nat.sub_self
def ace:=@Int.dvd_zero
namespace Hd
open PySem PySem.W PyProof.Rows
def at_(i:Nat):Stmt:=PySem.Challenge.pw_chanceduel_k35_whole_plans_that_hold.main.body.getD i (.Pass ⟨0,0,0,0⟩)
def KA:Stmt->Nat->Stmt
  | .ClassDef _ _ _ b _ _ _ _ _ _ _,j=>b.getD j (.Pass ⟨0,0,0,0⟩)
  | s,_=>s
def dA:Stmt->Arguments
  | .FunctionDef _ a _ _ _ _ _ _ _ _=>a
  | _=>⟨[],[],none,[],[],none,[]⟩
def dB:Stmt->List Stmt
  | .FunctionDef _ _ b _ _ _ _ _ _ _=>b
  | _=>[]
def dS:Stmt->Scope
  | .FunctionDef _ _ _ _ _ _ c _ _ _=>c
  | _=>{kind:= .function,names:=[],isGenerator:=false,isCoroutine:=false}
abbrev row:=PySem.Challenge.rw_chanceduel_k35_whole_plans_that_hold.row
abbrev en(P:Params)(x:Str)(t:Tok)(v:Value):DictEntry:=⟨PyData.keyHash P x, .str x t,v⟩
def q:Program:={PySem.Challenge.pw_chanceduel_k35_whole_plans_that_hold with main:={PySem.Challenge.pw_chanceduel_k35_whole_plans_that_hold.main with body:=[at_ 1,at_ 2,at_ 3,at_ 4,at_ 5,at_ 6,at_ 7,at_ 9,at_ 10,at_ 11,at_ 12,at_ 13,at_ 14,at_ 16,at_ 17,at_ 18,at_ 19,at_ 20,at_ 21,at_ 22,at_ 23,at_ 24,at_ 25,at_ 27,at_ 28,at_ 29,at_ 30,at_ 31,at_ 32,at_ 33,at_ 34,at_ 36,at_ 37,at_ 38,at_ 39,at_ 40,at_ 41,at_ 42,at_ 43,at_ 45,at_ 46,at_ 47,at_ 48,at_ 49,at_ 50,at_ 51,at_ 52,at_ 53,at_ 54,at_ 55,at_ 57,at_ 58,at_ 60,at_ 62,at_ 64,at_ 65,at_ 66,at_ 67,at_ 68,at_ 69,at_ 70,at_ 71,at_ 72,at_ 73,at_ 74,at_ 75,at_ 76,at_ 77,at_ 78]}}
abbrev cO(x q:Str)(t l n f a m:Nat):Obj:=⟨.type "code",none, .fields #[.str x t, .str q (t+1), .str "/claim/cut.py" (t+2), .int l 0, .int n 0, .int 0 0, .int 0 0, .int f 0, .ref a, .bool true, .int 181 0, .ref (a+1), .none, .ref (a+2), .ref (a+3), .ref (a+4), .int m 0, .int l 0, .str "/claim/cut.py" (m+1)], #[]⟩
abbrev dO(x q:Str)(t l n f a m:Nat):Obj:=⟨.type "code",none, .fields #[.str x t, .str q (t+1), .str "/claim/cut.py" (t+2), .int l 0, .int n 0, .int 0 0, .int 0 0, .int f 0, .ref a, .bool true, .int 181 0, .ref (a+1), .none, .none, .none, .ref (a+2), .int m 0, .int l 0, .str "/claim/cut.py" (m+1)], #[]⟩
abbrev fO(x q:Str)(s:Stmt)(m:Value)(c:Nat):Obj:=⟨.type "function",none, .func ⟨x,q,(dA s), .stmts (dB s),(dS s),3,[], .none, .none, .none,m,none, .ref c, .none,0⟩, #[]⟩
abbrev m0:Value:= .str "chanceduel.parts" 341
abbrev m1:Value:= .str "chanceduel.places" 395
abbrev m2:Value:= .str "chanceduel.floors" 453
abbrev m3:Value:= .str "chanceduel.rows" 606
abbrev m4:Value:= .str "chanceduel.plans" 682
abbrev m5:Value:= .str "chanceduel.answers" 782
abbrev m6:Value:= .str "chanceduel.mending" 807
abbrev m7:Value:= .str "law_chanceduel_k35_whole_plans_that_hold" 839
noncomputable def K:Params->Frag:=λP=>
(nat_lit 2,⟨.none,none,(.dict #[] 0), #[]⟩)::
(nat_lit 3,⟨(.type "dict"),none,(.dict #[(en P "__name__" 165 m7),(en P "__doc__" 166 .none),(en P "__package__" 167 .none),(en P "__loader__" 168 (.builtin "__main__.__loader__#opaque")),(en P "__spec__" 169 .none),(en P "__annotations__" 170 (.ref 6)),(en P "__builtins__" 171 (.ref 4)),(en P "__file__" 173 (.str "/claim/cut.py" 172)),(en P "__cached__" 174 .none),(en P "DuelError" 206 (.ref 24)),(en P "NoNumber" 222 (.ref 37)),(en P "NoFloor" 238 (.ref 49)),(en P "NoPlace" 263 (.ref 68)),(en P "NoAnswer" 288 (.ref 87)),(en P "ManyAnswers" 315 (.ref 106)),(en P "NoPlan" 340 (.ref 125)),(en P "common_divisor" 353 (.ref 134)),(en P "fraction" 362 (.ref 141)),(en P "plus" 370 (.ref 148)),(en P "minus" 378 (.ref 155)),(en P "times" 386 (.ref 162)),(en P "under" 394 (.ref 169)),(en P "HANDS" 399 (.ref 170)),(en P "MOST_DOORS" 401 (.int 6 400)),(en P "MOST_BOTTOM" 403 (.int 1000000 402)),(en P "fits_pay" 410 (.ref 177)),(en P "fits_door" 418 (.ref 184)),(en P "common_bottom" 427 (.ref 191)),(en P "fits_chances" 433 (.ref 196)),(en P "fits_doors" 439 (.ref 201)),(en P "fits_row" 445 (.ref 206)),(en P "copied_row" 452 (.ref 213)),(en P "MOST_PLACES" 456 (.int 12 455)),(en P "MOST_SHARE_BOTTOM" 458 (.int 1000 457)),(en P "TURNED_KINDS" 468 (.ref 214)),(en P "fits_share" 475 (.ref 221)),(en P "weighed" 486 (.ref 228)),(en P "greatest" 495 (.ref 235)),(en P "least" 504 (.ref 242)),(en P "Floor" 605 (.ref 319)),(en P "with_weights" 618 (.ref 330)),(en P "number_of_head" 628 (.ref 337)),(en P "moved_ahead" 637 (.ref 344)),(en P "cleared_line" 643 (.ref 349)),(en P "cleared" 649 (.ref 354)),(en P "quotients" 662 (.ref 361)),(en P "still_of" 668 (.ref 366)),(en P "answer_of" 681 (.ref 373)),(en P "places_of" 689 (.ref 378)),(en P "first_plan" 699 (.ref 385)),(en P "has_door" 708 (.ref 392)),(en P "doors_of" 719 (.ref 399)),(en P "better_doors" 731 (.ref 406)),(en P "ways_from" 741 (.ref 413)),(en P "whole_row" 747 (.ref 418)),(en P "led_row" 760 (.ref 425)),(en P "row_of" 766 (.ref 430)),(en P "worths_by" 772 (.ref 435)),(en P "worths_of" 781 (.ref 442)),(en P "worths_against" 793 (.ref 449)),(en P "against" 806 (.ref 456)),(en P "started" 817 (.ref 463)),(en P "mended" 831 (.ref 471)),(en P "worths" 838 (.ref 478)),(en P "_law_at" 850 (.ref 485)),(en P "_law_stream" 861 (.ref 492)),(en P "_law_lowest" 871 (.ref 499)),(en P "_law_pay" 880 (.ref 506)),(en P "_law_doors" 886 (.ref 511)),(en P "_law_by_digits" 893 (.ref 518)),(en P "_law_things" 906 (.ref 525)),(en P "_law_share_of" 916 (.ref 532)),(en P "_law_floor" 936 (.ref 539)),(en P "_law_copy" 942 (.ref 544)),(en P "_law_plan" 955 (.ref 551)),(en P "_law_whole" 962 (.ref 558)),(en P "_law_table" 971 (.ref 565)),(en P "_law_no_less" 980 (.ref 572)),(en P "law" 998 (.ref 579))] 79), #[]⟩)::
(nat_lit 23,⟨(.type "dict"),none,(.dict #[(en P "__module__" 196 (.str "chanceduel.errors" 187)),(en P "__firstlineno__" 200 (.int 2 199)),(en P "__static_attributes__" 201 (.ref 22)),(en P "__weakref__" 203 (.ref 25)),(en P "__doc__" 204 .none)] 3), #[]⟩)::
(nat_lit 24,⟨(.type "type"),none,(.cls ⟨"DuelError",[(.type "ValueError")],[(.ref 24),(.type "ValueError"),(.type "Exception"),(.type "BaseException"),(.type "object")],23,"DuelError",true,[],[(.ref 37),(.ref 49),(.ref 68),(.ref 87),(.ref 106),(.ref 125)],false,none,false⟩), #[(some (.ref 15)),none,(some (.str "DuelError" 189)),(some (.str "DuelError" 197)),(some (.builtin "ValueError.__new__")),(some (.bool true))]⟩)::
(nat_lit 37,⟨(.type "type"),none,(.cls ⟨"NoNumber",[(.ref 24)],[(.ref 37),(.ref 24),(.type "ValueError"),(.type "Exception"),(.type "BaseException"),(.type "object")],36,"NoNumber",true,[],[],false,none,false⟩), #[(some (.ref 28)),none,(some (.str "NoNumber" 207)),(some (.str "NoNumber" 215)),(some (.builtin "ValueError.__new__")),(some (.bool true))]⟩)::
(nat_lit 49,⟨(.type "type"),none,(.cls ⟨"NoFloor",[(.ref 24)],[(.ref 49),(.ref 24),(.type "ValueError"),(.type "Exception"),(.type "BaseException"),(.type "object")],48,"NoFloor",true,[],[],false,none,false⟩), #[(some (.ref 40)),none,(some (.str "NoFloor" 223)),(some (.str "NoFloor" 231)),(some (.builtin "ValueError.__new__")),(some (.bool true))]⟩)::
(nat_lit 68,⟨(.type "type"),none,(.cls ⟨"NoPlace",[(.ref 24)],[(.ref 68),(.ref 24),(.type "ValueError"),(.type "Exception"),(.type "BaseException"),(.type "object")],67,"NoPlace",true,[],[],false,none,false⟩), #[(some (.ref 52)),none,(some (.str "NoPlace" 239)),(some (.str "NoPlace" 247)),(some (.builtin "ValueError.__new__")),(some (.bool true))]⟩)::
(nat_lit 87,⟨(.type "type"),none,(.cls ⟨"NoAnswer",[(.ref 24)],[(.ref 87),(.ref 24),(.type "ValueError"),(.type "Exception"),(.type "BaseException"),(.type "object")],86,"NoAnswer",true,[],[],false,none,false⟩), #[(some (.ref 71)),none,(some (.str "NoAnswer" 264)),(some (.str "NoAnswer" 272)),(some (.builtin "ValueError.__new__")),(some (.bool true))]⟩)::
(nat_lit 106,⟨(.type "type"),none,(.cls ⟨"ManyAnswers",[(.ref 24)],[(.ref 106),(.ref 24),(.type "ValueError"),(.type "Exception"),(.type "BaseException"),(.type "object")],105,"ManyAnswers",true,[],[],false,none,false⟩), #[(some (.ref 90)),none,(some (.str "ManyAnswers" 289)),(some (.str "ManyAnswers" 297)),(some (.builtin "ValueError.__new__")),(some (.bool true))]⟩)::
(nat_lit 125,⟨(.type "type"),none,(.cls ⟨"NoPlan",[(.ref 24)],[(.ref 125),(.ref 24),(.type "ValueError"),(.type "Exception"),(.type "BaseException"),(.type "object")],124,"NoPlan",true,[],[],false,none,false⟩), #[(some (.ref 109)),none,(some (.str "NoPlan" 316)),(some (.str "NoPlan" 324)),(some (.builtin "ValueError.__new__")),(some (.bool true))]⟩)::
(nat_lit 133,cO "common_divisor" "common_divisor" 343 30 2 3 128 351)::
(nat_lit 134,fO "common_divisor" "common_divisor" (at_ 9) m0 133)::
(nat_lit 140,cO "fraction" "fraction" 354 38 2 3 135 360)::
(nat_lit 141,fO "fraction" "fraction" (at_ 10) m0 140)::
(nat_lit 147,cO "plus" "plus" 363 45 2 3 142 368)::
(nat_lit 148,fO "plus" "plus" (at_ 11) m0 147)::
(nat_lit 154,cO "minus" "minus" 371 47 2 3 149 376)::
(nat_lit 155,fO "minus" "minus" (at_ 12) m0 154)::
(nat_lit 161,cO "times" "times" 379 49 2 3 156 384)::
(nat_lit 162,fO "times" "times" (at_ 13) m0 161)::
(nat_lit 168,cO "under" "under" 387 51 2 3 163 392)::
(nat_lit 169,fO "under" "under" (at_ 14) m0 168)::
(nat_lit 170,⟨(.type "tuple"),none,(.seq #[(.str "one" 397),(.str "other" 398)] 0), #[]⟩)::
(nat_lit 176,cO "fits_pay" "fits_pay" 404 57 1 3 171 408)::
(nat_lit 177,fO "fits_pay" "fits_pay" (at_ 19) m1 176)::
(nat_lit 183,cO "fits_door" "fits_door" 411 59 2 3 178 416)::
(nat_lit 184,fO "fits_door" "fits_door" (at_ 20) m1 183)::
(nat_lit 190,cO "common_bottom" "common_bottom" 419 61 1 3 185 425)::
(nat_lit 191,fO "common_bottom" "common_bottom" (at_ 21) m1 190)::
(nat_lit 195,dO "fits_chances" "fits_chances" 428 66 1 3 192 431)::
(nat_lit 196,fO "fits_chances" "fits_chances" (at_ 22) m1 195)::
(nat_lit 200,dO "fits_doors" "fits_doors" 434 72 2 3 197 437)::
(nat_lit 201,fO "fits_doors" "fits_doors" (at_ 23) m1 200)::
(nat_lit 205,dO "fits_row" "fits_row" 440 76 2 3 202 443)::
(nat_lit 206,fO "fits_row" "fits_row" (at_ 24) m1 205)::
(nat_lit 212,cO "copied_row" "copied_row" 446 85 1 3 207 450)::
(nat_lit 213,fO "copied_row" "copied_row" (at_ 25) m1 212)::
(nat_lit 214,⟨(.type "dict"),none,(.dict #[(en P "one" 459 (.str "other" 460)),(en P "other" 461 (.str "one" 462)),(en P "chance" 463 (.str "chance" 464))] 3), #[]⟩)::
(nat_lit 220,cO "fits_share" "fits_share" 469 93 1 3 215 473)::
(nat_lit 221,fO "fits_share" "fits_share" (at_ 30) m2 220)::
(nat_lit 227,cO "weighed" "weighed" 476 95 2 3 222 484)::
(nat_lit 228,fO "weighed" "weighed" (at_ 31) m2 227)::
(nat_lit 234,cO "greatest" "greatest" 487 100 1 3 229 493)::
(nat_lit 235,fO "greatest" "greatest" (at_ 32) m2 234)::
(nat_lit 241,cO "least" "least" 496 106 1 3 236 502)::
(nat_lit 242,fO "least" "least" (at_ 33) m2 241)::
(nat_lit 253,dO "__init__" "Floor.__init__" 517 114 3 3 250 520)::
(nat_lit 254,fO "__init__" "Floor.__init__" (KA (at_ 34) 0) m2 253)::
(nat_lit 260,cO "size" "Floor.size" 523 125 1 3 255 527)::
(nat_lit 261,fO "size" "Floor.size" (KA (at_ 34) 1) m2 260)::
(nat_lit 267,cO "share" "Floor.share" 530 128 1 3 262 534)::
(nat_lit 268,fO "share" "Floor.share" (KA (at_ 34) 2) m2 267)::
(nat_lit 274,cO "kind" "Floor.kind" 537 131 2 3 269 542)::
(nat_lit 275,fO "kind" "Floor.kind" (KA (at_ 34) 3) m2 274)::
(nat_lit 281,cO "doors" "Floor.doors" 545 134 2 3 276 550)::
(nat_lit 282,fO "doors" "Floor.doors" (KA (at_ 34) 4) m2 281)::
(nat_lit 288,cO "pay" "Floor.pay" 553 139 2 3 283 558)::
(nat_lit 289,fO "pay" "Floor.pay" (KA (at_ 34) 5) m2 288)::
(nat_lit 300,cO "shown" "Floor.shown" 567 147 4 3 295 575)::
(nat_lit 301,fO "shown" "Floor.shown" (KA (at_ 34) 7) m2 300)::
(nat_lit 305,dO "all_shown" "Floor.all_shown" 578 151 3 3 302 581)::
(nat_lit 306,fO "all_shown" "Floor.all_shown" (KA (at_ 34) 8) m2 305)::
(nat_lit 310,dO "look" "Floor.look" 584 154 3 3 307 587)::
(nat_lit 311,fO "look" "Floor.look" (KA (at_ 34) 9) m2 310)::
(nat_lit 315,dO "best" "Floor.best" 590 164 3 3 312 593)::
(nat_lit 316,fO "best" "Floor.best" (KA (at_ 34) 10) m2 315)::
(nat_lit 318,⟨(.type "dict"),none,(.dict #[(en P "__module__" 512 m2),(en P "__firstlineno__" 516 (.int 112 515)),(en P "__init__" 522 (.ref 254)),(en P "size" 529 (.ref 261)),(en P "share" 536 (.ref 268)),(en P "kind" 544 (.ref 275)),(en P "doors" 552 (.ref 282)),(en P "pay" 560 (.ref 289)),(en P "rows" 566 (.ref 294)),(en P "shown" 577 (.ref 301)),(en P "all_shown" 583 (.ref 306)),(en P "look" 589 (.ref 311)),(en P "best" 595 (.ref 316)),(en P "__static_attributes__" 598 (.ref 317)),(en P "__dict__" 600 (.ref 320)),(en P "__weakref__" 602 (.ref 321)),(en P "__doc__" 603 .none)] 4), #[]⟩)::
(nat_lit 319,⟨(.type "type"),none,(.cls ⟨"Floor",[(.type "object")],[(.ref 319),(.type "object")],318,"Floor",true,[],[],false,none,false⟩), #[none,none,(some (.str "Floor" 505)),(some (.str "Floor" 513)),(some (.builtin "object.__new__")),(some (.bool true))]⟩)::
(nat_lit 329,cO "with_weights" "with_weights" 608 170 1 3 324 616)::
(nat_lit 330,fO "with_weights" "with_weights" (at_ 36) m3 329)::
(nat_lit 336,cO "number_of_head" "number_of_head" 619 177 3 3 331 626)::
(nat_lit 337,fO "number_of_head" "number_of_head" (at_ 37) m3 336)::
(nat_lit 343,cO "moved_ahead" "moved_ahead" 629 182 3 3 338 635)::
(nat_lit 344,fO "moved_ahead" "moved_ahead" (at_ 38) m3 343)::
(nat_lit 348,dO "cleared_line" "cleared_line" 638 184 4 3 345 641)::
(nat_lit 349,fO "cleared_line" "cleared_line" (at_ 39) m3 348)::
(nat_lit 353,dO "cleared" "cleared" 644 186 2 3 350 647)::
(nat_lit 354,fO "cleared" "cleared" (at_ 40) m3 353)::
(nat_lit 360,cO "quotients" "quotients" 650 203 4 3 355 660)::
(nat_lit 361,fO "quotients" "quotients" (at_ 41) m3 360)::
(nat_lit 372,cO "answer_of" "answer_of" 669 213 1 3 367 679)::
(nat_lit 373,fO "answer_of" "answer_of" (at_ 43) m3 372)::
(nat_lit 377,dO "places_of" "places_of" 684 226 2 3 374 687)::
(nat_lit 378,fO "places_of" "places_of" (at_ 45) m4 377)::
(nat_lit 384,cO "first_plan" "first_plan" 690 228 2 3 379 697)::
(nat_lit 385,fO "first_plan" "first_plan" (at_ 46) m4 384)::
(nat_lit 391,cO "has_door" "has_door" 700 233 3 3 386 706)::
(nat_lit 392,fO "has_door" "has_door" (at_ 47) m4 391)::
(nat_lit 398,cO "doors_of" "doors_of" 709 235 2 3 393 717)::
(nat_lit 399,fO "doors_of" "doors_of" (at_ 48) m4 398)::
(nat_lit 405,cO "better_doors" "better_doors" 720 245 3 3 400 729)::
(nat_lit 406,fO "better_doors" "better_doors" (at_ 49) m4 405)::
(nat_lit 412,cO "ways_from" "ways_from" 732 252 3 3 407 739)::
(nat_lit 413,fO "ways_from" "ways_from" (at_ 50) m4 412)::
(nat_lit 417,dO "whole_row" "whole_row" 742 257 1 3 414 745)::
(nat_lit 418,fO "whole_row" "whole_row" (at_ 51) m4 417)::
(nat_lit 424,cO "led_row" "led_row" 748 260 5 3 419 758)::
(nat_lit 425,fO "led_row" "led_row" (at_ 52) m4 424)::
(nat_lit 429,dO "row_of" "row_of" 761 266 3 3 426 764)::
(nat_lit 430,fO "row_of" "row_of" (at_ 53) m4 429)::
(nat_lit 434,dO "worths_by" "worths_by" 767 272 2 3 431 770)::
(nat_lit 435,fO "worths_by" "worths_by" (at_ 54) m4 434)::
(nat_lit 441,cO "worths_of" "worths_of" 773 274 3 3 436 779)::
(nat_lit 442,fO "worths_of" "worths_of" (at_ 55) m4 441)::
(nat_lit 448,cO "worths_against" "worths_against" 784 277 3 3 443 791)::
(nat_lit 449,fO "worths_against" "worths_against" (at_ 57) m5 448)::
(nat_lit 455,cO "against" "against" 794 281 3 3 450 804)::
(nat_lit 456,fO "against" "against" (at_ 58) m5 455)::
(nat_lit 462,cO "started" "started" 809 292 3 3 457 815)::
(nat_lit 463,fO "started" "started" (at_ 60) m6 462)::
(nat_lit 464,⟨(.type "tuple"),none,(.seq #[(.str "one" 818), .none] 0), #[]⟩)::
(nat_lit 470,cO "mended" "mended" 819 296 3 3 465 829)::
(nat_lit 471,⟨(.type "function"),none,(.func ⟨"mended","mended",(dA (at_ 61)),(.stmts (dB (at_ 61))),(dS (at_ 61)),3,[],(.ref 464), .none, .none,m6,none,(.ref 470), .none,0⟩), #[]⟩)::
(nat_lit 477,cO "worths" "worths" 832 306 1 3 472 836)::
(nat_lit 478,fO "worths" "worths" (at_ 62) m6 477)::
(nat_lit 484,cO "_law_at" "_law_at" 841 309 2 3 479 848)::
(nat_lit 485,fO "_law_at" "_law_at" (at_ 64) m7 484)::
(nat_lit 491,cO "_law_stream" "_law_stream" 851 316 2 3 486 859)::
(nat_lit 492,fO "_law_stream" "_law_stream" (at_ 65) m7 491)::
(nat_lit 498,cO "_law_lowest" "_law_lowest" 862 323 2 3 493 869)::
(nat_lit 499,fO "_law_lowest" "_law_lowest" (at_ 66) m7 498)::
(nat_lit 505,cO "_law_pay" "_law_pay" 872 328 2 3 500 878)::
(nat_lit 506,fO "_law_pay" "_law_pay" (at_ 67) m7 505)::
(nat_lit 510,dO "_law_doors" "_law_doors" 881 333 4 3 507 884)::
(nat_lit 511,fO "_law_doors" "_law_doors" (at_ 68) m7 510)::
(nat_lit 517,cO "_law_by_digits" "_law_by_digits" 887 342 1 3 512 891)::
(nat_lit 518,fO "_law_by_digits" "_law_by_digits" (at_ 69) m7 517)::
(nat_lit 524,cO "_law_things" "_law_things" 894 344 4 3 519 904)::
(nat_lit 525,fO "_law_things" "_law_things" (at_ 70) m7 524)::
(nat_lit 531,cO "_law_share_of" "_law_share_of" 907 353 2 3 526 914)::
(nat_lit 532,fO "_law_share_of" "_law_share_of" (at_ 71) m7 531)::
(nat_lit 538,cO "_law_floor" "_law_floor" 917 357 1 3 533 934)::
(nat_lit 539,fO "_law_floor" "_law_floor" (at_ 72) m7 538)::
(nat_lit 543,dO "_law_copy" "_law_copy" 937 379 1 3 540 940)::
(nat_lit 544,fO "_law_copy" "_law_copy" (at_ 73) m7 543)::
(nat_lit 550,cO "_law_plan" "_law_plan" 943 381 3 3 545 953)::
(nat_lit 551,fO "_law_plan" "_law_plan" (at_ 74) m7 550)::
(nat_lit 557,cO "_law_whole" "_law_whole" 956 390 1 3 552 960)::
(nat_lit 558,fO "_law_whole" "_law_whole" (at_ 75) m7 557)::
(nat_lit 564,cO "_law_table" "_law_table" 963 392 2 3 559 969)::
(nat_lit 565,fO "_law_table" "_law_table" (at_ 76) m7 564)::
(nat_lit 571,cO "_law_no_less" "_law_no_less" 972 401 2 3 566 978)::
(nat_lit 572,fO "_law_no_less" "_law_no_less" (at_ 77) m7 571)::
(nat_lit 578,cO "law" "law" 981 406 1 3 573 996)::
(nat_lit 579,fO "law" "law" (at_ 78) m7 578)::[]
noncomputable abbrev H:Hook:=kHook K [2,3,23,24,37,49,68,87,106,125,133,134,140,141,147,148,154,155,161,162,168,169,170,176,177,183,184,190,191,195,196,200,201,205,206,212,213,214,220,221,227,228,234,235,241,242,253,254,260,261,267,268,274,275,281,282,288,289,300,301,305,306,310,311,315,316,318,319,329,330,336,337,343,344,348,349,353,354,360,361,372,373,377,378,384,385,391,392,398,399,405,406,412,413,417,418,424,425,429,430,434,435,441,442,448,449,455,456,462,463,464,470,471,477,478,484,485,491,492,498,499,505,506,510,511,517,518,524,525,531,532,538,539,543,544,550,551,557,558,564,565,571,572,578,579] (λ_=>by kernel_rfl)
abbrev Xt:Shared->Bool:=λs=>xlAt q [] s&&recOk (RowW.records row.toRowW) s
structure Z where
 o:List (List Obj)
 n:Nat
 t:Nat
 g:List DictEntry
 c:List (List Value)
 m:Value
 s:List Value
noncomputable section
def tu(l:List Value):Obj:=⟨.type "tuple",none, .seq ⟨l⟩ 0, #[]⟩
def fl(c:Value)(l:List Value):Obj:=⟨c,none, .fields ⟨l⟩, #[]⟩
def ss:List Str->Nat->List Value
 |[],_=>[]
 |x::r,t=> .str x t::ss r (t+1)
def lo:List (Str×NameKind)->List Str
 |[]=>[]
 |(x, .local)::r=>x::lo r
 |_::r=>lo r
def cd(x q:Str)(t l a k b:Nat)(f:Bool)(v w z:Value)(e:Nat):Obj:=fl (.type "code") [.str x t, .str q (t+1), .str "/claim/cut.py" (t+2), .int l 0, .int a 0, .int 0 0, .int 0 0, .int k 0, .ref b, .bool f, .int 181 0, .ref (b+1), .none,v,w,z, .int e 0, .int l 0, .str "/claim/cut.py" (e+1)]
def dfO(d:Value) (x q:Str) (a:Arguments) (b:List Stmt) (s:Scope) (l:Nat) (m:Value) (n t:Nat):List Obj×Nat:=
 let f (c:Value) (g:Nat) (d m h:Value):Obj:=⟨c,none, .func ⟨x,q,a, .stmts b,s,g,[],d, .none, .none,m,none,h, .none,0⟩, #[]⟩
 match s.more with
 |[]=>let v:=lo s.names
  ([tu [],fl .none [],tu (ss v (t+3)),tu [],f .none 0 .none .none .none,cd x q t l a.args.length 3 n true (.ref (n+2)) (.ref (n+3)) (.ref (n+4)) (t+3+v.length),f (.type "function") 3 d m (.ref (n+5))],t+5+v.length)
 |_=>([tu [],fl .none [],f .none 0 .none .none .none,cd x q t l a.args.length 3 n true .none .none (.ref (n+2)) (t+3),f (.type "function") 3 d m (.ref (n+3))],t+5)
def mt(P:Params) (x:Str) (m:Value):List Stmt->Nat->Nat->List Obj×List DictEntry×List Value×Nat×Nat
 |.FunctionDef y a b _ _ _ s _ _ p::r,n,t=>match dfO .none y (x++"."++y) a b s p.line m n t with
  |(os,k)=>match mt P x m r (n+os.length) (k+1) with
   |(o,e,c,w)=>(os++o,en P y k (.ref (n+os.length-1))::e, .int p.line 0:: .int p.col 0:: .ref (n+os.length-2)::c,w)
 |_::r,n,t=>mt P x m r n t
 |[],n,t=>([],[],[],n,t)
def ty(x:Str)(bs mro:List Value)(d t:Nat)(b:Option Value)(w:String)(s:List Value):Obj:=⟨.type "type",none, .cls ⟨x,bs, .ref (d+1)::mro,d,x,true,[],s,false,none,false⟩, #[b,none,some (.str x t),some (.str x (t+8)),some (.builtin w),some (.bool true)]⟩
abbrev VE:List Value:=[.type "ValueError", .type "Exception", .type "BaseException", .type "object"]
def clO(P:Params) (x:Str) (bs:List Expr) (b:List Stmt) (sa:List Str) (l:Nat) (m:Value) (n t:Nat):List Obj×Nat×Nat:=
 match mt P x m b (n+7) (t+12) with
 |(mo,me,mc,n2,t2)=>
  let k:=t2+sa.length
  let e1:=en P "__module__" (t+7) m
  let e2:=en P "__firstlineno__" (t+11) (.int l (t+10))
  let e3:=en P "__static_attributes__" k (.ref n2)
  let ds (w k:Nat) (x:List DictEntry):Obj:=⟨.type "dict",none, .dict ⟨e1::e2::(me++e3::(x++[en P "__doc__" k .none]))⟩ w, #[]⟩
  let de (x:Str) (t:Nat) (u:String) (v:Value):Obj:=fl (.type "getset_descriptor") [.str x t, .ref (n2+2), .builtin u,v]
  let h (bt:List Value) (r:List Obj):List Obj:=tu bt::fl (.type "builtin_function_or_method") [.builtin "type.__prepare__", .type "type"]::⟨.type "dict",none, .dict ⟨e1::en P "__qualname__" (t+9) (.str x (t+8))::e2::(me++[e3])⟩ (4+me.length), #[]⟩::tu []::fl .none mc::cd x x (t+2) l 0 0 (n+3) false .none .none .none (t+5)::⟨.type "frame",none, .plain, #[some (.ref (n+5)),some (.ref 3),some (.ref (n+2)),none,some m,none,some (.ref 0)]⟩::(mo++tu (ss sa t2)::(r++[fl (.type "super") [.ref (n2+2), .ref (n2+2), .ref (n2+2)],fl (.type "builtin_function_or_method") [.builtin "object.__init_subclass__", .ref (n2+2)]]))
  match bs with
  |[]=>(h [] [ds 4 (k+5) [en P "__dict__" (k+2) (.ref (n2+3)),en P "__weakref__" (k+4) (.ref (n2+4))],ty x [.type "object"] [.type "object"] (n2+1) t none "object.__new__" [],de "__dict__" (k+1) "function.__dict__" (.builtin "function.__dict__#set"),de "__weakref__" (k+3) "ExceptionGroup.__weakref__" .none],k+7,n2+2)
  |_=>match n with
   |15=>(h [.type "ValueError"] [ds 3 (k+3) [en P "__weakref__" (k+2) (.ref (n2+3))],ty x [.type "ValueError"] VE (n2+1) t (some (.ref n)) "ValueError.__new__" [],de "__weakref__" (k+1) "ExceptionGroup.__weakref__" .none],k+5,n2+2)
   |_=>(h [.ref 24] [ds 2 (k+1) [],ty x [.ref 24] (.ref 24::VE) (n2+1) t (some (.ref n)) "ValueError.__new__" []],k+3,n2+2)
def ls:List Expr->Nat->List Value×Nat
 |.Constant (.str z) _ _::r,t=>match ls r (t+1) with
  |(v,k)=>(.str z t::v,k)
 |.Constant (.int z) _ _::r,t=>match ls r (t+1) with
  |(v,k)=>(.int z t::v,k)
 |.Constant .none _ _::r,t=>match ls r t with
  |(v,k)=>(.none::v,k)
 |_,t=>([],t)
def gv(x:Str):List DictEntry->Value
 |⟨_, .str y _,v⟩::r=>if x=y then v else gv x r
 |_=> .none
def dv(P:Params) (g:List DictEntry):List (Option Expr)->List Expr->Nat->List DictEntry×Nat
 |some (.Constant (.str z) _ _)::r, .Name x _::u,t=>match dv P g r u (t+1) with
  |(e,k)=>(en P z t (gv x g)::e,k+1)
 |some (.Constant (.str z) _ _)::r,c::u,t=>match ls [c] (t+1) with
  |(v,k)=>match dv P g r u k with
   |(e,k)=>(en P z t (v.headD .none)::e,k+1)
 |_,_,t=>([],t)
def stp(P:Params) (z:Z):Stmt->Z
 |.FunctionDef x a b _ _ _ s _ _ p=>match a.defaults with
  |[]=>match dfO .none x x a b s p.line z.m z.n z.t with
   |(os,k)=>{z with o:=os::z.o,n:=z.n+os.length,t:=k+1,g:=en P x k (.ref (z.n+os.length-1))::z.g,c:=[.int p.line 0, .int p.col 0, .ref (z.n+os.length-2)]::z.c}
  |ds=>match ls ds z.t with
   |(v,k)=>match dfO (.ref z.n) x x a b s p.line z.m (z.n+1) k with
    |(os,k)=>{z with o:=os::[tu v]::z.o,n:=z.n+1+os.length,t:=k+1,g:=en P x k (.ref (z.n+os.length))::z.g,c:=[.int p.line 0, .int p.col 0, .ref (z.n+os.length-1)]::z.c}
 |.ClassDef x bs _ b _ _ _ _ _ sa p=>match clO P x bs b sa p.line z.m z.n z.t with
  |(os,k,d)=>{z with o:=os::z.o,n:=z.n+os.length,t:=k+1,g:=en P x k (.ref d)::z.g,c:=[.int p.line 0, .int p.col 0, .ref (z.n+5)]::z.c,s:=match z.n with
    |15=>[]
    |_=>match bs with
     |[]=>z.s
     |_=> .ref d::z.s}
 |.Assign [.Name x _] (.Tuple es _ _) _=>match ls es z.t with
  |(v,k)=>{z with o:=[tu v]::z.o,n:=z.n+1,t:=k+1,g:=en P x k (.ref z.n)::z.g}
 |.Assign [.Name x _] (.Dict ks vs _) _=>match dv P z.g ks vs z.t with
  |(e,k)=>{z with o:=[⟨.type "dict",none, .dict ⟨e⟩ e.length, #[]⟩]::z.o,n:=z.n+1,t:=k+1,g:=en P x k (.ref z.n)::z.g}
 |.Assign [.Name x _] c _=>match ls [c] z.t with
  |(v,k)=>if x="__name__" then {z with t:=k+1,m:=v.headD .none} else {z with t:=k+1,g:=en P x k (v.headD .none)::z.g}
 |_=>z
def z0:Z:=⟨[],15,187,[],[], .str "__main__" 164,[]⟩
def zs(P:Params)(k:Nat):Z:=((behindTheImports row.prog).take k).foldl (stp P) z0
def g9(P:Params)(m:Value):List DictEntry:=[en P "__name__" 165 m,en P "__doc__" 166 .none,en P "__package__" 167 .none,en P "__loader__" 168 (.builtin "__main__.__loader__#opaque"),en P "__spec__" 169 .none,en P "__annotations__" 170 (.ref 6),en P "__builtins__" 171 (.ref 4),en P "__file__" 173 (.str "/claim/cut.py" 172),en P "__cached__" 174 .none]
def zl(P:Params)(z:Z):List Obj:=boot_o_0 P::boot_o_1 P::boot_o_2 P::⟨.type "dict",none, .dict ⟨g9 P z.m++z.g.reverse⟩ (z.g.length+9), #[]⟩::boot_o_4 P::boot_o_5 P::boot_o_6 P::boot_o_7 P::boot_o_8 P::boot_o_9 P::boot_o_10 P::tu []::fl .none z.c.reverse.flatten::cd "<module>" "<module>" 182 1 0 0 11 false .none .none .none 185::⟨.type "frame",none, .plain, #[some (.ref 13),some (.ref 3),some (.ref 3),none,some (.str "__main__" 164),none,some (.ref 0)]⟩::(z.o.reverse.flatten.set 9 (ty "DuelError" [.type "ValueError"] VE 23 189 (some (.ref 15)) "ValueError.__new__" z.s.reverse))
def od:List Obj->List Obj
 |x::_::r=>x::od r
 |l=>l
def mkT:Nat->List Obj->BT
 |0,_=> .nil
 |_,[]=> .nil
 |n+1,x::r=> .node x (mkT n (od r)) (mkT n (od r.tail))
def T(P:Params)(k:Nat):BT:=mkT 12 (zl P (zs P k))
abbrev S(k n t:Nat)(w:World)(os:OsState):SharedT:=⟨T w.params k,n,{}, #[],{},t,os⟩
def env:Env:={scope:=row.prog.main.scope,locals:=mainNs,globals:=mainNs,cells:=[],code:= .ref 13,frame:=some 14}
abbrev bI:List Stmt:=behindTheImports row.prog
def cE:Code:= .body bI env
abbrev tF:List Frame:=[topFrame ⟨0,0,0,0⟩]
abbrev sg(w:World)(os:OsState)(N k n t:Nat)(p:Pos)(l:Nat):=segRunT treeTable row.prog w 11 (some (.ref 6)) 1 N (S k n t w os) (piecesOf ((bI.drop k).take l) env cE p tF)
abbrev sr(w:World)(os:OsState)(k n t:Nat)(p:Pos):Option (Flow×SharedT×Code×Pos):=some (.next,S k n t w os,cE,p)
abbrev se(w:World)(N k n t:Nat)(p:Pos)(l:Nat)(k' n' t':Nat)(p':Pos):Prop:=(λos=>sg w os N k n t p l)=λos=>sr w os k' n' t' p'
theorem lw:looseW q ["TURNED_KINDS","mended"]=(["TURNED_KINDS","mended","HANDS"]:List Str):=by kernel_rfl
theorem s0(w:World):se w 2060 0 15 187 ⟨0,0,0,0⟩ 29 29 214 459 ⟨91,0,91,17⟩:=by kernel_rfl
theorem s29f(w:World):se (w.withFollow "special-get-raises" false) 56 29 214 459 ⟨91,0,91,17⟩ 1 30 215 469 ⟨92,0,92,12⟩:=by kernel_rfl
theorem s29t(w:World):se (w.withFollow "special-get-raises" true) 56 29 214 459 ⟨91,0,91,17⟩ 1 30 215 469 ⟨92,0,92,12⟩:=by kernel_rfl
theorem s29(w:World):se w 56 29 214 459 ⟨91,0,91,17⟩ 1 30 215 469 ⟨92,0,92,12⟩:=byRow2 "special-get-raises" (P:=λw=>se w 56 29 214 459 ⟨91,0,91,17⟩ 1 30 215 469 ⟨92,0,92,12⟩) s29f s29t w
theorem s30(w:World):se w 1918 30 215 469 ⟨92,0,92,12⟩ 49 79 580 999 ⟨406,0,426,15⟩:=by kernel_rfl
theorem pre(w:World)(os:OsState):topGo treeTable row.prog w 11 (some (.ref 6)) 12 ⟨boot_heap w.params, #[],boot_drawn,boot_toks,os⟩ (topStub row.prog)=some ((S 0 15 187 w os).abs,⟨denote treeTable cE,cE,⟨0,0,0,0⟩,tF⟩):=by kernel_rfl
theorem blk(w:World)(os:OsState):segRun treeTable row.prog w 11 (some (.ref 6)) 1 1 (S 0 15 187 w os).abs (blockOf bI env cE ⟨0,0,0,0⟩ tF)=some (.next,(S 0 15 187 w os).abs,cE,⟨0,0,0,0⟩):=by kernel_rfl
theorem fin(w:World)(s:Shared)(p:Pos):topRun treeTable row.prog w 11 (some (.ref 6)) 2 s (restOf (bI.drop 79) env cE p tF)=some s:=by rewrite [show bI.drop 79=[] by kernel_rfl];rfl
theorem siz(w:World):((boot_heap w.params).isNs mainGlobals&&(#[]:Array GenState).size==0,(boot_heap w.params).objs.size,(boot_heap w.params).nsMap mainGlobals "__annotations__")=(true,11,some (.ref 6)):=by kernel_rfl
theorem opn:opening row.prog=plainProg row.prog.main.scope.names:=by kernel_rfl
theorem fen(s:Shared):fenceModules? row.prog s=some s:=by kernel_rfl
theorem pc{w:World}{n N k l:Nat}{s s':SharedT}{r:Shared}{p p':Pos}(h:segRunT treeTable row.prog w 11 (some (.ref 6)) 1 n s (piecesOf ((bI.drop k).take l) env cE p tF)=some (.next,s',cE,p'))(g:topRun treeTable row.prog w 11 (some (.ref 6)) N s'.abs (restOf (bI.drop (k+l)) env cE p' tF)=some r):topRun treeTable row.prog w 11 (some (.ref 6)) (n+N) s.abs (restOf (bI.drop k) env cE p tF)=some r:=by
 have e:(bI.drop k).take l++bI.drop (k+l)=bI.drop k:=by rw [<-List.drop_drop,List.take_append_drop]
 rewrite [<-e];exact piece_app (segRun_of h) g
theorem run(w:World)(os:OsState):topRun treeTable row.prog w 11 (some (.ref 6)) (12+(1+(2060+(56+(1918+(2)))))) ⟨boot_heap w.params, #[],boot_drawn,boot_toks,os⟩ (topStub row.prog)=some (S 79 580 999 w os).abs:=go_top (pre w os) (piece_block (blk w os) (pc (congrFun (s0 w) os) (pc (congrFun (s29 w) os) (pc (congrFun (s30 w) os) (fin w _ _)))))
abbrev sE(w:World)(os:OsState):Shared:=(S 79 580 999 w os).abs
theorem l1(w:World)(os:OsState):(staticsOk (importedModules row.prog.main.body) (boot_heap w.params) (sE w os).heap&&namesBound row.prog (sE w os).heap&&gensDone (sE w os)&&laidKept (boot_heap w.params) (sE w os).heap)=true:=by kernel_rfl
section
variable{A B D E F G I J:Type}{u t:A×B×Bool×D×E×F×G×I×J}
def p1:A×B×Bool×D×E×F×G×I×J->A
 |(a,_)=>a
def p2:A×B×Bool×D×E×F×G×I×J->B
 |(_,b,_)=>b
def p4:A×B×Bool×D×E×F×G×I×J->Bool
 |(_,_,c,_)=>c
def p3:A×B×Bool×D×E×F×G×I×J->D
 |(_,_,_,d,_)=>d
def p5:A×B×Bool×D×E×F×G×I×J->E
 |(_,_,_,_,e,_)=>e
def p6:A×B×Bool×D×E×F×G×I×J->F
 |(_,_,_,_,_,f,_)=>f
def p7:A×B×Bool×D×E×F×G×I×J->G
 |(_,_,_,_,_,_,g,_)=>g
def p8:A×B×Bool×D×E×F×G×I×J->I
 |(_,_,_,_,_,_,_,g,_)=>g
def p9:A×B×Bool×D×E×F×G×I×J->J
 |(_,_,_,_,_,_,_,_,g)=>g
theorem q6{a b c d e f g i j}:p6 ((a,b,c,d,e,f,g,i,j):A×B×Bool×D×E×F×G×I×J)=f:=rfl
theorem pr(h:p1 u=t.1)(g:p2 u=t.2.1)(g1:p4 u=true)(g2:t.2.2.1=true)(k:p3 u=t.2.2.2.1)(k1:p5 u=t.2.2.2.2.1)(k2:p6 u=t.2.2.2.2.2.1)(k3:p7 u=t.2.2.2.2.2.2.1)(k4:p8 u=t.2.2.2.2.2.2.2.1)(k5:p9 u=t.2.2.2.2.2.2.2.2):u=t:=Prod.ext h (Prod.ext g (Prod.ext (g1.trans g2.symm) (Prod.ext k (Prod.ext k1 (Prod.ext k2 (Prod.ext k3 (Prod.ext k4 k5)))))))
end
abbrev sn(w:World)(os:OsState):=openSeen q ["TURNED_KINDS","mended"] (importedModules row.prog.main.body) Xt true (sE w os)
abbrev gd:=openGood q ["TURNED_KINDS","mended"]
variable(w:World)(os:OsState)
theorem la:p1 (sn w os)=gd.1:=by kernel_rfl
theorem lb:p2 (sn w os)=gd.2.1:=by kernel_rfl
theorem lp:(sE w os).heap.keysOk (looseW q ["TURNED_KINDS","mended"]) ((recsOf q).map (·.name)) ((litsOf q).map (·.1)) ((clssOf q (looseW q ["TURNED_KINDS","mended"])).map (·.name))=true:=by rw[lw];kernel_rfl
theorem lq:(sE w os).heap.accountedOkI (importedModules row.prog.main.body)=true:=by kernel_rfl
theorem lr:(sE w os).heap.isNs mainGlobals=true:=by kernel_rfl
theorem lt:(sE w os).heap.isNs builtinsNs=true:=by kernel_rfl
theorem lu:tablesOk q (sE w os).heap=true:=by kernel_rfl
theorem lv:Xt (sE w os)=true:=by kernel_rfl
theorem p4e(s:Shared):p4 (openSeen q ["TURNED_KINDS","mended"] (importedModules row.prog.main.body) Xt true s)=(s.heap.keysOk (looseW q ["TURNED_KINDS","mended"]) ((recsOf q).map (·.name)) ((litsOf q).map (·.1)) ((clssOf q (looseW q ["TURNED_KINDS","mended"])).map (·.name))&&s.heap.accountedOkI (importedModules row.prog.main.body)&&s.heap.isNs mainGlobals&&s.heap.isNs builtinsNs&&tablesOk q s.heap&&Xt s&&(s.gens.size==0)):=rfl
theorem ld:p4 (sn w os)=true:=(p4e _).trans (look_both (look_both (look_both (look_both (look_both (look_both (lp w os) (lq w os)) (lr w os)) (lt w os)) (lu w os)) (lv w os)) rfl)
theorem na:(((recsOf q).take 50).all λd=>(sE w os).heap.tab0Ok d.name)=true:=by kernel_rfl
theorem ne:(((recsOf q).drop 50).all λd=>(sE w os).heap.tab0Ok d.name)=true:=by kernel_rfl
theorem nt{α}{l:List α}{f}(h:(l.take 50).all f=true)(g:(l.drop 50).all f=true):l.all f=true:=by rw[<-l.take_append_drop 50,List.all_append,h,g];rfl
theorem nb:(sE w os).heap.bmainOk=true:=by kernel_rfl
theorem nc:valsOk q (sE w os).heap=true:=by kernel_rfl
theorem nd:(!importsNone q||(sE w os).heap.noSeerOk)=true:=by kernel_rfl
theorem p3e(s:Shared):p3 (openSeen q ["TURNED_KINDS","mended"] (importedModules row.prog.main.body) Xt true s)=tabsOk q s:=rfl
theorem lc:p3 (sn w os)=gd.2.2.2.1:=(p3e _).trans (look_both (look_both (look_both (nt (na w os) (ne w os)) (nb w os)) (nc w os)) (nd w os))
theorem le:p5 (sn w os)=gd.2.2.2.2.1:=by kernel_rfl
theorem p6e(s:Shared):p6 (openSeen q ["TURNED_KINDS","mended"] (importedModules row.prog.main.body) Xt true s)=plainSeenE q (looseW q ["TURNED_KINDS","mended"]) s:=by delta openSeen;exact q6
theorem ga:plainSeenE q (looseW q ["TURNED_KINDS","mended"]) (sE w os)=plainGoodE q (looseW q ["TURNED_KINDS","mended"]):=by rw[lw];kernel_rfl
theorem lg:p6 (sn w os)=gd.2.2.2.2.2.1:=(p6e _).trans (ga w os)
theorem lh:p7 (sn w os)=gd.2.2.2.2.2.2.1:=by kernel_rfl
theorem lj:p8 (sn w os)=gd.2.2.2.2.2.2.2.1:=by kernel_rfl
theorem lm:p9 (sn w os)=gd.2.2.2.2.2.2.2.2:=by kernel_rfl
theorem l2:sn w os=gd:=pr (la w os) (lb w os) (ld w os) rfl (lc w os) (le w os) (lg w os) (lh w os) (lj w os) (lm w os)
theorem l3:H.obs (sE w os)=H.val w:=by kernel_rfl
theorem left:LeftO row.prog q ["TURNED_KINDS","mended"] Xt H.obs H.val 8188:=LeftO.of_pieces (H₀:=boot_heap) (H₁:=λP=>absHeap (T P 79) 580 {}) (gs₀:= #[]) (gs₁:= #[]) (d₀:=boot_drawn) (d₁:={}) (k₀:=boot_toks) (k₁:=999) (boot_open opn rfl fen) siz run rfl λw=>funext λos=>looks_pair (l1 w os) (looks_pair (l2 w os) (l3 w os))
end
end Hd
namespace L2
open PySem PySem.Spec PyProof.Rows
abbrev Key:=Sum Int Str
def uI:Key->Value->Bool
 |.inl k,v=>Value.isInt k v
 |.inr x,v=>Value.isStrOf x v
def Yt(w:World):Key->Int
 |.inl k=>hashInt k
 |.inr x=>hashStr w x
theorem bz:∀{k:Key}{v:Value},uI k v=true->(∃i t,k=Sum.inl i/\v=Value.int i t)\/(∃x t,k=Sum.inr x/\v=Value.str x t)
 |.inl i,v,h=>by obtain ⟨t,e⟩:=Value.isInt_shape (k:=i) (v:=v) h;exact .inl ⟨i,t,rfl,e⟩
 |.inr x,v,h=>by obtain ⟨t,e⟩:=Value.isStrOf_shape (x:=x) (v:=v) h;exact .inr ⟨x,t,rfl,e⟩
theorem Ez(i:Int)(t:Tok):uI (.inl i) (.int i t)=true:=by simp [uI,Value.isInt]
theorem Eo(x:Str)(t:Tok):uI (.inr x) (.str x t)=true:=by simp [uI,Value.isStrOf]
theorem N9(a b:Int):decide ((Sum.inl a:Key)=Sum.inl b)=(a==b):=by
 by_cases e:a=b
 ·subst e;simp
 ·have h:¬(Sum.inl a:Key)=Sum.inl b:=λq=>e (Sum.inl.inj q);rw [decide_eq_false h];exact (beq_eq_false_iff_ne.mpr e).symm
theorem O1(a b:Str):decide ((Sum.inr a:Key)=Sum.inr b)=decide (a=b):=by
 by_cases e:a=b
 ·subst e;simp
 ·have h:¬(Sum.inr a:Key)=Sum.inr b:=λq=>e (Sum.inr.inj q);rw [decide_eq_false h,decide_eq_false e]
theorem Qt(a:Int)(b:Str):decide ((Sum.inl a:Key)=Sum.inr b)=false:=decide_eq_false (λq=>nomatch q)
theorem O4(a:Str)(b:Int):decide ((Sum.inr a:Key)=Sum.inl b)=false:=decide_eq_false (λq=>nomatch q)
def bD(prog:Program)(w:World):PySem.KeyKind prog w Key where
 is:=uI
 hash:=Yt w
 inj:=λv a b ha hb=>by
  rcases bz ha with ⟨i,t,rfl,rfl⟩|⟨x,t,rfl,rfl⟩
  ·rcases bz hb with ⟨j,u,rfl,e⟩|⟨y,u,rfl,e⟩
   ·injection e with e1 _;rw [e1]
   ·exact nomatch e
  ·rcases bz hb with ⟨j,u,rfl,e⟩|⟨y,u,rfl,e⟩
   ·exact nomatch e
   ·injection e with e1 _;rw [e1]
 byValue:=λk v h=>by rcases bz h with ⟨i,t,rfl,rfl⟩|⟨x,t,rfl,rfl⟩ <;> rfl
 pyHash:=λhv h=>by
  rcases bz hv with ⟨i,t,rfl,rfl⟩|⟨x,t,rfl,rfl⟩
  ·exact wpAny_pyHash_int h
  ·exact wpAny_pyHash_str h
 eqBool:=λhu hv h=>by
  rcases bz hu with ⟨i,t,rfl,rfl⟩|⟨x,t,rfl,rfl⟩
  ·rcases bz hv with ⟨j,u,rfl,rfl⟩|⟨y,u,rfl,rfl⟩
   ·rw [N9] at h;exact wpAny_eqBool_int h
   ·rw [Qt] at h;exact SeqAt.EqAt.int_str i t y u _ _ _ _ h
  ·rcases bz hv with ⟨j,u,rfl,rfl⟩|⟨y,u,rfl,rfl⟩
   ·rw [O4] at h;exact SeqAt.EqAt.str_int x t j u _ _ _ _ h
   ·rw [O1] at h;exact wpAny_eqBool_str h
 «strs»:=λk x t v h=>by
  rcases bz h with ⟨i,u,rfl,e⟩|⟨y,u,rfl,e⟩
  ·exact nomatch e
  ·injection e with e1 _
   subst e1;cases v <;> rfl
theorem yc(prog:Program)(w:World)(i:Int)(t:Tok):(bD prog w).is (.inl i) (.int i t)=true:=Ez i t
theorem Ao(prog:Program)(w:World)(x:Str)(t:Tok):(bD prog w).is (.inr x) (.str x t)=true:=Eo x t
inductive V where
 |bq|bl (b:Bool)|int (i:Int)|str (x:Str)|Gu (b:Array UInt8)|P5 (b:UInt64)|ref (a:Addr)|ty (n:String)
 deriving DecidableEq
def aB:V->Value->Prop
 |.bq,u=>u=Value.none
 |.bl b,u=>u=Value.bool b
 |.int i,u=>∃t,u=Value.int i t
 |.str x,u=>∃t,u=Value.str x t
 |.Gu b,u=>∃t,u=Value.bytes b t
 |.P5 b,u=>∃t,u=Value.float b t
 |.ref a,u=>u=Value.ref a
 |.ty n,u=>u=Value.type n
abbrev ay:List V->List Value->Prop:=Paired aB
theorem ay.length{xs:List V}{us:List Value}(r:ay xs us):xs.length=us.length:=Paired.length r
theorem ay.get:∀{xs:List V}{us:List Value}{i:Nat}{x:V},ay xs us->xs[i]? =some x->∃u,us[i]? =some u/\aB x u
 |_,_,_,_,.nil,e=>by simp at e
 |_,_,0,_,.cons r _,e=>by simp at e;subst e;exact ⟨_,rfl,r⟩
 |_,_,i+1,x,.cons _ t,e=>by obtain ⟨u,h1,h2⟩:=ay.get (i:=i) (x:=x) t (by simpa using e);exact ⟨u,by simpa using h1,h2⟩
theorem ay.set{x:V}{u:Value}(r:aB x u):∀{xs:List V}{us:List Value}(i:Nat),ay xs us->ay (xs.set i x) (us.set i u)
 |_,_,_,.nil=> .nil
 |_,_,0,.cons _ t=> .cons r t
 |_,_,i+1,.cons q t=> .cons q (ay.set r i t)
theorem ay.append:∀{xs ys:List V}{us ws:List Value},ay xs us->ay ys ws->ay (xs++ys) (us++ws)
 |_,_,_,_,.nil,s=>s
 |_,_,_,_,.cons r t,s=> .cons r (ay.append t s)
theorem ay.take:∀{xs:List V}{us:List Value}(n:Nat),ay xs us->ay (xs.take n) (us.take n)
 |_,_,0,_=> .nil
 |_,_,_+1,.nil=> .nil
 |_,_,n+1,.cons r t=> .cons r (ay.take n t)
theorem ay.drop:∀{xs:List V}{us:List Value}(n:Nat),ay xs us->ay (xs.drop n) (us.drop n)
 |_,_,0,r=>r
 |_,_,_+1,.nil=> .nil
 |_,_,n+1,.cons _ t=>ay.drop n t
def kg:Option V->Option Value->Prop
 |some v,some u=>aB v u
 |none,none=>True
 |_,_=>False
def KV{κ:Type}:List (κ×V)->List (κ×Value)->Prop:=Paired λ(p:κ×V) (q:κ×Value)=>p.1=q.1/\aB p.2 q.2
def kV:Key->V
 |.inl i=> .int i
 |.inr x=> .str x
inductive HO where
 |lst (xs:List V)
 |tup (xs:List V)
 |dK (Ο:List (Key×V))|dT (Ο:List (List Key×V))
 |set (S:Int->Bool) (n:Nat)
 |ins (C dx:Addr) (fs:List (Str×V))
 |own (x:Addr)
 |xd (fs:List (Str×V))
 |met (f x:Addr)
 |WC (lo hi:Int)
 |xX (o:Obj) (u:HO)
 |KH (ps:Array Value)
 |ext (φ:Heap->Prop)
abbrev Hp:=Addr->Option HO
def upd(H:Hp)(a:Addr)(o:HO):Hp:=λb=>if b=a then some o else H b
theorem Ω{H:Hp}{a:Addr}{o:HO}:upd H a o a=some o:=by unfold upd;rw [if_pos rfl]
theorem Θ{H:Hp}{a b:Addr}{o:HO}(h:b≠a):upd H a o b=H b:=by unfold upd;rw [if_neg h]
theorem R4{H:Hp}{a b:Addr}{o u:HO}(h:H a=some o)(h':H b=some u)(d:o≠u):a≠b:=by intro e;subst e;rw [h] at h';exact d (aas h')
theorem bP{H:Hp}{a b:Addr}{o:HO}(h:H a=some o)(h':H b=none):a≠b:=by intro e;subst e;rw [h] at h';cases h'
section
variable(P:Program)(w:World)
def bT(H:Hp)(h:Heap)(a:Addr):HO->Prop
 |.lst xs=>xs.length<=sizeLine/\∃(its:List Value) (n:Nat),ay xs its/\h.get? a=some {cls:= .type "list",data:= .seq its.toArray n}
 |.tup xs=>xs.length<=sizeLine/\∃its:List Value,ay xs its/\IsTup h a its.toArray
 |.dK Ο=>Ο.length<=sizeLine/\(a==sysModules)=false/\∃vs,KV Ο vs/\h.DictOf (bD P w) a vs
 | .dT Ο=>Ο.length<=sizeLine/\(a==sysModules)=false/\∃xs:List (List Key×Addr×Value),
   Paired (λ(p:List Key×V) (q:List Key×Addr×Value)=>p.1=q.1/\H q.2.1=some (.tup (p.1.map kV))/\aB p.2 q.2.2) Ο xs/\
   ∃o es ep,h.get? a=some o/\o.ExactDict/\o.data= .dict es ep/\es.toList=xs.map (entryOfKey (tupleKind (bD P w)))/\(xs.map (·.1)).Nodup
 |.set S n=>h.SetOf (intKind P w) a S n
 | .ins C dx fs=>H dx=some (.own a)/\fs.length<=1000/\dx≠a/\h.get? a=some (PySem.W.instObj C dx)/\
   ∃mA,h.Ns1 dx mA/\(∀f,kg (fs.lookup f) (mA f))/\PySem.Within mA (fs.map (·.1))
 |.own _=>∃o,h.get? a=some o
 |.xd fs=>∃mA,h.Ns1 a mA/\∀f,kg (fs.lookup f) (mA f)
 |.WC lo hi=>∃t u v,h.get? a=some {cls:= .type "range",data:= .fields #[.int lo t,.int hi u,.int 1 v]}
 |.xX o u=>h.get? a=some o/\bT H h a u
 |.KH ps=>h.get? a=some {cls:= .none,data:= .fields ps}
 |.met f x=>h.get? a=some (PySem.W.methodObj (.ref f) (.ref x))
 |.ext φ=>φ h/\(∃o,h.get? a=some o)/\∀h1 h2:Heap,φ h1->(∀o,h1.get? a=some o->h2.get? a=some o)->φ h2
def kW(H:Hp)(h:Heap):Prop:=∀a o,H a=some o->bT P w H h a o
end
section
variable{P:Program}{w:World}{H H':Hp}{h h':Heap}{a:Addr}{o:HO}
theorem bT.lt(x:bT P w H h a o):a<h.objs.size:=by
 cases o with
 |lst xs=>obtain ⟨_,_,_,_,e⟩:=x;exact Heap.lt_size e
 |tup xs=>obtain ⟨_,_,_,p⟩:=x;exact p.lt
 |dK Ο=>obtain ⟨_,_,_,_,o,_,_,e,_⟩:=x;exact Heap.lt_size e
 |dT Ο=>obtain ⟨_,_,_,_,o,_,_,e,_⟩:=x;exact Heap.lt_size e
 |set S n=>obtain ⟨o,_,_,_,e,_⟩:=x;exact Heap.lt_size e
 |ins C dx fs=>obtain ⟨_,_,_,e,_⟩:=x;exact Heap.lt_size e
 |own y=>obtain ⟨_,e⟩:=x;exact Heap.lt_size e
 |xd fs=>obtain ⟨_,⟨_,_,_,e,_⟩,_⟩:=x;exact Heap.lt_size e
 |WC lo hi=>obtain ⟨_,_,_,e⟩:=x;exact Heap.lt_size e
 |xX ob u=>obtain ⟨e,_⟩:=x;exact Heap.lt_size e
 |KH ps=>exact Heap.lt_size (show h.get? a=some _ from x)
 |met f y=>exact Heap.lt_size (show h.get? a=some _ from x)
 |ext φ=>obtain ⟨_,⟨_,e⟩,_⟩:=x;exact Heap.lt_size e
theorem Paired.PD{α β:Type}{F G:α->β->Prop}:∀{l₁:List α}{l₂:List β},Paired F l₁ l₂->(∀a b,F a b->G a b)->Paired G l₁ l₂
 |_,_,.nil,_=> .nil
 |_,_,.cons r t,f=> .cons (f _ _ r) (Paired.PD t f)
theorem bT.Ck(x:bT P w H h a o)(k:∀b u,(b=a\/H b=some (.own a))->h.get? b=some u->h'.get? b=some u)
  (ho:∀b,H b=some (.own a)->H' b=some (.own a)) (ht:∀b xs,H b=some (.tup xs)->H' b=some (.tup xs)):bT P w H' h' a o:=by
 induction o with
 |lst xs=>obtain ⟨z,its,n,r,e⟩:=x;exact ⟨z,its,n,r,k _ _ (.inl rfl) e⟩
 |tup xs=>obtain ⟨z,its,r,ob,e,c⟩:=x;exact ⟨z,its,r,ob,k _ _ (.inl rfl) e,c⟩
 |dK Ο=>obtain ⟨z,y,vs,r,ob,es,ep,e,c⟩:=x;exact ⟨z,y,vs,r,ob,es,ep,k _ _ (.inl rfl) e,c⟩
 |dT Ο=>
  obtain ⟨z,y,xs,r,ob,es,ep,e,c⟩:=x;exact ⟨z,y,xs,Paired.PD r λp q z=>⟨z.1,ht _ _ z.2.1,z.2.2⟩,ob,es,ep,k _ _ (.inl rfl) e,c⟩
 |set S n=>obtain ⟨ob,es,ep,t,e,c⟩:=x;exact ⟨ob,es,ep,t,k _ _ (.inl rfl) e,c⟩
 |ins C dx fs=>
  obtain ⟨d,z,ne,e,mA,⟨od,es,ep,e2,c⟩,r⟩:=x;exact ⟨ho _ d,z,ne,k _ _ (.inl rfl) e,mA,⟨od,es,ep,k _ _ (.inr d) e2,c⟩,r⟩
 |own y=>obtain ⟨ob,e⟩:=x;exact ⟨ob,k _ _ (.inl rfl) e⟩
 |xd fs=>obtain ⟨mA,⟨od,es,ep,e,c⟩,r⟩:=x;exact ⟨mA,⟨od,es,ep,k _ _ (.inl rfl) e,c⟩,r⟩
 |WC lo hi=>obtain ⟨t,u,v,e⟩:=x;exact ⟨t,u,v,k _ _ (.inl rfl) e⟩
 |xX ob u ih=>obtain ⟨e,q⟩:=x;exact ⟨k _ _ (.inl rfl) e,ih q⟩
 |KH ps=>
  have e:h.get? a=some {cls:= .none,data:= .fields ps}:=x;show h'.get? a=some {cls:= .none,data:= .fields ps};exact k a _ (.inl rfl) e
 |met f y=>
  have e:h.get? a=some (PySem.W.methodObj (.ref f) (.ref y)):=x;show h'.get? a=some (PySem.W.methodObj (.ref f) (.ref y));exact k a _ (.inl rfl) e
 |ext φ=>obtain ⟨p,⟨o,e⟩,st⟩:=x;exact ⟨st _ _ p λo q=>k _ _ (.inl rfl) q,⟨o,k _ _ (.inl rfl) e⟩,st⟩
theorem kW.lt(x:kW P w H h)(e:H a=some o):a<h.objs.size:=(x a o e).lt
theorem kW.fresh(x:kW P w H h)(e:h.objs.size<=a):H a=none:=by
 cases q:H a with
 |none=>rfl
 |some u=>exact absurd (aap (x.lt q) e) (abi _)
theorem kW.kept(x:kW P w H h)(k:∀b u,h.get? b=some u->h'.get? b=some u):kW P w H h':=λa o e=>
 (x a o e).Ck (λb u _ q=>k b u q) (λ_ q=>q) λ_ _ q=>q
theorem kW.laid(x:kW P w H h)(k:∀b u,h.get? b=some u->h'.get? b=some u)(hp:h.objs.size<=a)(new:bT P w (upd H a o) h' a o):kW P w (upd H a o) h':=λb u e=>by
 have hn:=x.fresh hp;by_cases hb:b=a
 ·subst hb;rw [Ω] at e;cases e;exact new
 ·rw [Θ hb] at e;exact (x b u e).Ck (λc v _ q=>k c v q) (λc q=>by rw [Θ (bP q hn)];exact q) λc xs q=>by rw [Θ (bP q hn)];exact q
end
def Rd(H:Hp)(a:Addr)(u:HO):Prop:=H a=some u\/∃o,H a=some (.xX o u)
theorem Rd.ok{P:Program}{w:World}{H:Hp}{h:Heap}{a:Addr}{u:HO}(r:Rd H a u)(x:kW P w H h):bT P w H h a u:=by
 rcases r with r|⟨o,r⟩
 ·exact x a u r
 ·obtain ⟨_,q⟩:=x a _ r;exact q
def QB:Option HO->Prop
 |some (.lst _)=>True
 |some (.dK _)=>True
 |some (.dT _)=>True
 |some (.set _ _)=>True
 |some (.ins _ _ _)=>True
 |some (.ext _)=>True
 |_=>False
section
variable{P:Program}{w:World}{H:Hp}{h h':Heap}{x e:Addr}{o':HO}
theorem kW.write(ok:kW P w H h)(mu:QB (H x))(he:e=x\/H e=some (.own x))(k:∀b u,b≠e->h.get? b=some u->h'.get? b=some u)(QN:∃u,h'.get? e=some u)
  (new:bT P w (upd H x o') h' x o'):kW P w (upd H x o') h':=λb u q=>by
 have RY:∀c y,H c=some (.own y)->c≠x:=λc y r z=>by subst z;rw [r] at mu;exact mu
 have Yu:∀c xs,H c=some (.tup xs)->c≠x:=λc xs r z=>by subst z;rw [r] at mu;exact mu
 by_cases hb:b=x
 ·subst hb;rw [Ω] at q;cases q;exact new
 ·rw [Θ hb] at q;by_cases PF:b=e
  ·have q':H b=some (.own x):=by
    rcases he with z|z
    ·exact absurd (PF.trans z) hb
    ·rw [PF];exact z
   rw [q] at q';cases q';obtain ⟨v,hv⟩:=QN;exact ⟨v,by rw [PF];exact hv⟩
  ·refine (ok b u q).Ck (λc v hc r=>k c v ?_ r) (λc r=>by rw [Θ (RY c b r)];exact r) λc xs r=>by rw [Θ (Yu c xs r)];exact r
   rcases hc with rfl|hc
   ·exact PF
   ·rintro rfl;rcases he with z|z
    ·exact RY c b hc z
    ·rw [hc] at z;cases z;exact hb rfl
end
structure Un(fs ex:List Addr)(H H':Hp)(h h':Heap):Prop where
 keep:∀b o,h.get? b=some o->H b=none->b∉fs->b∉ex->h'.get? b=some o
 slot:∀b o,h.get? b=some o->H b=none->b∈fs->b∉ex->∃sl,h'.get? b=some {o with slots:=sl}
 free:∀b o,h.get? b=some o->H b=none->b∉ex->H' b=none
 there:∀b o,h.get? b=some o->b∉ex->∃o',h'.get? b=some o'
 pP:∀b xs,H b=some (.tup xs)->H' b=some (.tup xs)
 nH:∀b o u,H b=some (.xX o u)->H' b=some (.xX o u)
 pR:∀b ps,H b=some (.KH ps)->∃more,H' b=some (.KH (ps++more))
section
variable{fs WR ex ex':List Addr}{H H1 H2:Hp}{h h1 h2 h':Heap}{a x e:Addr}{o:HO}
theorem Un.any(u:Un fs ex H H1 h h1){b:Addr}{ob:Obj}(q:h.get? b=some ob)(n:H b=none)(hx:b∉ex):∃sl,h1.get? b=some {ob with slots:=sl}:=by
 by_cases hb:b∈fs
 ·exact u.slot b ob q n hb hx
 ·exact ⟨ob.slots,u.keep b ob q n hb hx⟩
theorem Un.kept(k:∀b u,h.get? b=some u->h'.get? b=some u):Un fs ex H H h h':=
 ⟨λb ob q _ _ _=>k b ob q,λb ob q _ _ _=>⟨ob.slots,k b ob q⟩,λ_ _ _ n _=>n,λb ob q _=>⟨ob,k b ob q⟩,λ_ _ q=>q,λ_ _ _ q=>q,λ_ ps q=>⟨#[],by rw [q];simp⟩⟩
theorem Un.refl:Un fs ex H H h h:=Un.kept λ_ _ q=>q
theorem Un.laid(k:∀b u,h.get? b=some u->h'.get? b=some u)(hp:h.objs.size<=a)(hn:H a=none):Un fs ex H (upd H a o) h h' where
 keep:=λb u q _ _ _=>k b u q
 slot:=λb u q _ _ _=>⟨u.slots,k b u q⟩
 free:=λb u q n _=>by rw [Θ (aaE (aap (Heap.lt_size q) hp))];exact n
 there:=λb u q _=>⟨u,k b u q⟩
 pP:=λb xs q=>by rw [Θ (bP q hn)];exact q
 nH:=λb u xs q=>by rw [Θ (bP q hn)];exact q
 pR:=λb ps q=>⟨#[],by rw [Θ (bP q hn),q];simp⟩
theorem Un.write(mu:QB (H x))(he:e=x\/H e=some (.own x))(k:∀b u,b≠e->h.get? b=some u->h'.get? b=some u)(QN:∃u,h'.get? e=some u):Un fs ex H (upd H x o) h h':=by
 have hx:∀b,H b=none->b≠x:=λb n z=>by subst z;rw [n] at mu;exact mu
 have hb:∀b,H b=none->b≠e:=λb n z=>by
  subst z;rcases he with r|r
  ·exact hx b n r
  ·rw [n] at r;cases r
 have hm:∀b u,H b=some u->¬QB (some u)->b≠x:=λb u q nm z=>by subst z;rw [q] at mu;exact nm mu
 refine ⟨λb u q n _ _=>k b u (hb b n) q,λb u q n _ _=>⟨u.slots,k b u (hb b n) q⟩,λb u q n _=>by rw [Θ (hx b n)];exact n,λb u q _=>?_,
  λb xs q=>by rw [Θ (hm b _ q λz=>z)];exact q,λb u xs q=>by rw [Θ (hm b _ q λz=>z)];exact q,λb ps q=>⟨#[],by rw [Θ (hm b _ q λz=>z),q];simp⟩⟩
 by_cases PF:b=e
 ·subst PF;exact QN
 ·exact ⟨u,k b u PF q⟩
end
def Uh(h:Heap)(H:Hp):List Addr:=(List.range h.objs.size).filter λa=>(H a).isSome
def wF(h:Heap)(H:Hp):Heap:=PySem.W.hideAll h (Uh h H)
theorem EH(h:Heap)(H:Hp):(wF h H).objs.size=h.objs.size:=PySem.W.hideAll_size _ _
theorem Ie{h:Heap}{H:Hp}{b:Addr}{o:Obj}(e:h.get? b=some o)(n:H b=none):(wF h H).get? b=some o:=
 PySem.W.hideAll_get _ e λhm=>by have q:(H b).isSome=true:=(List.mem_filter.mp hm).2;rw [n] at q;simp at q
theorem L6{h:Heap}{H:Hp}{b:Addr}{o:Obj}(e:(wF h H).get? b=some o):h.get? b=some o/\H b=none:=by
 have e':h.get? b=some o:=PySem.W.of_hideAll (Uh h H) e;refine ⟨e',?_⟩;cases q:H b with
 |none=>rfl
 |some x=>
  have hm:b∈Uh h H:=List.mem_filter.mpr ⟨List.mem_range.mpr (Heap.lt_size e'),by simp [q]⟩;have z:(wF h H).get? b=none:=PySem.W.hideAll_none (Uh h H) hm;rw [z] at e;cases e
structure Mod(K:PySem.W.Frag)(mg:Str->Option Value)(base:Heap):Prop where
 RM:K.In base
 glob:base.Ns mainGlobals mg
 blt:∃mb,base.Ns builtinsNs mb/\∀x:Str,x≠"__name__"->mb x=bootBuiltins x
 nolimit:base.NoLimit
structure Cx where
 prog:Program
 w:World
 K:PySem.W.Frag
 mg:Str->Option Value
 base:Heap
 A:Around
 N:List Str
 s₀:Shared
 H₀:Hp
 env:Env
 outer:List Env
 stack:List Env
 ex:List Addr
 fn:Str->Bool
 calm:Bool
 pn:List (Addr×Obj)
 xe:Value->Shared->Prop
def pQ(l:List Env):List Addr:=l.filterMap (·.frame)
abbrev Cx.fs(X:Cx):List Addr:=pQ X.outer
def W5(sc:Scope)(x:Str):Prop:=sc.names.lookup x=some .local\/sc.names.lookup x=some .cell\/sc.names.lookup x=some .free
def Loc(sc:Scope)(x:Str):Prop:=sc.names.lookup x=some .local\/sc.names.lookup x=some .cell
def YA(env:Env)(h:Heap)(m:Str->Option Value)(x:Str)(u:Value):Prop:=
 (env.kindOf x=some .local/\m x=some u)\/((env.kindOf x=some .cell\/env.kindOf x=some .free)/\∃c,env.cells.lookup x=some c/\h.IsCell c (some u))
structure Cx.Ok(X:Cx):Prop where
 mod:Mod X.K X.mg X.base
 kind:X.env.scope.kind= .function
 glob:X.env.globals=mainGlobals
 blt:X.env.builtins=builtinsNs
 above:X.s₀.heap.objs.size<=X.env.locals
 inj:∀x y c,X.env.cells.lookup x=some c->X.env.cells.lookup y=some c->x=y
 has:∀x,(X.env.kindOf x=some .cell\/X.env.kindOf x=some .free)->∃c,X.env.cells.lookup x=some c
 Vn:∀x c,X.fn x=true->X.env.cells.lookup x=some c->X.s₀.heap.objs.size<=c
 hd:X.calm=true->X.A.handled=none
 frames:X.A.frames=some X.stack
 YV:X.stack=X.outer\/(X.stack=X.env::X.outer/\X.env.frame=some X.env.locals)
 Zi:∀b∈X.ex,b≠X.env.locals/\∀x c,X.env.cells.lookup x=some c->c≠b
 bs:∀b o,X.base.get? b=some o->X.s₀.heap.get? b=some o/\X.H₀ b=none
 lx:X.base.objs.size<=X.s₀.heap.objs.size
 OD:∀b o,X.base.get? b=some o->b∉X.ex
 P_:∀b∈X.ex,b∉X.fs
 tJ:X.s₀.heap.FunFrames X.base X.outer
 Se:∀b∈X.fs,X.H₀ b=none
structure Inv(X:Cx)(ζ:List (Addr×Obj))(σ:List (Option V))(H:Hp)(s:Shared):Prop where
 ok:X.Ok
 os:s.os=X.s₀.os
 bare:AllBare s.gens
 base:Un X.fs X.ex X.H₀ H X.s₀.heap s.heap
 loc:∃m,s.heap.Ns X.env.locals m/\∀(i:Nat) (x:Str) (v:V),X.N[i]? =some x->σ[i]? =some (some v)->W5 X.env.scope x->∃u,aB v u/\YA X.env s.heap m x u
 cell:∀x c,X.env.cells.lookup x=some c->∃v,s.heap.IsCell c v
 free:H X.env.locals=none
 pD:∀x c,X.env.cells.lookup x=some c->H c=none
 pin:∀p∈X.pn++ζ,s.heap.get? p.1=some p.2/\H p.1=none/\p.1≠X.env.locals/\p.1∉X.fs/\∀v,p.2.data≠ .cell v
 ba:kW X.prog X.w H s.heap
 len:σ.length=X.N.length
section
variable{X:Cx}{ζ:List (Addr×Obj)}{σ:List (Option V)}{H H':Hp}{s:Shared}{h':Heap}
theorem Cx.Ok.XT(ok:X.Ok){b:Addr}{o:Obj}(e:X.base.get? b=some o):b∉X.fs:=λhb=>by have:=(ok.tJ.mem hb).1;rw [e] at this;cases this
theorem Inv.bs(I:Inv X ζ σ H s):∀b o,X.base.get? b=some o->s.heap.get? b=some o/\H b=none:=λb o e=>
 ⟨I.base.keep b o (I.ok.bs b o e).1 (I.ok.bs b o e).2 (I.ok.XT e) (I.ok.OD b o e),I.base.free b o (I.ok.bs b o e).1 (I.ok.bs b o e).2 (I.ok.OD b o e)⟩
theorem Inv.bk(I:Inv X ζ σ H s):∀b o,X.base.get? b=some o->s.heap.get? b=some o:=λb o e=>(I.bs b o e).1
theorem Inv.mod(I:Inv X ζ σ H s):Mod X.K X.mg X.base:=I.ok.mod
theorem Inv.pK(I:Inv X ζ σ H s):X.K.In s.heap:=I.ok.mod.RM.keeps I.bk
theorem Inv.lt(I:Inv X ζ σ H s):X.env.locals<s.heap.objs.size:=let ⟨_,hn,_⟩:=I.loc;hn.lt
theorem Inv.sz(I:Inv X ζ σ H s):X.s₀.heap.objs.size<=s.heap.objs.size:=aaq I.ok.above (Nat.le_of_lt I.lt)
theorem Inv.Ym(I:Inv X ζ σ H s){a:Addr}(h:s.heap.objs.size<=a):a∉X.fs:=λhb=>by obtain ⟨_,o,ho,_⟩:=I.ok.tJ.mem hb;exact absurd (aap (Heap.lt_size ho) (aaq I.sz h)) (abi _)
theorem Inv.Mc(I:Inv X ζ σ H s):∀x c,X.env.cells.lookup x=some c->c≠X.env.locals:=λx c e z=>by obtain ⟨v,o,ho,hd⟩:=I.cell x c e;obtain ⟨m,⟨o',es,ep,EE,LX,_⟩,_⟩:=I.loc;rw [z,EE] at ho;cases ho;rw [LX] at hd;cases hd
theorem Inv.tJ(I:Inv X ζ σ H s):s.heap.FunFrames X.base X.outer:=by
 have all:∀(l:List Env),(∀b∈pQ l,b∈X.fs)->X.s₀.heap.FunFrames X.base l->s.heap.FunFrames X.base l:=by
  intro l
  induction l with
  |nil=>intro _ _;trivial
  |cons env r ih=>
   intro hs hl;obtain ⟨hk,⟨L,o,hf,hn,ho,hd⟩,hr⟩:=hl;have hL:L∈X.fs:=hs L (by unfold pQ;rw [List.filterMap_cons,hf];exact List.mem_cons_self);obtain ⟨sl,e⟩:=I.base.slot L o ho (I.ok.Se L hL) hL λz=>I.ok.P_ L z hL;exact ⟨hk,⟨L,_,hf,hn,e,hd⟩,ih (λb hb=>hs b (by unfold pQ;rw [List.filterMap_cons,hf];exact List.mem_cons_of_mem _ hb)) hr⟩
 exact all X.outer (λ_ hb=>hb) I.ok.tJ
theorem Inv.stack(I:Inv X ζ σ H s):s.heap.FunFrames X.base X.stack:=by
 rcases I.ok.YV with e|⟨e,hf⟩
 ·rw [e];exact I.tJ
 ·rw [e];obtain ⟨m,hn,_⟩:=I.loc;refine .cons (by rw [I.ok.kind];decide) hf hn ?_ I.tJ;exact Heap.get?_none_of_le (aaq I.ok.lx I.ok.above)
theorem Inv.wY(I:Inv X ζ σ H s):∀b∈pQ X.stack,b∈X.env.locals::X.fs:=λb hb=>by
 rcases I.ok.YV with e|⟨e,hf⟩
 ·rw [e] at hb;exact aac _ hb
 ·rw [e] at hb;unfold pQ at hb;rw [abV,hf] at hb;exact hb
theorem Inv.wX(I:Inv X ζ σ H s):∀b∈pQ X.stack,H b=none:=λb hb=>by
 rcases aay.mp (I.wY b hb) with e|hb
 ·rw [e];exact I.free
 ·obtain ⟨_,o,ho,_⟩:=I.ok.tJ.mem hb;exact I.base.free b o ho (I.ok.Se b hb) λz=>I.ok.P_ b z hb
theorem Inv.step{g':Array GenState}{t':Nat}{d':Drawn}{ch:List Addr}(I:Inv X ζ σ H s)
  (Au:∀b∈ch,(b∈X.ex\/X.s₀.heap.objs.size<=b)/\b≠X.env.locals/\(∀x c,X.env.cells.lookup x=some c->c≠b)/\∀p∈X.pn++ζ,p.1≠b)
  (keep:∀b o,b≠X.env.locals->b∉X.fs->b∉ch->s.heap.get? b=some o->H b=none->h'.get? b=some o)
  (slot:∀b o,b≠X.env.locals->b∈X.fs->b∉ch->s.heap.get? b=some o->H b=none->∃sl,h'.get? b=some {o with slots:=sl}) (free:∀b o,b∉ch->s.heap.get? b=some o->H b=none->H' b=none)
  (there:∀b o,b∉ch->s.heap.get? b=some o->∃o',h'.get? b=some o')
  (pP:∀b xs,H b=some (.tup xs)->H' b=some (.tup xs)) (nH:∀b o u,H b=some (.xX o u)->H' b=some (.xX o u)) (pR:∀b ps,H b=some (.KH ps)->∃more,H' b=some (.KH (ps++more)))
  (ns:∀m,s.heap.Ns X.env.locals m->h'.Ns X.env.locals m) (ba:kW X.prog X.w H' h') (hg:AllBare g'):
  Inv X ζ σ H' {s with heap:=h',gens:=g',drawn:=d',toks:=t'}:=by
 have ZT:∀b o,X.s₀.heap.get? b=some o->b≠X.env.locals:=λb o e=>aaE (aap (Heap.lt_size e) I.ok.above);have US:∀b o,X.s₀.heap.get? b=some o->b∉X.ex->b∉ch:=λb o e hx hb=>by
  rcases (Au b hb).1 with z|z
  ·exact hx z
  ·exact absurd (aap (Heap.lt_size e) z) (abi _)
 have cellK:∀x c,X.env.cells.lookup x=some c->∀v,s.heap.IsCell c v->h'.IsCell c v:=λx c e v ⟨o,ho,hd⟩=>by
  have Q1:c∉ch:=λz=>(Au c z).2.2.1 x c e rfl;by_cases hc:c∈X.fs
  ·obtain ⟨sl,q⟩:=slot c o (I.Mc x c e) hc Q1 ho (I.pD x c e);exact ⟨_,q,hd⟩
  ·exact ⟨o,keep c o (I.Mc x c e) hc Q1 ho (I.pD x c e),hd⟩
 refine ⟨I.ok,I.os,hg,⟨λb o e n hb hx=>?_,λb o e n hb hx=>?_,λb o e n hx=>?_,λb o e hx=>?_,λb xs e=>pP b xs (I.base.pP b xs e),λb o xs e=>nH b o xs (I.base.nH b o xs e),λb ps e=>?_⟩,?_,λx c e=>?_,?_,λx c e=>?_,λp hp=>?_,ba,I.len⟩
 ·exact keep b o (ZT b o e) hb (US b o e hx) (I.base.keep b o e n hb hx) (I.base.free b o e n hx)
 ·obtain ⟨sl,e1⟩:=I.base.slot b o e n hb hx;obtain ⟨sl',e2⟩:=slot b _ (ZT b o e) hb (US b o e hx) e1 (I.base.free b o e n hx);exact ⟨sl',e2⟩
 ·obtain ⟨o',e1⟩:=I.base.there b o e hx;exact free b o' (US b o e hx) e1 (I.base.free b o e n hx)
 ·obtain ⟨o',e1⟩:=I.base.there b o e hx;exact there b o' (US b o e hx) e1
 ·obtain ⟨m1,e1⟩:=I.base.pR b ps e;obtain ⟨m2,e2⟩:=pR b _ e1;exact ⟨m1++m2,by rw [e2,Array.append_assoc]⟩
 ·obtain ⟨m,hn,hl⟩:=I.loc;refine ⟨m,ns m hn,λi x v e1 e2 e3=>?_⟩;obtain ⟨u,r,l⟩:=hl i x v e1 e2 e3;refine ⟨u,r,?_⟩;rcases l with l|⟨k,c,e,z⟩
  ·exact .inl l
  ·exact .inr ⟨k,c,e,cellK x c e _ z⟩
 ·obtain ⟨v,z⟩:=I.cell x c e;exact ⟨v,cellK x c e v z⟩
 ·obtain ⟨m,⟨o,_,_,ho,_⟩,_⟩:=I.loc;exact free _ o (λz=>(Au _ z).2.1 rfl) ho I.free
 ·obtain ⟨v,o,ho,hd⟩:=I.cell x c e;exact free c o (λz=>(Au c z).2.2.1 x c e rfl) ho (I.pD x c e)
 ·obtain ⟨e,n,ne,nf,d⟩:=I.pin p hp;have Q1:p.1∉ch:=λz=>(Au p.1 z).2.2.2 p hp rfl;exact ⟨keep p.1 p.2 ne nf Q1 e n,free p.1 p.2 Q1 e n,ne,nf,d⟩
theorem Inv.un{t':Nat}(I:Inv X ζ σ H s)(u:Un X.fs [] H H' s.heap h')(ba:kW X.prog X.w H' h'):Inv X ζ σ H' {s with heap:=h',toks:=t'}:=by
 obtain ⟨m,⟨o,es,ep,ho,r⟩,_⟩:=id I.loc;obtain ⟨sl,hL⟩:=u.any ho I.free (by simp)
 exact I.step (g':=s.gens) (d':=s.drawn) (ch:=[]) (λ_ z=>nomatch z) (λb o _ hb _ e n=>u.keep b o e n hb (by simp)) (λb o _ hb _ e n=>u.slot b o e n hb (by simp)) (λb o _ e n=>u.free b o e n (by simp)) (λb o _ e=>u.there b o e (by simp)) u.pP u.nH u.pR (λm' hm=>by
  obtain ⟨o',Wd,Vi,EE,r'⟩:=hm;rw [ho] at EE;cases EE
  exact ⟨_,Wd,Vi,hL,r'⟩) ba I.bare
theorem Inv.call{g':Array GenState}{t':Nat}{d':Drawn}{ch:List Addr}(I:Inv X ζ σ H s)(u:Un (pQ X.stack) ch H H' s.heap h')(ba:kW X.prog X.w H' h')(hg:AllBare g')
  (Au:∀b∈ch,(b∈X.ex\/X.s₀.heap.objs.size<=b)/\b≠X.env.locals/\(∀x c,X.env.cells.lookup x=some c->c≠b)/\∀p∈X.pn++ζ,p.1≠b):
  Inv X ζ σ H' {s with heap:=h',gens:=g',drawn:=d',toks:=t'}:=by
 obtain ⟨m,⟨o,es,ep,ho,r⟩,_⟩:=id I.loc;obtain ⟨sl,hL⟩:=u.any ho I.free λz=>(Au _ z).2.1 rfl
 exact I.step (ch:=ch) Au (λb o hL hb hc e n=>u.keep b o e n (λz=>(aay.mp (I.wY b z)).elim hL hb) hc) (λb o _ _ hc e n=>u.any e n hc) (λb o hc e n=>u.free b o e n hc) (λb o hc e=>u.there b o e hc) u.pP u.nH u.pR (λm' hm=>by
  obtain ⟨o',Wd,Vi,EE,r'⟩:=hm;rw [ho] at EE;cases EE
  exact ⟨_,Wd,Vi,hL,r'⟩) ba hg
theorem Inv.turned{t':Nat}{it:Addr}(I:Inv X ζ σ H s)(k:∀b o,b≠it->s.heap.get? b=some o->h'.get? b=some o)(hn:H it=none)(hL:it≠X.env.locals)
  (h1:it∈X.ex\/X.s₀.heap.objs.size<=it) (h2:∀x c,X.env.cells.lookup x=some c->c≠it) (h3:∀p∈X.pn++ζ,p.1≠it):Inv X ζ σ H {s with heap:=h',toks:=t'}:=by
 have YU:∀b u,H b=some u->b≠it:=λb u e z=>by rw [z,hn] at e;cases e
 refine I.step (g':=s.gens) (d':=s.drawn) (ch:=[it]) (λb hb=>?_) (λb o _ _ hc e _=>k b o (λz=>hc (by simp [z])) e) (λb o _ _ hc e _=>⟨o.slots,k b o (λz=>hc (by simp [z])) e⟩) (λ_ _ _ _ n=>n)
  (λb o hc e=>⟨o,k b o (λz=>hc (by simp [z])) e⟩) (λ_ _ e=>e) (λ_ _ _ e=>e) (λb ps e=>⟨#[],by rw [e];simp⟩) (λm hm=>?_) (λb u e=>?_) I.bare
 ·have e:b=it:=by simpa using hb
  subst e;exact ⟨h1,hL,h2,h3⟩
 ·obtain ⟨o,es,ep,ho,r⟩:=hm;exact ⟨o,es,ep,k _ o (Ne.symm hL) ho,r⟩
 ·refine (I.ba b u e).Ck (λc v hc q=>k c v ?_ q) (λ_ q=>q) λ_ _ q=>q;rcases hc with z|z
  ·rw [z];exact YU b u e
  ·exact YU c _ z
theorem Inv.tok(I:Inv X ζ σ H s)(t:Nat):Inv X ζ σ H {s with toks:=t}:=I.un (h':=s.heap) (t':=t) Un.refl I.ba
theorem Inv.kept{t':Nat}(I:Inv X ζ σ H s)(k:∀b u,s.heap.get? b=some u->h'.get? b=some u):Inv X ζ σ H {s with heap:=h',toks:=t'}:=I.un (Un.kept k) (I.ba.kept k)
theorem Inv.laid{a:Addr}{o:HO}{t':Nat}(I:Inv X ζ σ H s)(k:∀b u,s.heap.get? b=some u->h'.get? b=some u)(hp:s.heap.objs.size<=a)(new:bT X.prog X.w (upd H a o) h' a o):
  Inv X ζ σ (upd H a o) {s with heap:=h',toks:=t'}:=I.un (Un.laid k hp (I.ba.fresh hp)) (I.ba.laid k hp new)
theorem Inv.write{x e:Addr}{o:HO}{t':Nat}(I:Inv X ζ σ H s)(mu:QB (H x))(he:e=x\/H e=some (.own x))(k:∀b u,b≠e->s.heap.get? b=some u->h'.get? b=some u)(QN:∃u,h'.get? e=some u)
  (new:bT X.prog X.w (upd H x o) h' x o):Inv X ζ σ (upd H x o) {s with heap:=h',toks:=t'}:=I.un (Un.write mu he k QN) (I.ba.write mu he k QN new)
theorem Inv.Dk{M8:List (Addr×Obj)}(I:Inv X ζ σ H s)(h:∀p∈M8,s.heap.get? p.1=some p.2/\H p.1=none/\p.1≠X.env.locals/\p.1∉X.fs/\∀v,p.2.data≠ .cell v):Inv X M8 σ H s:=
 ⟨I.ok,I.os,I.bare,I.base,I.loc,I.cell,I.free,I.pD,λp hp=>(aaN.mp hp).elim (λz=>I.pin p (List.mem_append_left _ z)) (h p),I.ba,I.len⟩
theorem zE{N:List Str}(hN:N.Nodup){i j:Nat}{x:Str}(a:N[i]? =some x)(b:N[j]? =some x):i=j:=by obtain ⟨h1,e1⟩:=aaf.mp a;obtain ⟨h2,e2⟩:=aaf.mp b;exact (List.getElem_inj hN).mp (e1.trans e2.symm)
theorem uo{M:Model}{A:Around}{E:Value->Shared->Prop}{i:Nat}{x:Str}{v:V}{u:Value}{Q:Unit->Shared->Prop}(I:Inv X ζ σ H s)(hN:X.N.Nodup)(hi:X.N[i]? =some x)(hx:Loc X.env.scope x)(r:aB v u)
  (h:∀s',Inv X ζ (σ.set i (some v)) H s'->(∃a,Heap.SameBut a s.heap s'.heap/\(a=X.env.locals\/X.env.cells.lookup x=some a))->Q () s') (hf:X.fn x=true\/X.env.scope.names.lookup x=some .local:=by first|exact .inl rfl|exact .inr rfl|assumption):wpAny M A (storeName X.env x u) Q E s:=by
 obtain ⟨m,hn,hl⟩:=id I.loc;have Yp:(X.env.scope.kind== .class || (X.env.scope.kind== .module&&X.env.locals != X.env.globals))=false:=by rw [I.ok.kind];rfl
 have Sh:i<σ.length:=by rw [I.len];exact (aaf.mp hi).1
 have Mc:=I.Mc;have tracked:∀{a:Addr} {h':Heap},(∃o,s.heap.get? a=some o/\H a=none)->Heap.SameBut a s.heap h'->kW X.prog X.w H h':=λ{a h'} ha hs b ob e=>by
  obtain ⟨_,_,Na⟩:=ha;refine (I.ba b ob e).Ck (λc w' hc q=>(hs.2 c ?_).trans q) (λ_ q=>q) λ_ _ q=>q;rintro rfl;rcases hc with rfl|hc
  ·rw [Na] at e;cases e
  ·rw [Na] at hc;cases hc
 rcases hx with hk|hk
 ·refine wpAny_storeName_local hk hn (λh' Rn hs=>?_) Yp;obtain ⟨oL,_,_,hoL,_⟩:=id hn;refine h _ ⟨I.ok,I.os,I.bare,⟨λb o e n hb hx=>?_,λb o e n hb hx=>?_,I.base.free,λb o e hx=>?_,I.base.pP,I.base.nH,I.base.pR⟩,⟨_,Rn,λj y v' e1 e2 e3=>?_⟩,λy c e=>?_,I.free,I.pD,λp hp=>?_,tracked ⟨oL,hoL,I.free⟩ hs,by simpa using I.len⟩ ⟨_,hs,.inl rfl⟩
  ·exact (hs.2 b (aaE (aap (Heap.lt_size e) I.ok.above))).trans (I.base.keep b o e n hb hx)
  ·obtain ⟨sl,e1⟩:=I.base.slot b o e n hb hx;exact ⟨sl,(hs.2 b (aaE (aap (Heap.lt_size e) I.ok.above))).trans e1⟩
  ·obtain ⟨o',e1⟩:=I.base.there b o e hx;exact ⟨o',(hs.2 b (aaE (aap (Heap.lt_size e) I.ok.above))).trans e1⟩
  ·by_cases hj:j=i
   ·subst hj;rw [hi] at e1;cases e1;rw [aa1 Sh] at e2;cases e2;exact ⟨u,r,.inl ⟨hk,by simp⟩⟩
   ·rw [abq (Ne.symm hj)] at e2;obtain ⟨u',r',q⟩:=hl j y v' e1 e2 e3;refine ⟨u',r',?_⟩;rcases q with ⟨k,e⟩|⟨k,c,e,z⟩
    ·refine .inl ⟨k,?_⟩;have:y≠x:=λe=>hj (zE hN e1 (e▸hi));simp [this,e]
    ·exact .inr ⟨k,c,e,z.sameBut hs (Mc y c e)⟩
  ·obtain ⟨w',z⟩:=I.cell y c e;exact ⟨w',z.sameBut hs (Mc y c e)⟩
  ·obtain ⟨e,n,ne,nf,d⟩:=I.pin p hp;exact ⟨(hs.2 p.1 ne).trans e,n,ne,nf,d⟩
 ·have VB:X.fn x=true:=by
   rcases hf with z|z
   ·exact z
   ·rw [z] at hk;cases hk
  obtain ⟨c,hc⟩:=I.ok.has x (.inl hk);obtain ⟨w',z⟩:=I.cell x c hc;refine wpAny_storeName_cell I.ok.kind hk hc z (λh' zb hs=>?_);obtain ⟨oc,Y5,WU⟩:=id z;refine h {s with heap:=h'} ⟨I.ok,I.os,I.bare,⟨λb o e n hb hx=>?_,λb o e n hb hx=>?_,I.base.free,λb o e hx=>?_,I.base.pP,I.base.nH,I.base.pR⟩,⟨m,hn.sameBut hs (Ne.symm (Mc x c hc)),λj y v' e1 e2 e3=>?_⟩,λy c' e=>?_,I.free,I.pD,λp hp=>?_,tracked ⟨oc,Y5,I.pD x c hc⟩ hs,by simpa using I.len⟩ ⟨c,hs,.inr hc⟩
  ·exact (hs.2 b (aaE (aap (Heap.lt_size e) (I.ok.Vn x c VB hc)))).trans (I.base.keep b o e n hb hx)
  ·obtain ⟨sl,e1⟩:=I.base.slot b o e n hb hx;exact ⟨sl,(hs.2 b (aaE (aap (Heap.lt_size e) (I.ok.Vn x c VB hc)))).trans e1⟩
  ·obtain ⟨o',e1⟩:=I.base.there b o e hx;exact ⟨o',(hs.2 b (aaE (aap (Heap.lt_size e) (I.ok.Vn x c VB hc)))).trans e1⟩
  ·by_cases hj:j=i
   ·subst hj;rw [hi] at e1;cases e1;rw [aa1 Sh] at e2;cases e2;exact ⟨u,r,.inr ⟨.inl hk,c,hc,zb⟩⟩
   ·rw [abq (Ne.symm hj)] at e2;obtain ⟨u',r',q⟩:=hl j y v' e1 e2 e3;refine ⟨u',r',?_⟩;rcases q with q|⟨k,c',e,z'⟩
    ·exact .inl q
    ·refine .inr ⟨k,c',e,z'.sameBut hs ?_⟩;rintro rfl;exact hj (zE hN e1 (I.ok.inj _ _ _ e hc▸hi))
  ·by_cases N0:c'=c
   ·subst N0;exact ⟨_,zb⟩
   ·obtain ⟨w2,z2⟩:=I.cell y c' e;exact ⟨w2,z2.sameBut hs N0⟩
  ·obtain ⟨e,n,ne,nf,d⟩:=I.pin p hp;refine ⟨(hs.2 p.1 ?_).trans e,n,ne,nf,d⟩;intro q;rw [q,Y5] at e;have q':oc=p.2:=aas e;exact d w' (by rw [<-q'];exact WU)
theorem gL{M:Model}{A:Around}{E:Value->Shared->Prop}{i:Nat}{x:Str}{v:V}{u:Value}{Q:Unit->Shared->Prop}(I:Inv X ζ σ H s)(hN:X.N.Nodup)(hi:X.N[i]? =some x)(hx:Loc X.env.scope x)(r:aB v u)
  (h:∀s',Inv X ζ (σ.set i (some v)) H s'->Q () s') (hf:X.fn x=true\/X.env.scope.names.lookup x=some .local:=by first|exact .inl rfl|exact .inr rfl|assumption):wpAny M A (storeName X.env x u) Q E s:=
 uo I hN hi hx r (λs' I' _=>h s' I') hf
theorem Inv.To{s':Shared}{ch:List Addr}(I:Inv X ζ σ H s)(ho:s'.os=s.os)(u:Un (pQ X.stack) ch H H' s.heap s'.heap)(ba:kW X.prog X.w H' s'.heap)(hg:AllBare s'.gens)
  (Au:∀b∈ch,(b∈X.ex\/X.s₀.heap.objs.size<=b)/\b≠X.env.locals/\(∀x c,X.env.cells.lookup x=some c->c≠b)/\∀p∈X.pn++ζ,p.1≠b):Inv X ζ σ H' s':=by
 obtain ⟨h',g',d',t',o'⟩:=s';have e:o'=s.os:=ho;subst e;exact I.call (g':=g') (t':=t') (d':=d') u ba hg Au
end
abbrev XK:=Value->Option Addr->Hp->Prop
abbrev St:=List (Option V)
abbrev VK:=V->Hp->Prop
abbrev TE:=St->Hp->VK->Prop
abbrev TT:=St->Hp->(Bool->Hp->Prop)->Prop
abbrev TA:=St->Hp->(List V->Hp->Prop)->Prop
structure xQ where
 nx:St->Hp->Prop
 rt:VK
 bk:St->Hp->Prop:=λ_ _=>False
 ct:St->Hp->Prop:=λ_ _=>False
abbrev TS:=xQ->St->Hp->Prop
def EP(X:Cx)(ζ:List (Addr×Obj))(σ:St)(Q:VK)(u:Value)(s':Shared):Prop:=∃v H',Inv X ζ σ H' s'/\aB v u/\Q v H'
def TP(X:Cx)(ζ:List (Addr×Obj))(σ:St)(Q:Bool->Hp->Prop)(b:Bool)(s':Shared):Prop:=∃H',Inv X ζ σ H' s'/\Q b H'
def AP(X:Cx)(ζ:List (Addr×Obj))(σ:St)(Q:List V->Hp->Prop)(us:List Value)(s':Shared):Prop:=∃vs H',Inv X ζ σ H' s'/\ay vs us/\Q vs H'
def SP(X:Cx)(ζ:List (Addr×Obj))(D:xQ)(f:Flow)(s':Shared):Prop:=
 match f with
 |.next=>∃σ' H',Inv X ζ σ' H' s'/\D.nx σ' H'
 |.brk=>∃σ' H',Inv X ζ σ' H' s'/\D.bk σ' H'
 |.cont=>∃σ' H',Inv X ζ σ' H' s'/\D.ct σ' H'
 |.ret u=>∃v σ' H',Inv X ζ σ' H' s'/\aB v u/\D.rt v H'
def PE(X:Cx)(e:Expr)(t:TE):Prop:=
 ∀(ζ:List (Addr×Obj)) (s:Shared) (σ:St) (H:Hp) (Q:VK),Inv X ζ σ H s->t σ H Q->wpAny (model X.prog X.w) X.A (eval e X.env) (EP X ζ σ Q) X.xe s
def PT(X:Cx)(e:Expr)(t:TT):Prop:=
 ∀(ζ:List (Addr×Obj)) (s:Shared) (σ:St) (H:Hp) (Q:Bool->Hp->Prop),Inv X ζ σ H s->t σ H Q->wpAny (model X.prog X.w) X.A (isTrue e X.env (eval e X.env)) (TP X ζ σ Q) X.xe s
def PW(X:Cx)(e:Expr)(t:TT):Prop:=
 ∀(whole:Sem Value) (ζ:List (Addr×Obj)) (s:Shared) (σ:St) (H:Hp) (Q:Bool->Hp->Prop),Inv X ζ σ H s->t σ H Q->wpAny (model X.prog X.w) X.A (isTrue e X.env whole) (TP X ζ σ Q) X.xe s
def PA(X:Cx)(es:List Expr)(t:TA):Prop:=
 ∀(pos:Pos) (ζ:List (Addr×Obj)) (s:Shared) (σ:St) (H:Hp) (Q:List V->Hp->Prop),Inv X ζ σ H s->t σ H Q->wpAny (model X.prog X.w) X.A (spliced (backTo pos (starEach es X.env))) (AP X ζ σ Q) X.xe s
def PS(X:Cx)(st:Stmt)(t:TS):Prop:=
 ∀(ζ:List (Addr×Obj)) (s:Shared) (σ:St) (H:Hp) (D:xQ),Inv X ζ σ H s->t D σ H->wpAny (model X.prog X.w) X.A (exec st X.env) (SP X ζ D) X.xe s
def Gx(X:Cx)(st:List Stmt)(t:TS):Prop:=
 ∀(ζ:List (Addr×Obj)) (s:Shared) (σ:St) (H:Hp) (D:xQ),Inv X ζ σ H s->t D σ H->wpAny (model X.prog X.w) X.A (execs st X.env) (SP X ζ D) X.xe s
theorem bC{α:Type}{t:Sem α}{Q Q':α->Shared->Prop}{M:Model}{A:Around}{E:Value->Shared->Prop}{s:Shared}(h:wpAny M A t Q E s)(hQ:∀a s,Q a s->Q' a s):wpAny M A t Q' E s:=wpAny_mono h hQ λ_ _ x=>x
section
variable{X:Cx}
def Xo(i:Nat):TE:=λσ H Q=>∃v,σ[i]? =some (some v)/\Q v H
def tC(v:V):TE:=λ_ H Q=>Q v H
theorem Qk{i:Nat}{x:Str}{pos:Pos}(hN:X.N[i]? =some x)(hv:W5 X.env.scope x)(hd:(x==("__debug__":Str))=false:=by decide)(C2:(x==("__classdict__":Str))=false:=by decide):PE X (.Name x pos) (Xo i):=by
 intro ζ s σ H Q I h;obtain ⟨v,e,h⟩:=h;obtain ⟨m,hn,hl⟩:=I.loc;obtain ⟨u,r,l⟩:=hl i x v hN e hv;have fin:EP X ζ σ Q u s:=⟨v,H,I,r,h⟩;rcases l with ⟨hk,hm⟩|⟨hk,c,hc,uR⟩
 ·exact wpAny_Name (wpAny_loadName_local I.ok.kind hk hn hm fin) hd
 ·rcases hk with hk|hk
  ·exact wpAny_Name (wpAny_loadName_cell I.ok.kind hk hc uR fin) hd
  ·exact wpAny_Name (wpAny_loadName_free I.ok.kind hk hc uR fin C2) hd
theorem O_{i j pos}:PE X (.Constant (.int i) j pos) (tC (.int i)):=λ_ _ _ H _ I h=>wpAny_Constant_int ⟨.int i,H,I.tok _,⟨_,rfl⟩,h⟩
theorem Tq{b j pos}:PE X (.Constant (.bool b) j pos) (tC (.bl b)):=λ_ _ _ H _ I h=>Constant_bool ⟨.bl b,H,I,rfl,h⟩
theorem Qa{j pos}:PE X (.Constant .none j pos) (tC .bq):=λ_ _ _ H _ I h=>Constant_none ⟨.bq,H,I,rfl,h⟩
theorem I0{x j pos}:PE X (.Constant (.str x) j pos) (tC (.str x)):=λ_ _ _ H _ I h=>Calls.Constant_str ⟨.str x,H,I.tok _,⟨_,rfl⟩,h⟩
def Gl(X:Cx)(x:Str):Prop:=X.env.kindOf x=some .globalImplicit
theorem qi{E:Value->Shared->Prop}{ζ:List (Addr×Obj)}{s:Shared}{σ:St}{H:Hp}{x:Str}{u:Value}{pos:Pos}{Q:Value->Shared->Prop}(I:Inv X ζ σ H s)(hg:Gl X x)(hm:X.mg x=some u)(h:Q u s)
  (hd:(x==("__debug__":Str))=false:=by decide):wpAny (model X.prog X.w) X.A (eval (.Name x pos) X.env) Q E s:=
 Calls.Name_function_global I.ok.kind hg (Calls.loadGlobal_global (by rw [I.ok.glob];exact I.mod.glob.keeps I.bk) hm h) hd
theorem mq{E:Value->Shared->Prop}{ζ:List (Addr×Obj)}{s:Shared}{σ:St}{H:Hp}{x:Str}{u:Value}{pos:Pos}{Q:Value->Shared->Prop}(I:Inv X ζ σ H s)(hg:Gl X x)(hm:X.mg x=none)(hv:bootBuiltins x=some u)(h:Q u s)
  (hn:x≠"__name__":=by decide) (hd:(x==("__debug__":Str))=false:=by decide):wpAny (model X.prog X.w) X.A (eval (.Name x pos) X.env) Q E s:=by
 obtain ⟨mb,h1,h2⟩:=I.mod.blt;exact Calls.Name_function_global I.ok.kind hg (Calls.loadGlobal_builtin (by rw [I.ok.glob];exact I.mod.glob.keeps I.bk) hm (by rw [I.ok.blt];exact h1.keeps I.bk) ((h2 x hn).trans hv) h) hd
theorem CV{x:Str}{v:V}{u:Value}{pos:Pos}(hg:Gl X x)(hm:X.mg x=some u)(r:aB v u)(hd:(x==("__debug__":Str))=false:=by decide):PE X (.Name x pos) (tC v):=
 λ_ _ _ H _ I h=>qi I hg hm ⟨v,H,I,r,h⟩ hd
theorem MF{x:Str}{v:V}{u:Value}{pos:Pos}(hg:Gl X x)(hm:X.mg x=none)(hv:bootBuiltins x=some u)(r:aB v u)(hn:x≠"__name__":=by decide)(hd:(x==("__debug__":Str))=false:=by decide):PE X (.Name x pos) (tC v):=
 λ_ _ _ H _ I h=>mq I hg hm hv ⟨v,H,I,r,h⟩ hn hd
variable{a b:Expr}{ta tb:TE}{pos:Pos}
def tB(t:TE):TT:=λσ H Q=>t σ H λx H1=>∃c,x= .bl c/\Q c H1
theorem P8{e:Expr}{t:TE}(h:PE X e t)(he:∀whole,isTrue e X.env whole=(do let v<-whole;standAt e.pos;holding [v] (truthy v)):=by intro _;rfl):PT X e (tB t):=by intro ζ s σ H Q I hw;refine isTrue_plain (bC (h ζ s σ H _ I hw) λv s1 ⟨x,H1,I1,r1,q1⟩=>?_) (he _);obtain ⟨d,rfl,q⟩:=q1;cases r1;exact wpAny_truthy_bool ⟨H1,I1,q⟩
variable{tA Wj:TT}{rest:List Expr}
def tOr(t u:TT):TT:=λσ H Q=>t σ H λc H1=>if c=true then Q true H1 else u σ H1 Q
def Vw(t:TT):TT:=λσ H Q=>t σ H λc H1=>Q (!c) H1
theorem pw_or1(ha:PT X a tA):PW X (.BoolOp .Or [a] pos) tA:=by
 intro wh ζ s σ H Q I h;refine isTrue_or (bC (ha ζ s σ H Q I h) λc s1 e=>?_);cases c with
 |false=>exact isTrue_or_nil e
 |true=>exact e
theorem pw_or(ha:PT X a tA)(hb:PW X (.BoolOp .Or (b::rest) pos) Wj):PW X (.BoolOp .Or (a::b::rest) pos) (tOr tA Wj):=by
 intro wh ζ s σ H Q I h;refine isTrue_or (bC (ha ζ s σ H _ I h) λc s1 ⟨H1,I1,q1⟩=>?_);cases c with
 |true=>exact ⟨H1,I1,q1⟩
 |false=>exact hb wh ζ s1 σ H1 Q I1 q1
theorem Ot(ha:PT X a tA):PT X (.UnaryOp .Not a pos) (Vw tA):=by intro ζ s σ H Q I h;exact isTrue_not (ha ζ s σ H (λc H1=>Q (!c) H1) I h)
def T6(ta tb:TE):TE:=λσ H Q=>ta σ H λx H1=>∃c,x= .bl c/\if c=true then tb σ H1 Q else Q (.bl false) H1
def S'(ta:TE):TE:=λσ H Q=>ta σ H λx H1=>∃c,x= .bl c/\Q (.bl (!c)) H1
theorem O0{op}{t:TE}(h:PE X a t):PE X (.BoolOp op [a] pos) t:=λζ s σ H Q I hw=>BoolOp_one (h ζ s σ H Q I hw)
theorem N3(ha:PE X a ta)(hb:PE X (.BoolOp .And (b::rest) pos) tb):PE X (.BoolOp .And (a::b::rest) pos) (T6 ta tb):=by
 intro ζ s σ H Q I h;refine BoolOp_and (bC (ha ζ s σ H _ I h) λv s1 ⟨x,H1,I1,r1,q1⟩=>?_);obtain ⟨c,rfl,q1⟩:=q1;cases r1;refine wpAny_truthy_bool ?_;cases c with
 |true=>exact hb ζ s1 σ H1 Q I1 q1
 |false=>exact ⟨.bl false,H1,I1,rfl,q1⟩
theorem Oq(ha:PE X a ta):PE X (.UnaryOp .Not a pos) (S' ta):=by intro ζ s σ H Q I h;refine UnaryOp_ (bC (ha ζ s σ H _ I h) λv s1 ⟨x,H1,I1,r1,q1⟩=>?_);obtain ⟨c,rfl,q1⟩:=q1;cases r1;exact not_of (wpAny_truthy_bool ⟨.bl (!c),H1,I1,rfl,q1⟩)
def tIf(t:TT)(ta tb:TE):TE:=λσ H Q=>t σ H λc H1=>if c=true then ta σ H1 Q else tb σ H1 Q
theorem Iz{c:Expr}(hc:PT X c tA)(ha:PE X a ta)(hb:PE X b tb):PE X (.IfExp c a b pos) (tIf tA ta tb):=by
 intro ζ s σ H Q I h;refine wpAny_IfExp (bC (hc ζ s σ H _ I h) λd s1 ⟨H1,I1,q1⟩=>?_);cases d with
 |true=>exact ha ζ s1 σ H1 Q I1 q1
 |false=>exact hb ζ s1 σ H1 Q I1 q1
end
def gy(K:PySem.W.Frag)(H:Hp)(a:Addr)(xs:List V):Prop:=
 Rd H a (.lst xs)\/
  ∃(o:Obj) (its:Array Value) (n:Nat),K.lookup a=some o/\o.cls= .type "list"/\o.dict=none/\o.data= .seq its n/\its.size<=sizeLine/\ay xs its.toList
def nv(K:PySem.W.Frag)(H:Hp)(a:Addr)(xs:List V):Prop:=
 Rd H a (.tup xs)\/
  ∃(o:Obj) (its:Array Value) (n:Nat),K.lookup a=some o/\o.cls= .type "tuple"/\o.data= .seq its n/\its.size<=sizeLine/\ay xs its.toList
def X_:Value->Option V
 |.none=>some .bq
 |.bool b=>some (.bl b)
 |.int i _=>some (.int i)
 |.str x _=>some (.str x)
 |.bytes b _=>some (.Gu b)
 |.float b _=>some (.P5 b)
 |.ref a=>some (.ref a)
 |.type n=>some (.ty n)
 |_=>none
theorem aB.abs{x:V}{u:Value}(r:aB x u):X_ u=some x:=by
 cases x with
 |bq=>cases r;rfl
 |bl _=>cases r;rfl
 |int _=>obtain ⟨t,rfl⟩:=r;rfl
 |str _=>obtain ⟨t,rfl⟩:=r;rfl
 |Gu _=>obtain ⟨t,rfl⟩:=r;rfl
 |P5 _=>obtain ⟨t,rfl⟩:=r;rfl
 |ref _=>cases r;rfl
 |ty _=>cases r;rfl
theorem aB.inj{x y:V}{u:Value}(r:aB x u)(q:aB y u):x=y:=aas (r.abs.symm.trans q.abs)
theorem ay.inj:∀{xs ys:List V}{us:List Value},ay xs us->ay ys us->xs=ys
 |_,_,_,.nil,.nil=>rfl
 |_,_,_,.cons r t,.cons r' t'=>by rw [r.inj r',ay.inj t t']
section
variable{X:Cx}{ζ:List (Addr×Obj)}{σ:St}{H:Hp}{s:Shared}{a:Addr}{xs ys:List V}
theorem gy.of{K:PySem.W.Frag}(h:H a=some (.lst xs)):gy K H a xs:= .inl (.inl h)
theorem nv.of{K:PySem.W.Frag}(h:H a=some (.tup xs)):nv K H a xs:= .inl (.inl h)
theorem Inv.list(I:Inv X ζ σ H s)(h:gy X.K H a xs):∃its:List Value,ay xs its/\PlainL s.heap a its.toArray/\xs.length<=sizeLine:=by
 rcases h with h|⟨o,its,n,hk,hc,hd,hs,hz,r⟩
 ·obtain ⟨z,its,n,r,e⟩:=h.ok I.ba;exact ⟨its,r,⟨_,n,e,rfl,rfl,rfl⟩,z⟩
 ·refine ⟨its.toList,r,⟨o,n,I.pK a o hk,hc,hd,by simpa using hs⟩,?_⟩;have e:=r.length;simp only [Array.length_toList] at e;omega
theorem Inv.tuple(I:Inv X ζ σ H s)(h:nv X.K H a xs):∃its:List Value,ay xs its/\IsTup s.heap a its.toArray/\xs.length<=sizeLine:=by
 rcases h with h|⟨o,its,n,hk,hc,hs,hz,r⟩
 ·obtain ⟨z,its,r,p⟩:=h.ok I.ba;exact ⟨its,r,p,z⟩
 ·refine ⟨its.toList,r,⟨o,I.pK a o hk,hc,n,by simpa using hs⟩,?_⟩;have e:=r.length;simp only [Array.length_toList] at e;omega
theorem Inv.gS(I:Inv X ζ σ H s)(h:gy X.K H a xs)(h':gy X.K H a ys):xs=ys:=by
 obtain ⟨its,r,⟨o,n,e,_,_,d⟩,_⟩:=I.list h;obtain ⟨its',r',⟨o',n',e',_,_,d'⟩,_⟩:=I.list h';rw [e] at e';cases e';rw [d] at d';injection d' with d1 _
 have:its=its':=by simpa using congrArg Array.toList d1
 subst this;exact r.inj r'
theorem Inv.uB(I:Inv X ζ σ H s)(h:nv X.K H a xs)(h':nv X.K H a ys):xs=ys:=by
 obtain ⟨its,r,⟨o,e,_,n,d⟩,_⟩:=I.tuple h;obtain ⟨its',r',⟨o',e',_,n',d'⟩,_⟩:=I.tuple h';rw [e] at e';cases e';rw [d] at d';injection d' with d1 _
 have:its=its':=by simpa using congrArg Array.toList d1
 subst this;exact r.inj r'
end
section
variable{X:Cx}{st:Stmt}{rest:List Stmt}{t u:TS}{e:Expr}{te:TE}{pos:Pos}
def QW:TS:=λD σ H=>D.nx σ H
def Yx(t u:TS):TS:=λD σ H=>t {D with nx:=u D} σ H
theorem LV:Gx X [] QW:=λ_ _ σ H _ I h=>wpAny_execs_nil ⟨σ,H,I,h⟩
theorem Ji(h1:PS X st t)(h2:Gx X rest u):Gx X (st::rest) (Yx t u):=by
 intro ζ s σ H D I h;refine wpAny_execs_cons (bC (h1 ζ s σ H {D with nx:=u D} I h) λf s1 q=>?_);cases f with
 |next=>
  obtain ⟨σ',H',I',q⟩:=q;exact h2 ζ s1 σ' H' D I' q
 |ret v=>exact q
 |brk=>exact q
 |cont=>exact q
theorem LG(h1:PS X st t):Gx X [st] t:=by
 intro ζ s σ H D I h;refine wpAny_execs_cons (bC (h1 ζ s σ H D I h) λf s1 q=>?_);cases f with
 |next=>exact wpAny_execs_nil q
 |ret v=>exact q
 |brk=>exact q
 |cont=>exact q
def Rr:TS:=λD σ H=>D.ct σ H
theorem yG:PS X (.Continue pos) Rr:=λ_ _ σ H _ I h=>wpAny_Continue ⟨σ,H,I,h⟩
theorem Inv.quiet{ζ:List (Addr×Obj)}{σ:St}{H:Hp}{s:Shared}(I:Inv X ζ σ H s):interactive X.env=false:=by simp [interactive,I.ok.kind]
def SV(te:TE):TS:=λD σ H=>te σ H λ_ H1=>D.nx σ H1
theorem KC(he:PE X e te)(hs:swapsWith e none pos.line X.env=pure false:=by rfl):PS X (.Expr e pos) (SV te):=by intro ζ s σ H D I h;exact wpAny_Expr_any (bC (he ζ s σ H _ I h) λv s1 ⟨x,H1,I1,r1,q1⟩=>⟨σ,H1,I1,q1⟩) I.quiet hs
def VC(te:TE):TS:=λD σ H=>te σ H D.rt
theorem Ox(he:PE X e te):PS X (.Return (some e) pos) (VC te):=by intro ζ s σ H D I h;exact wpAny_Return_some (bC (he ζ s σ H _ I h) λv s1 ⟨x,H1,I1,r1,q1⟩=>⟨x,σ,H1,I1,r1,q1⟩)
def Wk(c:TT)(t u:TS):TS:=λD σ H=>c σ H λb H1=>if b=true then t D σ H1 else u D σ H1
theorem SX{c:Expr}{a b:List Stmt}{tc:TT}(hc:PT X c tc)(ha:Gx X a t)(hb:Gx X b u):PS X (.If c a b pos) (Wk tc t u):=by
 intro ζ s σ H D I h;refine wpAny_If (bC (hc ζ s σ H _ I h) λd s1 ⟨H1,I1,q1⟩=>?_);cases d with
 |true=>exact ha ζ s1 σ H1 D I1 q1
 |false=>exact hb ζ s1 σ H1 D I1 q1
end
abbrev TG:=V->St->Hp->(St->Hp->Prop)->Prop
abbrev PY:=List V->St->Hp->(St->Hp->Prop)->Prop
def PG(X:Cx)(target:Expr)(t:TG):Prop:=
 ∀(ζ:List (Addr×Obj)) (s:Shared) (σ:St) (H:Hp) (v:V) (u:Value) (Q:St->Hp->Prop),Inv X ζ σ H s->aB v u->t v σ H Q->
  wpAny (model X.prog X.w) X.A (assign target X.env u) (λ_ s'=>∃σ' H',Inv X ζ σ' H' s'/\Q σ' H') X.xe s
def UB(X:Cx)(ts:List Expr)(t:PY):Prop:=
 ∀(ζ:List (Addr×Obj)) (s:Shared) (σ:St) (H:Hp) (vs:List V) (us:List Value) (Q:St->Hp->Prop),Inv X ζ σ H s->ay vs us->t vs σ H Q->
  wpAny (model X.prog X.w) X.A (assignInOrder ((assignEach ts X.env).map (·.2)) us) (λ_ s'=>∃σ' H',Inv X ζ σ' H' s'/\Q σ' H') X.xe s
abbrev Qj:=V->V->V->Hp->(Hp->Prop)->Prop
def Rz(X:Cx)(t:Qj):Prop:=
 ∀(ζ:List (Addr×Obj)) (s:Shared) (σ:St) (H:Hp) (o i v:V) (ov iv u:Value) (Q:Hp->Prop),Inv X ζ σ H s->aB o ov->aB i iv->aB v u->t o i v H Q->
  wpAny (model X.prog X.w) X.A (setItem ov iv u) (λ_ s'=>∃H',Inv X ζ σ H' s'/\Q H') X.xe s
section
variable{X:Cx}{pos:Pos}
def iH(i:Nat):TG:=λv σ H Q=>Q (σ.set i (some v)) H
theorem ax{i:Nat}{x:Str}(hN:X.N.Nodup)(hi:X.N[i]? =some x)(hx:Loc X.env.scope x)(hf:X.fn x=true\/X.env.scope.names.lookup x=some .local:=by first|exact .inl rfl|exact .inr rfl|assumption):PG X (.Name x pos) (iH i):=by intro ζ s σ H v u Q I r h;exact wpAny_assign_Name (gL I hN hi hx r (λs' I'=>⟨_,H,I',h⟩) hf)
def HC:PY:=λvs σ H Q=>vs=[]/\Q σ H
def mT(t:TG)(u:PY):PY:=λvs σ H Q=>∃v r,vs=v::r/\t v σ H λσ' H'=>u r σ' H' Q
theorem kK:UB X [] HC:=by intro ζ s σ H vs us Q I r h;obtain ⟨e,h⟩:=h;subst e;cases r;exact assignInOrder_nil ⟨σ,H,I,h⟩
theorem cz{e:Expr}{es:List Expr}{t:TG}{u:PY}(h1:PG X e t)(h2:UB X es u)
  (hs:(assignEach (e::es) X.env).map (·.2)=assign e X.env::(assignEach es X.env).map (·.2):=by rfl):UB X (e::es) (mT t u):=by
 intro ζ s σ H vs us Q I r h;obtain ⟨v,vr,e1,h⟩:=h;subst e1;cases r with
 |cons r rr=>
  rw [hs];refine assignInOrder_cons (bC (h1 ζ s σ H _ _ _ I r h) λ_ s1 ⟨σ1,H1,I1,q1⟩=>?_);exact h2 ζ s1 σ1 H1 _ _ Q I1 rr q1
def GP(K:PySem.W.Frag)(n:Nat)(t:PY):TG:=λv σ H Q=>∃a xs,v= .ref a/\nv K H a xs/\xs.length=n/\t xs σ H Q
theorem nP{es:List Expr}{k:Nat}{t:PY}{n:Nat}(hc:X.calm=true)(h:UB X es t)
  (hn:(assignEach es X.env).length=n:=by rfl) (O5:(assignEach es X.env).findIdx? (·.1)=none:=by rfl):PG X (.Tuple es k pos) (GP X.K n t):=by
 intro ζ s σ H v u Q I r hw;obtain ⟨a,xs,e1,hq,hl,hw⟩:=hw;subst e1;cases r;obtain ⟨its,rv,ht,hz⟩:=I.tuple hq;refine assign_Tuple_tuple (I.ok.hd hc) ht (by simp [hn,<-hl,rv.length]) O5 λh' hx=>?_;have I1:Inv X ζ σ H {s with heap:=h'}:=I.kept (t':=s.toks) λb o e=>hx b o (aaE (Heap.lt_size e)) e;exact h ζ _ σ H xs _ Q I1 (by simpa using rv) hw
def Vd(to ti:TE)(t:Qj):TG:=λv σ H Q=>to σ H λo H1=>ti σ H1 λi H2=>t o i v H2 λH3=>Q σ H3
theorem Pt{o i:Expr}{to ti:TE}{t:Qj}(ho:PE X o to)(hi:PE X i ti)(hs:Rz X t)
  (ha:∀v,assign (.Subscript o i pos) X.env v=(do
   let ov<-holding [v] (eval o X.env)
   let iv<-holding [v,ov] (eval i X.env)
   standAt pos
   holding [v,ov,iv] (setItem ov iv v)
   release [v,ov,iv] []):=by intro _;rfl):PG X (.Subscript o i pos) (Vd to ti t):=by
 intro ζ s σ H v u Q I r h;rw [ha];refine wpAny_bind (wpAny_holding (bC (ho ζ s σ H _ I h) λov s1 ⟨x,H1,I1,r1,q1⟩=>?_));refine wpAny_bind (wpAny_holding (bC (hi ζ s1 σ H1 _ I1 q1) λiv s2 ⟨y,H2,I2,r2,q2⟩=>?_));refine wpAny_bind (wpAny_standAt (wpAny_bind (wpAny_holding (bC (hs ζ s2 σ H2 x y v ov iv u _ I2 r1 r2 r q2) λ_ s3 ⟨H3,I3,q3⟩=>?_))));exact wpAny_release ⟨σ,H3,I3,q3⟩
def T7(te:TE)(g:TG):TS:=λD σ H=>te σ H λx H1=>g x σ H1 D.nx
theorem JY{tg e:Expr}{te:TE}{g:TG}(he:PE X e te)(hg:PG X tg g)(hs:swapsWithSole [tg] e pos.line X.env=pure false:=by rfl)(hw:swappedStores [tg] e X.env=pure none:=by rfl)
  (h1:(assignEach [tg] X.env).map (·.2)=[assign tg X.env]:=by rfl):PS X (.Assign [tg] e pos) (T7 te g):=by
 intro ζ s σ H D I h;refine wpAny_Assign_stores (bC (he ζ s σ H _ I h) λv s1 ⟨x,H1,I1,r1,q1⟩=>?_) hs hw;rw [h1];exact bC (hg ζ s1 σ H1 x v _ I1 r1 q1) λ_ s2 q=>q
theorem Ol{i:Nat}{x:Str}{e:Expr}{te:TE}{pos':Pos}(hN:X.N.Nodup)(hi:X.N[i]? =some x)(hx:Loc X.env.scope x)(he:PE X e te)(hs:swapsWith e (some (.Name x pos')) pos.line X.env=pure false:=by rfl)(hf:X.fn x=true\/X.env.scope.names.lookup x=some .local:=by first|exact .inl rfl|exact .inr rfl|assumption):
  PS X (.Assign [.Name x pos'] e pos) (T7 te (iH i)):=by
 intro ζ s σ H D I h;refine wpAny_Assign_Name (bC (he ζ s σ H _ I h) λv s1 ⟨y,H1,I1,r1,q1⟩=>?_) hs;exact gL I1 hN hi hx r1 (λs2 I2=>⟨_,H1,I2,q1⟩) hf
def W7(i j:Nat)(ta:TA):TS:=λD σ H=>ta σ H λvs H1=>∃v w,vs=[v,w]/\D.nx ((σ.set i (some v)).set j (some w)) H1
theorem PK{i j:Nat}{x y:Str}{a b:Expr}{ta:TA}{px py pt:Pos}{kt k2 B6}(hc:X.calm=true)(hN:X.N.Nodup)(hi:X.N[i]? =some x)(hj:X.N[j]? =some y)(Mn:i≠j)
  (hx:X.env.scope.names.lookup x=some .local) (hy:X.env.scope.names.lookup y=some .local) (ha:PA X [a,b] ta)
  (hw:swappedStores [.Tuple [.Name x px, .Name y py] kt pt] (.Tuple [a,b] k2 B6) X.env=pure (some [x,y]))
  (hs:swapsWithSole [.Tuple [.Name x px, .Name y py] kt pt] (.Tuple [a,b] k2 B6) pos.line X.env=pure false:=by rfl):
  PS X (.Assign [.Tuple [.Name x px, .Name y py] kt pt] (.Tuple [a,b] k2 B6) pos) (W7 i j ta):=by
 intro ζ s σ H D I h;rw [exec_Assign_arm];refine wpAny_bind (wpAny_standAt ?_);rw [hs];refine wpAny_bind (wpAny_pure ?_);rw [if_neg (by decide)];refine wpAny_bind (Tuple_ (bC (ha _ ζ s σ H _ I h) λus s1 ⟨vs,H1,I1,r1,q1⟩=>?_));obtain ⟨v,w,e1,q1⟩:=q1;subst e1;obtain ⟨u1,u2,rfl,rv,Bj⟩:∃u1 u2,us=[u1,u2]/\aB v u1/\aB w u2:=by
  cases r1 with
  |cons p q=>
   cases q with
   |cons p' q'=>
    cases q';exact ⟨_,_,rfl,p,p'⟩
 refine wpAny_newObj_type ?_ (by show 2<=sizeLine;decide);have I2:Inv X ζ σ H1 {s1 with heap:=s1.heap.push {cls:= .type "tuple",data:= .seq [u1,u2].toArray}}:=I1.kept (t':=s1.toks) λb o e=>Heap.get?_push_of_some _ e;rw [hw];refine wpAny_bind (wpAny_pure ?_);show wpAny (model X.prog X.w) X.A (do rule "assign.swapped-stores";let items<-unpackItems (.ref s1.heap.objs.size) 2 none;assignInOrder [λv=>bindName X.env y v,λv=>bindName X.env x v] items.reverse;pure Flow.next) _ _ _;refine wpAny_bind (wpAny_rule (wpAny_bind (unpackItems_tuple (items:= #[u1,u2]) (I.ok.hd hc) (IsTup.new s1.heap _) λh' OS=>?_)));have I3:=I2.kept (h':=h') (t':=s1.toks) λb o e=>OS b o (aaE (Heap.lt_size e)) e;show wpAny _ _ (assignInOrder [λv=>bindName X.env y v,λv=>bindName X.env x v] [u2,u1] >>= λ_=>pure Flow.next) _ _ _;refine wpAny_bind (assignInOrder_cons (wpAny_bindName (gL I3 hN hj (.inl hy) Bj (λs2 I4=>?_) (.inr hy))));refine assignInOrder_cons (wpAny_bindName (gL I4 hN hi (.inl hx) rv (λs3 I5=>assignInOrder_nil (wpAny_pure ?_)) (.inr hx)));rw [List.set_comm _ _ (Ne.symm Mn)] at I5;exact ⟨_,H1,I5,q1⟩
end
section
variable{X:Cx}{pos:Pos}
def OG(c:TT)(tb:TS):TS:=λD σ H=>∃W:Nat->St->Hp->Prop,(∃m,W m σ H)/\∀m σ H,W m σ H->
 c σ H λb H1=>if b=true then∃N:St->Hp->Prop,(∀σ' H',N σ' H'->∃m',m'<m/\W m' σ' H')/\tb {D with nx:=N,ct:=N,bk:=D.nx} σ H1 else D.nx σ H1
theorem GN{c:Expr}{body:List Stmt}{tc:TT}{tb:TS}(hp:PassesOwn (model X.prog X.w) X.A X.env X.xe)(hc:PT X c tc)(hb:Gx X body tb):PS X (.While c body [] pos) (OG tc tb):=by
 intro ζ s σ H D I h;obtain ⟨W,⟨m0,w0⟩,turn⟩:=h;refine wpAny_While (codeAny_whileLoop (λn s'=>∃σ' H',Inv X ζ σ' H' s'/\W n σ' H') ?_ m0 ⟨σ,H,I,w0⟩);rintro n s1 ⟨σ1,H1,I1,w1⟩;refine wpAny_passesOwn hp (bC (hc ζ s1 σ1 H1 _ I1 (turn n σ1 H1 w1)) λb s2 ⟨H2,I2,q2⟩=>?_);cases b with
 |true=>
  obtain ⟨N,hN,q2⟩:=q2;rw [if_pos rfl];refine wpAny_passesOwn hp (bC (hb ζ s2 σ1 H2 _ I2 q2) λf s3 q3=>?_);cases f with
  |next=>
   obtain ⟨σ3,H3,I3,n3⟩:=q3;obtain ⟨m',hm,w3⟩:=hN σ3 H3 n3;exact ⟨m',hm,σ3,H3,I3,w3⟩
  |cont=>
   obtain ⟨σ3,H3,I3,n3⟩:=q3;obtain ⟨m',hm,w3⟩:=hN σ3 H3 n3;exact ⟨m',hm,σ3,H3,I3,w3⟩
  |brk=>exact q3
  |ret v=>exact q3
 |false=>
  rw [if_neg aat];exact wpAny_execs_nil ⟨σ1,H2,I2,q2⟩
end
structure It where
 go:Nat->Hp->Prop
 T1:Nat->Hp->V->Hp->Prop
 stop:Nat->Hp->Prop
def rQ(X:Cx)(ζ:List (Addr×Obj))(H:Hp)(b:Addr):Prop:=
 H b=none/\b≠X.env.locals/\b∉X.fs/\(b∈X.ex\/X.s₀.heap.objs.size<=b)/\(∀x c,X.env.cells.lookup x=some c->c≠b)/\∀p∈X.pn++ζ,p.1≠b
theorem Inv.BB{X:Cx}{ζ:List (Addr×Obj)}{σ:St}{H H':Hp}{s:Shared}{b:Addr}(I:Inv X ζ σ H s)(hb:s.heap.objs.size<=b)(hn:H' b=none):rQ X ζ H' b:=by
 refine ⟨hn,acb (aap I.lt hb),I.Ym hb,.inr (aaq I.sz hb),λx c e z=>?_,λp hp z=>?_⟩
 ·obtain ⟨v,q⟩:=I.cell x c e;exact absurd (aap q.lt (by rw [z];exact hb)) (abi _)
 ·exact absurd (aap (Heap.lt_size (I.pin p hp).1) (by rw [z];exact hb)) (abi _)
structure Turn(P:Program)(w:World)(K:PySem.W.Frag)(tg:Expr)(J:It)(fp:List Addr)(it:Addr)(tn:Nat->Heap->Prop):Prop where
 mem:it∈fp
 obj:∀i h,tn i h->∀b∈fp,∃o,h.get? b=some o/\∀v,o.data≠ .cell v
 keep:∀i h h',tn i h->(∀b∈fp,∀o,h.get? b=some o->h'.get? b=some o)->tn i h'
 item:∀(X:Cx),X.prog=P->X.w=w->X.K=K->X.calm=true->∀(i:Nat) (ζ:List (Addr×Obj)) (s:Shared) (σ:St) (H:Hp) (E:Value->Shared->Prop),Inv X ζ σ H s->(∀b∈fp,rQ X ζ H b)->tn i s.heap->J.go i H->
  wpAny (model P w) X.A (pyNext (.ref it)) (λr s1=>∃u,r=some u/\
   wpAny (model P w) X.A (letOwnedTupleGo tg (.ref it) u) (λ_ s2=>∃x H',Inv X ζ σ H' s2/\aB x u/\J.T1 i H x H'/\tn (i+1) s2.heap/\∀b∈fp,H' b=none) E s1) E s
 done:∀(X:Cx),X.prog=P->X.w=w->X.K=K->X.calm=true->∀(i:Nat) (ζ:List (Addr×Obj)) (s:Shared) (σ:St) (H:Hp) (E:Value->Shared->Prop),Inv X ζ σ H s->(∀b∈fp,rQ X ζ H b)->tn i s.heap->J.stop i H->
  wpAny (model P w) X.A (pyNext (.ref it)) (λr s1=>r=none/\Inv X ζ σ H s1) E s
 self:∀(A:Around) (i:Nat) (s:Shared) (Q:Value->Shared->Prop) (E:Value->Shared->Prop),tn i s.heap->Q (.ref it) s->wpAny (model P w) A (pyIter (.ref it)) Q E s
abbrev TI:=St->Hp->(It->Hp->Prop)->Prop
def Kq(X:Cx)(ζ:List (Addr×Obj))(σ:St)(tg:Expr)(R:It->Hp->Prop)(UQ:Value)(s2:Shared):Prop:=
 ∃(it:Addr) (fp:List Addr) (tn:Nat->Heap->Prop) (J:It) (H':Hp),UQ= .ref it/\Inv X ζ σ H' s2/\Turn X.prog X.w X.K tg J fp it tn/\tn 0 s2.heap/\(∀b∈fp,rQ X ζ H' b)/\R J H'
def PI(X:Cx)(tg iter:Expr)(wi:TI):Prop:=
 ∀(ζ:List (Addr×Obj)) (s:Shared) (σ:St) (H:Hp) (R:It->Hp->Prop),Inv X ζ σ H s->wi σ H R->
  wpAny (model X.prog X.w) X.A (eval iter X.env) (λv s1=>wpAny (model X.prog X.w) X.A (pyIter v) (Kq X ζ σ tg R) X.xe s1) X.xe s
theorem vd {M : Model}{A : Around}{E : Value -> Shared -> Prop}{s : Shared}{tg : Expr}{it : Addr}{u : Value}{o : Obj}{n : String}{vs : Array Value}{Q : Unit -> Shared -> Prop}(ho : s.heap.get? it = some o) (hc : o.cls = .type n) (hd : o.data = .fields vs)
    (hn : ["enumerate", "zip", "dict_itemiterator", "dict_reverseitemiterator", "odict_iterator", "itertools.zip_longest", "itertools.pairwise"].contains n = false) (hQ : Q () s) : wpAny M A (letOwnedTupleGo tg (.ref it) u) Q E s := by
  unfold letOwnedTupleGo
  cases tg <;> first
    |exact wpAny_pure hQ
    | (cases u <;> first
        |exact wpAny_pure hQ
        | (refine wpAny_bind (wpAny_load ho ?_)
           rw [hc, hd];show wpAny M A (if (["enumerate", "zip", "dict_itemiterator", "dict_reverseitemiterator", "odict_iterator", "itertools.zip_longest", "itertools.pairwise"].contains n && vs[0]? == some (rawInt _)) = true then _ else _) Q E s;rw [if_neg (by intro h; rw [hn, Bool.false_and] at h; cases h)]
           exact wpAny_pure hQ))
def Uy(K:PySem.W.Frag)(a:Addr):It:=
 ⟨λi H=>∃xs x,gy K H a xs/\xs[i]? =some x,λi H x H'=>H'=H/\∀xs,gy K H a xs->xs[i]? =some x,λi H=>∃xs,gy K H a xs/\xs.length<=i⟩
def Ve(K:PySem.W.Frag)(a:Addr):It:=
 ⟨λi H=>∃xs x,nv K H a xs/\xs[i]? =some x,λi H x H'=>H'=H/\∀xs,nv K H a xs->xs[i]? =some x,λi H=>∃xs,nv K H a xs/\xs.length<=i⟩
def Rb(lo:Int)(n:Nat):It:=⟨λi _=>i<n,λi H x H'=>H'=H/\x= .int (lo+i),λi _=>n<=i⟩
theorem FA{P:Program}{w:World}{K:PySem.W.Frag}{tg:Expr}(a it:Addr):Turn P w K tg (Uy K a) [it] it (λi h=>h.IsListIter it a i) where
 mem:=by simp
 obj:=λi h st b hb=>by
  have e:b=it:=by simpa using hb
  subst e;obtain ⟨o,e,c,d⟩:=st;exact ⟨o,e,λv z=>by rw [d] at z;cases z⟩
 keep:=λi h h' st k=>st.at λo e=>k it (by simp) o e
 item:=by intro X hP hw hK hc i ζ s σ H E I hf st hg;subst hP hw hK;obtain ⟨xs,x,hq,hx⟩:=hg;obtain ⟨its,rv,p,hz⟩:=I.list hq;obtain ⟨u,hu,ru⟩:=rv.get hx;obtain ⟨f0,f1,f2,f3,f4,f5⟩:=hf it (by simp);refine wpAny_pyNext_list_item st p.isList (x:=u) (by simpa using hu) λh' wq sb=>?_;have I1:Inv X ζ σ H {s with heap:=h'}:=I.turned (t':=s.toks) (λb o hb e=>(sb.2 b hb).trans e) f0 f1 f3 f4 f5;obtain ⟨o,e,c,d⟩:=id wq;exact ⟨u,rfl,vd (s:={s with heap:=h'}) e c d (by decide) ⟨x,H,I1,ru,⟨rfl,λys hy=>by rw [I.gS hy hq];exact hx⟩,wq,λb hb=>(hf b hb).1⟩⟩
 done:=by intro X hP hw hK hc i ζ s σ H E I hf st hg;subst hP hw hK;obtain ⟨xs,hq,hx⟩:=hg;obtain ⟨its,rv,p,hz⟩:=I.list hq;obtain ⟨f0,f1,f2,f3,f4,f5⟩:=hf it (by simp);have hl:=rv.length;exact wpAny_pyNext_list_end (I.ok.hd hc) st p.isList (by simp;omega) λh' eb=>⟨rfl,I.turned (t':=s.toks) (λb o hb e=>eb b o hb e) f0 f1 f3 f4 f5⟩
 self:=λ_ _ _ _ _ st h=>wpAny_pyIter_listiter st h
theorem Cu{P:Program}{w:World}{K:PySem.W.Frag}{tg:Expr}(a it:Addr):Turn P w K tg (Ve K a) [it] it (λi h=>h.IsTupleIter it a i) where
 mem:=by simp
 obj:=λi h st b hb=>by
  have e:b=it:=by simpa using hb
  subst e;obtain ⟨o,e,c,d⟩:=st;exact ⟨o,e,λv z=>by rw [d] at z;cases z⟩
 keep:=λi h h' st k=>st.at λo e=>k it (by simp) o e
 item:=by intro X hP hw hK hc i ζ s σ H E I hf st hg;subst hP hw hK;obtain ⟨xs,x,hq,hx⟩:=hg;obtain ⟨its,rv,p,hz⟩:=I.tuple hq;obtain ⟨u,hu,ru⟩:=rv.get hx;obtain ⟨f0,f1,f2,f3,f4,f5⟩:=hf it (by simp);refine wpAny_pyNext_tuple_item st (show s.heap.IsTuple a its.toArray from p) (x:=u) (by simpa using hu) λh' wq sb=>?_;have I1:Inv X ζ σ H {s with heap:=h'}:=I.turned (t':=s.toks) (λb o hb e=>(sb.2 b hb).trans e) f0 f1 f3 f4 f5;obtain ⟨o,e,c,d⟩:=id wq;exact ⟨u,rfl,vd (s:={s with heap:=h'}) e c d (by decide) ⟨x,H,I1,ru,⟨rfl,λys hy=>by rw [I.uB hy hq];exact hx⟩,wq,λb hb=>(hf b hb).1⟩⟩
 done:=by intro X hP hw hK hc i ζ s σ H E I hf st hg;subst hP hw hK;obtain ⟨xs,hq,hx⟩:=hg;obtain ⟨its,rv,p,hz⟩:=I.tuple hq;obtain ⟨f0,f1,f2,f3,f4,f5⟩:=hf it (by simp);have hl:=rv.length;exact wpAny_pyNext_tuple_end (I.ok.hd hc) st (show s.heap.IsTuple a its.toArray from p) (by simp;omega) λh' eb=>⟨rfl,I.turned (t':=s.toks) (λb o hb e=>eb b o hb e) f0 f1 f3 f4 f5⟩
 self:=λ_ _ _ _ _ st h=>wpAny_pyIter_tupleiter st h
theorem AS{P:Program}{w:World}{K:PySem.W.Frag}{tg:Expr}(it:Addr)(lo:Int)(n:Nat):Turn P w K tg (Rb lo n) [it] it (λi h=>IsRangeIter h it (lo+(i:Nat)*1) ((n:Int)-(i:Nat)) 1) where
 mem:=by simp
 obj:=λi h st b hb=>by
  have e:b=it:=by simpa using hb
  subst e
  exact ⟨_,st,λv z=>by
   have z':Data.fields _=Data.cell v:=z
   cases z'⟩
 keep:=λi h h' st k=>k it (by simp) _ st
 item:=by intro X hP hw hK hc i ζ s σ H E I hf st hg;subst hP hw hK;obtain ⟨f0,f1,f2,f3,f4,f5⟩:=hf it (by simp);have W:=Walks.range (prog:=X.prog) (w:=X.w) (I.ok.hd hc) it lo 1 n;refine W.item i s _ _ hg st λv h' tk hv wq kk=>?_;obtain ⟨t,rfl⟩:=hv;have I1:Inv X ζ σ H {s with heap:=h',toks:=tk}:=I.turned (λb o hb e=>kk b o (by simpa using hb) e) f0 f1 f3 f4 f5;refine ⟨_,rfl,vd (s:={s with heap:=h',toks:=tk}) (n:="range_iterator") wq rfl rfl (by decide) ⟨.int (lo+i),H,I1,⟨t,?_⟩,⟨rfl,rfl⟩,wq,λb hb=>(hf b hb).1⟩⟩;rw [Int.mul_one]
 done:=by intro X hP hw hK hc i ζ s σ H E I hf st hg;subst hP hw hK;obtain ⟨f0,f1,f2,f3,f4,f5⟩:=hf it (by simp);exact wpAny_pyNext_range_end (I.ok.hd hc) st (by have:n<=i:=hg;omega) λh' eb=>⟨rfl,I.turned (t':=s.toks) (λb o hb e=>eb b o hb e) f0 f1 f3 f4 f5⟩
 self:=λ_ _ _ _ _ st h=>wpAny_pyIter_rangeiter st h
section
variable{X:Cx}{tg:Expr}
theorem zM{ζ:List (Addr×Obj)}{σ:St}{H:Hp}{s:Shared}{R:It->Hp->Prop}{E:Value->Shared->Prop}{lo hi:Int}{t u v:Tok}{tk:Nat}(I:Inv X ζ σ H s)(h1: -(2^62)<=lo)(h2:lo<2^62)(h3: -(2^62)<=hi)(h4:hi<2^62)
  (q:R (Rb lo (hi-lo).toNat) H):wpAny (model X.prog X.w) X.A (pyIter (.ref s.heap.objs.size)) (Kq X ζ σ tg R) E {s with heap:=s.heap.push {cls:= .type "range",data:= .fields #[.int lo t,.int hi u,.int 1 v]},toks:=tk}:=by
 refine wpAny_pyIter_range (IsRange.new ..) (small_one h1 h2 h3 h4) ?_;have I1:Inv X ζ σ H {s with heap:=s.heap.push {cls:= .type "range",data:= .fields #[.int lo t,.int hi u,.int 1 v]},toks:=tk}:=I.kept λb o e=>Heap.get?_push_of_some _ e
 refine ⟨(s.heap.push {cls:= .type "range",data:= .fields #[.int lo t,.int hi u,.int 1 v]}).objs.size,[(s.heap.push {cls:= .type "range",data:= .fields #[.int lo t,.int hi u,.int 1 v]}).objs.size],_,_,H,rfl,
  I1.kept (t':=tk) λb o e=>Heap.get?_push_of_some _ e,AS _ lo (hi-lo).toNat,?_,λb hb=>?_,q⟩
 ·have e1:lo+((0:Nat):Int)*1=lo:=by simp
  have e2:(((hi-lo).toNat:Nat):Int)-((0:Nat):Int)=Builtin.Range.rangeSize lo hi 1:=by rw [rangeSize_one];split <;> omega
  show IsRangeIter _ _ (lo+((0:Nat):Int)*1) ((((hi-lo).toNat:Nat):Int)-((0:Nat):Int)) 1;rw [e1,e2];exact Heap.get?_push_size _ rfl
 ·have e:b=(s.heap.push {cls:= .type "range",data:= .fields #[.int lo t,.int hi u,.int 1 v]}).objs.size:=by simpa using hb
  subst e;exact I1.BB (aah _) (I1.ba.fresh (aah _))
def Te(ta:TA):TI:=λσ H R=>ta σ H λvs H1=>∃j:Int,vs=[.int j]/\ -(2^62)<=j/\j<2^62/\R (Rb 0 j.toNat) H1
def TM(ta:TA):TI:=λσ H R=>ta σ H λvs H1=>∃i j:Int,vs=[.int i,.int j]/\(-(2^62)<=i/\i<2^62/\ -(2^62)<=j/\j<2^62)/\R (Rb i (j-i).toNat) H1
theorem Gm{a:Expr}{ta:TA}{p pos:Pos}(hg:Gl X "range")(hm:X.mg "range"=none)(ha:PA X [a] ta)(hs:starEach [a] X.env=[(false,eval a X.env)]:=by rfl):PI X tg (.Call (.Name "range" p) [a] [] pos) (Te ta):=by
 intro ζ s σ H R I h;refine Call_ (mq I hg hm boot_range (PyProof.Rows.callWith_type1 (bC (ha pos ζ s σ H _ I h) λus s1 ⟨vs,H1,I1,r1,q1⟩=>?_) hs rfl));obtain ⟨j,e,q1,q2,q⟩:=q1;subst e;cases r1 with
 |cons r rr=>
  cases rr;obtain ⟨t,rfl⟩:=r;exact call_range_1 (zM I1 (by omega) (by omega) q1 q2 (by simpa using q))
theorem EK{a b:Expr}{ta:TA}{p pos:Pos}(hg:Gl X "range")(hm:X.mg "range"=none)(ha:PA X [a,b] ta)(hs:starEach [a,b] X.env=[(false,eval a X.env),(false,eval b X.env)]:=by rfl)(Oz:starEach [b] X.env=[(false,eval b X.env)]:=by rfl):
  PI X tg (.Call (.Name "range" p) [a,b] [] pos) (TM ta):=by
 intro ζ s σ H R I h;refine Call_ (mq I hg hm boot_range (PyProof.Rows.callWith_type1 (bC (ha pos ζ s σ H _ I h) λus s1 ⟨vs,H1,I1,r1,q1⟩=>?_) (by rw [hs,Oz]) (by rw [Oz];rfl)));obtain ⟨i,j,e,⟨q1,q2,q3,q4⟩,q⟩:=q1;subst e;cases r1 with
 |cons r rr=>
  cases rr with
  |cons r' rr=>
   cases rr;obtain ⟨t,rfl⟩:=r;obtain ⟨t',rfl⟩:=r';exact call_range_2 (zM I1 q1 q2 q3 q4 q)
def V8(wi:TI)(g:TG)(tb:TS):TS:=λD σ H=>wi σ H λJ H1=>∃W:Nat->Nat->St->Hp->Prop,(∃m,W 0 m σ H1)/\∀i m σ H,W i m σ H->
 (J.stop i H/\D.nx σ H)\/(J.go i H/\∃N:St->Hp->Prop,(∀σ' H',N σ' H'->∃m',m'<m/\W (i+1) m' σ' H')/\∀x H',J.T1 i H x H'->g x σ H' λσ2 H2=>tb {D with nx:=N,ct:=N,bk:=D.nx} σ2 H2)
def we(fp:List Addr)(h:Heap):List (Addr×Obj):=fp.filterMap λb=>(h.get? b).map λo=>(b,o)
theorem e_{fp:List Addr}{h:Heap}{b:Addr}{o:Obj}(hb:b∈fp)(e:h.get? b=some o):(b,o)∈we fp h:=ab2.mpr ⟨b,hb,by rw [e];rfl⟩
theorem Fx{fp:List Addr}{h:Heap}{p:Addr×Obj}(hp:p∈we fp h):p.1∈fp/\h.get? p.1=some p.2:=by
 obtain ⟨b,hb,e⟩:=ab2.mp hp;cases q:h.get? b with
 |none=>rw [q] at e;cases e
 |some o=>
  rw [q] at e;have e':(b,o)=p:=aas e;subst e';exact ⟨hb,q⟩
theorem Inv.pinned{ζ:List (Addr×Obj)}{σ:St}{H:Hp}{s:Shared}{fp:List Addr}(I:Inv X ζ σ H s)(hf:∀b∈fp,rQ X ζ H b)(ho:∀b∈fp,∃o,s.heap.get? b=some o/\∀v,o.data≠ .cell v):Inv X (ζ++we fp s.heap) σ H s:=
 I.Dk λp hp=>(aaN.mp hp).elim (λz=>I.pin p (aav _ z)) λz=>by obtain ⟨hb,e⟩:=Fx z;obtain ⟨f0,f1,f2,_⟩:=hf p.1 hb;obtain ⟨o,e',d⟩:=ho p.1 hb;rw [e] at e';cases e';exact ⟨e,f0,f1,f2,d⟩
theorem Inv.j7{ζ pl:List (Addr×Obj)}{σ:St}{H:Hp}{s:Shared}(I:Inv X (ζ++pl) σ H s):Inv X ζ σ H s:=I.Dk λp hp=>I.pin p (aav _ (List.mem_append_left _ hp))
theorem Bw{iter:Expr}{body:List Stmt}{wi:TI}{g:TG}{tb:TS}{pos:Pos}(hp:PassesOwn (model X.prog X.w) X.A X.env X.xe)(hc:X.calm=true)(hi:PI X tg iter wi)(hg:PG X tg g)(hb:Gx X body tb)
  (hs:∀x,foldedSetIterable iter X.env x=pure x:=by intro _;rfl):PS X (.For tg iter body [] pos) (V8 wi g tb):=by
 intro ζ s σ H D I h;refine wpAny_For (bC (hi ζ s σ H _ I h) λv s1 h1=>bC h1 λUQ s2 h2=>?_) hs;obtain ⟨it,fp,tn,J,H2,e,I2,T,st2,f2,W,⟨m0,w0⟩,turn⟩:=h2;subst e;have Pj:∀{H':Hp},(∀b∈fp,H' b=none)->∀b∈fp,rQ X ζ H' b:=λhn b hb=>⟨hn b hb,(f2 b hb).2⟩;refine codeAny_forLoop_any (λn s'=>∃i σ' H',Inv X ζ σ' H' s'/\tn i s'.heap/\(∀b∈fp,H' b=none)/\W i n σ' H') ?_ m0 ⟨0,σ,H2,I2,st2,λb hb=>(f2 b hb).1,w0⟩;rintro n s3 ⟨i,σ3,H3,I3,YK,YZ,w3⟩;rcases turn i n σ3 H3 w3 with ⟨stop,qn⟩|⟨go,N,hN,step⟩
 ·refine wpAny_passesOwn hp (bC (T.done X rfl rfl rfl hc i ζ s3 σ3 H3 X.xe I3 (Pj YZ) YK stop) λr s4 ⟨hr,I4⟩=>?_);subst hr;exact wpAny_execs_nil ⟨σ3,H3,I4,qn⟩
 ·refine wpAny_passesOwn hp (bC (T.item X rfl rfl rfl hc i ζ s3 σ3 H3 X.xe I3 (Pj YZ) YK go) λr s4 ⟨u,hr,h4⟩=>?_);subst hr;refine wpAny_passesOwn hp (bC h4 λ_ s5 ⟨x,H5,I5,r5,y5,W6,Up⟩=>?_);have I5':=I5.pinned (Pj Up) (T.obj _ _ W6);refine wpAny_passesOwn hp (bC (hg _ s5 σ3 H5 x u _ I5' r5 (step x H5 y5)) λ_ s6 ⟨σ6,H6,I6,q6⟩=>?_);refine wpAny_passesOwn hp (bC (hb _ s6 σ6 H6 _ I6 q6) λf s7 q7=>?_);have again:∀{σ7:St} {H7:Hp},Inv X (ζ++we fp s5.heap) σ7 H7 s7->N σ7 H7->∃m,m<n/\∃i σ' H',Inv X ζ σ' H' s7/\tn i s7.heap/\(∀b∈fp,H' b=none)/\W i m σ' H':=λ{σ7 H7} I7 n7=>by obtain ⟨m',hm,w7⟩:=hN σ7 H7 n7;refine ⟨m',hm,i+1,σ7,H7,I7.j7,T.keep _ _ _ W6 λb hb o e=>(I7.pin (b,o) (aav _ (aav _ (e_ hb e)))).1,λb hb=>?_,w7⟩;obtain ⟨o,e,d⟩:=T.obj _ _ W6 b hb;exact (I7.pin (b,o) (aav _ (aav _ (e_ hb e)))).2.1
  cases f with
  |next=>obtain ⟨σ7,H7,I7,n7⟩:=q7;exact again I7 n7
  |cont=>obtain ⟨σ7,H7,I7,n7⟩:=q7;exact again I7 n7
  |brk=>obtain ⟨σ7,H7,I7,q7⟩:=q7;exact ⟨σ7,H7,I7.j7,q7⟩
  |ret v=>obtain ⟨x7,σ7,H7,I7,r7,q7⟩:=q7;exact ⟨x7,σ7,H7,I7.j7,r7,q7⟩
end
abbrev R2:=V->V->Hp->VK->Prop
def jF(X:Cx)(f:Value->Value->Sem Value)(r:R2):Prop:=
 ∀(ζ:List (Addr×Obj)) (s:Shared) (σ:St) (H:Hp) (x y:V) (v u:Value) (Q:VK),Inv X ζ σ H s->aB x v->aB y u->r x y H Q->
  wpAny (model X.prog X.w) X.A (f v u) (EP X ζ σ Q) X.xe s
def UP(X:Cx)(f:Value->Sem Value)(r:V->Hp->VK->Prop):Prop:=
 ∀(ζ:List (Addr×Obj)) (s:Shared) (σ:St) (H:Hp) (x:V) (v:Value) (Q:VK),Inv X ζ σ H s->aB x v->r x H Q->
  wpAny (model X.prog X.w) X.A (f v) (EP X ζ σ Q) X.xe s
def c8(X:Cx)(f:Value)(r:List V->Hp->VK->Prop):Prop:=
 ∀(ζ:List (Addr×Obj)) (s:Shared) (σ:St) (H:Hp) (xs:List V) (us:List Value) (Q:VK),Inv X ζ σ H s->ay xs us->r xs H Q->
  wpAny (model X.prog X.w) X.A (call f us) (EP X ζ σ Q) X.xe s
def R7(r:R2)(ta tb:TE):TE:=λσ H Q=>ta σ H λx H1=>tb σ H1 λy H2=>r x y H2 Q
def YR(r:V->Hp->VK->Prop)(ta:TE):TE:=λσ H Q=>ta σ H λx H1=>r x H1 Q
def rI(C:Int->Int->Prop)(g:Int->Int->V):R2:=λx y H Q=>∃i j,x= .int i/\y= .int j/\C i j/\Q (g i j) H
def Fz(g:Int->Int->V):R2:=λx y H Q=>∃i j,x= .int i/\y= .int j/\Q (g i j) H
def rU(g:Int->V):V->Hp->VK->Prop:=λx H Q=>∃i,x= .int i/\Q (g i) H
section
variable{X:Cx}{a b c:Expr}{ta tb tc:TE}{pos:Pos}
theorem P7(ha:PE X a ta)(hb:PE X b tb){ζ:List (Addr×Obj)}{s:Shared}{σ:St}{H:Hp}{R:V->V->Hp->Prop}(I:Inv X ζ σ H s)
  (h:ta σ H λx H1=>tb σ H1 λy H2=>R x y H2) {Q:Value->Shared->Prop} {f:Value->Value->Sem Value}
  (hf:∀v u s2 x y H2,Inv X ζ σ H2 s2->aB x v->aB y u->R x y H2->wpAny (model X.prog X.w) X.A (f v u) Q X.xe s2):
  wpAny (model X.prog X.w) X.A (eval a X.env) (λv s₁=>wpAny (model X.prog X.w) X.A (eval b X.env) (λu s₂=>wpAny (model X.prog X.w) X.A (f v u) Q X.xe s₂) X.xe s₁) X.xe s:=by
 refine bC (ha ζ s σ H _ I h) λv s1 ⟨x,H1,I1,r1,q1⟩=>?_;refine bC (hb ζ s1 σ H1 _ I1 q1) λu s2 ⟨y,H2,I2,r2,q2⟩=>?_;exact hf v u s2 x y H2 I2 r1 r2 q2
theorem Ry{op:Operator}{r:R2}(ho:jF X (binaryOp op) r)(ha:PE X a ta)(hb:PE X b tb):PE X (.BinOp a op b pos) (R7 r ta tb):=by intro ζ s σ H Q I h;exact wpAny_BinOp (P7 ha hb I h λv u s2 x y H2 I2 rx ry q=>ho ζ s2 σ H2 x y v u Q I2 rx ry q)
theorem TB{op:UnaryOp}{r:V->Hp->VK->Prop}(ho:UP X (unaryOp op) r)(ha:PE X a ta):PE X (.UnaryOp op a pos) (YR r ta):=by intro ζ s σ H Q I h;exact UnaryOp_ (bC (ha ζ s σ H _ I h) λv s1 ⟨x,H1,I1,r1,q1⟩=>ho ζ s1 σ H1 x v Q I1 r1 q1)
theorem Uv{f:Value->Value->Sem Value}{C:Int->Int->Prop}{g:Int->Int->Int}
  (rule:∀(i j:Int) (t u:Tok) (s:Shared) (Q:Value->Shared->Prop) (E:Value->Shared->Prop),C i j->Q (.int (g i j) s.toks) {s with toks:=s.toks+1}->wpAny (model X.prog X.w) X.A (f (.int i t) (.int j u)) Q E s):
  jF X f (rI C λi j=> .int (g i j)):=by
 intro ζ s σ H x y v u Q I rx ry h;obtain ⟨i,j,rfl,rfl,hc,q⟩:=h;obtain ⟨t,rfl⟩:=rx;obtain ⟨t',rfl⟩:=ry;exact rule i j t t' s _ _ hc ⟨.int (g i j),H,I.tok _,⟨_,rfl⟩,q⟩
theorem Q8{f:Value->Value->Sem Value}{g:Int->Int->Int}
  (rule:∀(i j:Int) (t u:Tok) (s:Shared) (Q:Value->Shared->Prop) (E:Value->Shared->Prop),Q (.int (g i j) s.toks) {s with toks:=s.toks+1}->wpAny (model X.prog X.w) X.A (f (.int i t) (.int j u)) Q E s):
  jF X f (Fz λi j=> .int (g i j)):=by
 intro ζ s σ H x y v u Q I rx ry h;obtain ⟨i,j,rfl,rfl,q⟩:=h;obtain ⟨t,rfl⟩:=rx;obtain ⟨t',rfl⟩:=ry;exact rule i j t t' s _ _ ⟨.int (g i j),H,I.tok _,⟨_,rfl⟩,q⟩
theorem Mh{f:Value->Value->Sem Value}{g:Int->Int->Bool}
  (rule:∀(i j:Int) (t u:Tok) (s:Shared) (Q:Value->Shared->Prop) (E:Value->Shared->Prop),Q (.bool (g i j)) s->wpAny (model X.prog X.w) X.A (f (.int i t) (.int j u)) Q E s):
  jF X f (Fz λi j=> .bl (g i j)):=by
 intro ζ s σ H x y v u Q I rx ry h;obtain ⟨i,j,rfl,rfl,q⟩:=h;obtain ⟨t,rfl⟩:=rx;obtain ⟨t',rfl⟩:=ry;exact rule i j t t' s _ _ ⟨.bl (g i j),H,I,rfl,q⟩
def Aq(i j:Int):Prop:=0<=j/\j<=1000000/\i.natAbs<2^64
theorem Qq:jF X (binaryOp .Add) (Fz λi j=> .int (i+j)):=Q8 λ_ _ _ _ _ _ _ q=>add_int q
theorem Ph:jF X (binaryOp .Sub) (Fz λi j=> .int (i-j)):=Q8 λ_ _ _ _ _ _ _ q=>sub_int q
theorem OC:jF X (binaryOp .Mod) (rI (λ_ j=>0<j) λi j=> .int (i%j)):=Uv λi j _ _ _ _ _ hc q=>by have h1:(0:Int)<j:=hc;exact mod_int' (by omega) (by rw [abx i (by omega)];exact q)
theorem Ql:jF X (binaryOp .Pow) (rI Aq λi j=> .int (i^j.toNat)):=Uv λ_ _ _ _ _ _ _ hc q=>pow_int_small hc.1 hc.2.1 hc.2.2 q
theorem unI{f:Value->Sem Value}{g:Int->Int}
  (rule:∀(i:Int) (t:Tok) (s:Shared) (Q:Value->Shared->Prop) (E:Value->Shared->Prop),Q (.int (g i) s.toks) {s with toks:=s.toks+1}->wpAny (model X.prog X.w) X.A (f (.int i t)) Q E s):
  UP X f (rU λi=> .int (g i)):=by
 intro ζ s σ H x v Q I rx h;obtain ⟨i,rfl,q⟩:=h;obtain ⟨t,rfl⟩:=rx;exact rule i t s _ _ ⟨.int (g i),H,I.tok _,⟨_,rfl⟩,q⟩
theorem Qn:UP X (unaryOp .USub) (rU λi=> .int (-i)):=unI λ_ _ _ _ _ q=>neg_int q
end
def Ri:V->V->Bool
 |.bq,.bq=>true|.bq,.int _=>true|.int _,.bq=>true|.bq,.bl _=>true|.bl _,.bq=>true|.bq,.str _=>true|.str _,.bq=>true
 |.int _,.int _=>true|.bl _,.bl _=>true|.str _,.str _=>true|.Gu _, .Gu _=>true
 |.int _,.str _=>true|.str _,.int _=>true|.bl _,.str _=>true|.str _,.bl _=>true
 |_,_=>false
def Y_:R2:=λx y H Q=>Ri x y=true/\Q (.bl (decide (x=y))) H
def YY:R2:=λx y H Q=>Ri x y=true/\Q (.bl (!decide (x=y))) H
theorem Dv{i j:Int}:decide (V.int i=V.int j)=(i==j):=by rw [Bool.eq_iff_iff];simp
theorem Jj{i j:Bool}:decide (V.bl i=V.bl j)=(i==j):=by rw [Bool.eq_iff_iff];simp
theorem CG{i j:Str}:decide (V.str i=V.str j)=(i==j):=by rw [Bool.eq_iff_iff];simp
theorem C8{i j:Array UInt8}:decide (V.Gu i=V.Gu j)=(i.toList==j.toList):=by rw [Bool.eq_iff_iff];cases i;cases j;simp
section
variable{X:Cx}{a b c:Expr}{ta tb tc:TE}{pos:Pos}
theorem aN{ζ:List (Addr×Obj)}{σ:St}{H:Hp}{s:Shared}{Q:VK}{k k':Bool}(I:Inv X ζ σ H s)(q:Q (.bl k) H)(e:k=k'):EP X ζ σ Q (.bool k') s:=by subst e;exact ⟨.bl k,H,I,rfl,q⟩
theorem Nj:jF X (compareOp .Eq) Y_:=by
 intro ζ s σ H x y v u Q I rx ry h;obtain ⟨hs,q⟩:=h;cases x with
 |bq=>
  cases rx;cases y with
  |bq=>cases ry;exact PySem.EqNone.eq_none_none (aN I q (by simp))
  |bl j=>cases ry;exact PySem.EqNone.eq_none_bool (aN I q (by simp))
  |int j=>obtain ⟨t',rfl⟩:=ry;exact PySem.EqNone.eq_none_int (aN I q (by simp))
  |str j=>obtain ⟨t',rfl⟩:=ry;exact PySem.EqNone.eq_none_str (aN I q (by simp))
  |_=>exact absurd (show false=true from hs) aat
 |bl i=>
  cases rx;cases y with
  |bq=>cases ry;exact PySem.EqNone.eq_bool_none (aN I q (by simp))
  |bl j=>cases ry;exact eq_bool (aN I q Jj)
  |str j=>obtain ⟨t',rfl⟩:=ry;exact PySem.EqMixed.eq_bool_str (aN I q (by simp))
  |_=>exact absurd (show false=true from hs) aat
 |int i=>
  obtain ⟨t,rfl⟩:=rx;cases y with
  |bq=>cases ry;exact PySem.EqNone.eq_int_none (aN I q (by simp))
  |int j=>obtain ⟨t',rfl⟩:=ry;exact eq_int (aN I q Dv)
  |str j=>obtain ⟨t',rfl⟩:=ry;exact PySem.EqMixed.eq_int_str (aN I q (by simp))
  |_=>exact absurd (show false=true from hs) aat
 |str i=>
  obtain ⟨t,rfl⟩:=rx;cases y with
  |bq=>cases ry;exact PySem.EqNone.eq_str_none (aN I q (by simp))
  |bl j=>cases ry;exact PySem.EqMixed.eq_str_bool (aN I q (by simp))
  |int j=>obtain ⟨t',rfl⟩:=ry;exact PySem.EqMixed.eq_str_int (aN I q (by simp))
  |str j=>obtain ⟨t',rfl⟩:=ry;exact eq_str (aN I q CG)
  |_=>exact absurd (show false=true from hs) aat
 |Gu i=>
  obtain ⟨t,rfl⟩:=rx;cases y with
  |Gu j=>obtain ⟨t',rfl⟩:=ry;exact PySem.W.eq_bytes (aN I q C8)
  |_=>exact absurd (show false=true from hs) aat
 |_=>cases y <;> exact absurd (show false=true from hs) aat
theorem RW:jF X (compareOp .NotEq) YY:=by
 intro ζ s σ H x y v u Q I rx ry h;obtain ⟨hs,q⟩:=h;cases x with
 |bq=>
  cases rx;cases y with
  |bq=>cases ry;exact PySem.EqNone.ne_none_none (aN I q (by simp))
  |bl j=>cases ry;exact PySem.EqNone.ne_none_bool (aN I q (by simp))
  |int j=>obtain ⟨t',rfl⟩:=ry;exact PySem.EqNone.ne_none_int (aN I q (by simp))
  |str j=>obtain ⟨t',rfl⟩:=ry;exact PySem.EqNone.ne_none_str (aN I q (by simp))
  |_=>exact absurd (show false=true from hs) aat
 |bl i=>
  cases rx;cases y with
  |bq=>cases ry;exact PySem.EqNone.ne_bool_none (aN I q (by simp))
  |bl j=>cases ry;exact ne_bool (aN I q (congrArg not Jj))
  |str j=>obtain ⟨t',rfl⟩:=ry;exact PySem.EqMixed.ne_bool_str (aN I q (by simp))
  |_=>exact absurd (show false=true from hs) aat
 |int i=>
  obtain ⟨t,rfl⟩:=rx;cases y with
  |bq=>cases ry;exact PySem.EqNone.ne_int_none (aN I q (by simp))
  |int j=>obtain ⟨t',rfl⟩:=ry;exact ne_int (aN I q (congrArg not Dv))
  |str j=>obtain ⟨t',rfl⟩:=ry;exact PySem.EqMixed.ne_int_str (aN I q (by simp))
  |_=>exact absurd (show false=true from hs) aat
 |str i=>
  obtain ⟨t,rfl⟩:=rx;cases y with
  |bq=>cases ry;exact PySem.EqNone.ne_str_none (aN I q (by simp))
  |bl j=>cases ry;exact PySem.EqMixed.ne_str_bool (aN I q (by simp))
  |int j=>obtain ⟨t',rfl⟩:=ry;exact PySem.EqMixed.ne_str_int (aN I q (by simp))
  |str j=>obtain ⟨t',rfl⟩:=ry;exact ne_str (aN I q (congrArg not CG))
  |_=>exact absurd (show false=true from hs) aat
 |Gu i=>
  obtain ⟨t,rfl⟩:=rx;cases y with
  |Gu j=>obtain ⟨t',rfl⟩:=ry;exact PySem.W.ne_bytes (aN I q (congrArg not C8))
  |_=>exact absurd (show false=true from hs) aat
 |_=>cases y <;> exact absurd (show false=true from hs) aat
theorem Nd:jF X (compareOp .Lt) (Fz λi j=> .bl (decide (i<j))):=Mh λ_ _ _ _ _ _ _ q=>lt_int q
theorem RU:jF X (compareOp .LtE) (Fz λi j=> .bl (decide (i<=j))):=Mh λ_ _ _ _ _ _ _ q=>le_int q
theorem Ub:jF X (compareOp .Gt) (Fz λi j=> .bl (decide (j<i))):=Mh λ_ _ _ _ _ _ _ q=>gt_int q
theorem Sy:jF X (compareOp .GtE) (Fz λi j=> .bl (decide (j<=i))):=Mh λ_ _ _ _ _ _ _ q=>ge_int q
theorem Qb:jF X (compareOp .Is) (λx y H Q=>y= .bq/\Q (.bl (decide (x= .bq))) H):=by
 intro ζ s σ H x y v u Q I rx ry h;obtain ⟨rfl,q⟩:=h;cases ry;refine is_none_gen (aN I q ?_)
 cases x <;> first
  |(cases rx;rfl)
  |(obtain ⟨t,rfl⟩:=rx;rfl)
theorem jF.or{f:Value->Value->Sem Value}{r r':R2}(h:jF X f r)(h':jF X f r'):jF X f (λx y H Q=>r x y H Q\/r' x y H Q):=by
 intro ζ s σ H x y v u Q I rx ry q;rcases q with q|q
 ·exact h ζ s σ H x y v u Q I rx ry q
 ·exact h' ζ s σ H x y v u Q I rx ry q
theorem jn(b:Expr){op:CmpOp}(h:op≠ .In:=by decide)(h2:op≠ .NotIn:=by decide):behindInMarks op b=false:=by
 have e1:(op==CmpOp.In)=false:=by cases op <;> first|rfl|exact absurd rfl h
 have e2:(op==CmpOp.NotIn)=false:=by cases op <;> first|rfl|exact absurd rfl h2
 cases b <;> simp [behindInMarks,e1,e2]
theorem MR{op:CmpOp}{r:R2}(ho:jF X (compareOp op) r)(ha:PE X a ta)(hb:PE X b tb)(hm:behindInMarks op b=false):PE X (.Compare a [op] [b] pos) (R7 r ta tb):=by intro ζ s σ H Q I h;exact wpAny_Compare1 (P7 ha hb I h λv u s2 x y H2 I2 rx ry q=>ho ζ s2 σ H2 x y v u Q I2 rx ry q) hm
def RR(t:TE):TT:=λσ H Q=>t σ H λx H'=>∃k,x= .bl k/\Q k H'
theorem K1{op:CmpOp}{r:R2}(ho:jF X (compareOp op) r)(ha:PE X a ta)(hb:PE X b tb)(hm:behindInMarks op b=false):PT X (.Compare a [op] [b] pos) (RR (R7 r ta tb)):=by
 intro ζ s σ H Q I h
 refine wpAny_isTrue_Compare1 (bC (ha ζ s σ H _ I h) λv s1 ⟨x,H1,I1,r1,q1⟩=>bC (hb ζ s1 σ H1 _ I1 q1) λu s2 ⟨y,H2,I2,r2,q2⟩=>
  bC (ho ζ s2 σ H2 x y v u _ I2 r1 r2 q2) λc s3 ⟨z,H3,I3,r3,k,e,q3⟩=>?_) hm
 subst e;cases r3;exact wpAny_truthy_bool ⟨H3,I3,q3⟩
theorem nK:(sizeLine:Nat)<2^63:=by rw [sizeLine_eq];decide
theorem Cw:jF X (binaryOp .Add) (λx y H Q=>∃i j,x= .str i/\y= .str j/\i.length+j.length<=sizeLine/\Q (.str (i++j)) H):=by intro ζ s σ H x y v u Q I rx ry h;obtain ⟨i,j,rfl,rfl,hz,q⟩:=h;obtain ⟨t,rfl⟩:=rx;obtain ⟨t',rfl⟩:=ry;exact add_str (λt' tk=>⟨.str (i++j),H,I.tok _,⟨_,rfl⟩,q⟩) hz
theorem kF{x:V}{us:List Value}(r:ay [x] us):∃u,us=[u]/\aB x u:=by
 cases r with
 |cons r1 r2=>cases r2;exact ⟨_,rfl,r1⟩
theorem Ki{x y:V}{us:List Value}(r:ay [x,y] us):∃u w',us=[u,w']/\aB x u/\aB y w':=by
 cases r with
 |cons r1 r2=>
  cases r2 with
  |cons r3 r4=>cases r4;exact ⟨_,_,rfl,r1,r3⟩
theorem JG:c8 X (.builtin "abs") (λxs H Q=>∃i,xs=[.int i]/\Q (.int (if i<0 then -i else i)) H):=by intro ζ s σ H xs us Q I r h;obtain ⟨i,rfl,q⟩:=h;obtain ⟨u,rfl,t,rfl⟩:=kF r;exact call_abs_int λu tk=>⟨.int (if i<0 then -i else i),H,I.tok _,⟨_,rfl⟩,q⟩
theorem Fc(hc:X.calm=true):c8 X (.builtin "max") (λxs H Q=>∃i j,xs=[.int i,.int j]/\Q (.int (if j > i then j else i)) H):=by
 intro ζ s σ H xs us Q I r h;obtain ⟨i,j,rfl,q⟩:=h;obtain ⟨u,w',rfl,⟨t,rfl⟩,⟨t',rfl⟩⟩:=Ki r;refine max_two_ints (I.ok.hd hc) λh' tk k=>⟨_,H,I.kept k,?_,q⟩;by_cases hj:j > i
 ·rw [if_pos hj,if_pos hj];exact ⟨_,rfl⟩
 ·rw [if_neg hj,if_neg hj];exact ⟨_,rfl⟩
theorem Fs(hc:X.calm=true):c8 X (.builtin "min") (λxs H Q=>∃i j,xs=[.int i,.int j]/\Q (.int (if j<i then j else i)) H):=by
 intro ζ s σ H xs us Q I r h;obtain ⟨i,j,rfl,q⟩:=h;obtain ⟨u,w',rfl,⟨t,rfl⟩,⟨t',rfl⟩⟩:=Ki r;refine min_two_ints (I.ok.hd hc) λh' tk k=>⟨_,H,I.kept k,?_,q⟩;by_cases hj:j<i
 ·rw [if_pos hj,if_pos hj];exact ⟨_,rfl⟩
 ·rw [if_neg hj,if_neg hj];exact ⟨_,rfl⟩
theorem Ek:c8 X (.type "int") (λxs H Q=>(∃i,xs=[.int i]/\Q (.int i) H)\/∃k,xs=[.bl k]/\Q (.int (if k then 1 else 0)) H):=by
 intro ζ s σ H xs us Q I r h;rcases h with ⟨i,rfl,q⟩|⟨k,rfl,q⟩
 ·obtain ⟨u,rfl,t,rfl⟩:=kF r;exact call_int_int ⟨.int i,H,I,⟨_,rfl⟩,q⟩
 ·obtain ⟨u,rfl,r1⟩:=kF r;cases r1;exact call_int_bool ⟨.int (if k then 1 else 0),H,I.tok _,⟨_,rfl⟩,q⟩
end
structure BN(h:Heap)(x dx C:Addr)(mA:Str->Option Value):Prop where
 obj:h.get? x=some (PySem.W.instObj C dx)
 ns:h.Ns1 dx mA
 ne:dx≠x
theorem FL{h:Heap}{dx:Addr}{mA:Str->Option Value}(n:h.Ns1 dx mA):∃od,h.get? dx=some od/\∀name,PySem.W.lookIn name od=some (mA name):=by
 obtain ⟨o,es,ep,ho,hd,hk,_,hm⟩:=n;refine ⟨o,ho,λname=>?_⟩;have e:=hm name;unfold nsFind findBy at e;rw [<-Array.find?_toList] at e;unfold PySem.W.lookIn;rw [hd];dsimp only;split
 ·rename_i y q;rw [q] at e;exact congrArg some e
 ·rename_i q;rw [q] at e;have a:es.toList.any (·.refKey)=false:=by rw [List.any_eq_false];intro y hy;obtain ⟨z,t,XS⟩:=hk y (Array.mem_toList_iff.mp hy);simp [DictEntry.refKey,XS]
  have a':¬es.toList.any (·.refKey)=true:=by rw [a];exact aat
  rw [if_neg a'];exact congrArg some e
theorem BN.look{h:Heap}{x dx C:Addr}{mA:Str->Option Value}(I:BN h x dx C mA):∃od,PySem.W.InstAt h x (PySem.W.instObj C dx) C (some od)/\∀name,PySem.W.lookIn name od=some (mA name):=
 let ⟨od,ho,hl⟩:=FL I.ns
 ⟨od,⟨I.obj,rfl,rfl,ho⟩,hl⟩
section
variable{prog:Program}{w:World}{A:Around}{E:Value->Shared->Prop}{s:Shared}{K:PySem.W.Frag}{x dx C f:Addr}{mA:Str->Option Value}{name:Str}{v:Value}
theorem qp{expr:Bool}{Q:Value->Shared->Prop}(X:K.In s.heap)(I:BN s.heap x dx C mA)(hg:PySem.W.plainGet K C name=true)(hh:PySem.W.hasDictIn K C=true)
  (ha:PySem.W.findIn K (.ref C) name=some none) (hv:mA name=some v) (hv':PySem.W.handedIn v=true) (h:Q v {s with toks:=s.toks+1}):
  wpAny (model prog w) A (getAttr (.ref x) name expr) Q E s:=by
 obtain ⟨od,J,hl⟩:=I.look;exact PySem.W.get_value X J (PySem.W.plainGet_of hg).1 (PySem.W.findObj_own hh ha rfl (by rw [hl,hv])) hv' h
theorem Hr{pl:Sem Bool}{Q:Value×List Value->Shared->Prop}(X:K.In s.heap)(I:BN s.heap x dx C mA)(hg:PySem.W.plainGet K C name=true)
  (hf:PySem.W.findIn K (.ref C) name=some (some (.ref f))) (ht:PySem.W.isFn K (.ref f)=true) (hv:mA name=none) (h:Q (.ref f,[.ref x]) s):
  wpAny (model prog w) A (getMethod (.ref x) name pl) Q E s:=by
 obtain ⟨od,J,hl⟩:=I.look;exact PySem.W.method_fn X J (PySem.W.plainGet_of hg).1 (PySem.W.plainGet_of hg).2 hf (beq_iff_eq.mp ht) (by show (PySem.W.lookIn name od).map (·.isSome)=some false;rw [hl,hv];rfl) h
theorem Le{ns:List Str}{Q:Unit->Shared->Prop}(X:K.In s.heap)(I:BN s.heap x dx C mA)
  (hs:PySem.W.findIn K (.ref C) "__setattr__"=some (some (.builtin "object.__setattr__"))) (hp:PySem.W.plainOver K C=true) (ht:PySem.W.takerIn K C name=some none) (hh:PySem.W.hasDictIn K C=true)
  (hw:PySem.Within mA ns) (hsz:ns.length<=sizeLine)
  (h:∀h',BN h' x dx C (λy=>if y=name then some v else mA y)->Heap.SameBut dx s.heap h'->Q () {s with heap:=h',toks:=s.toks+2}):
  wpAny (model prog w) A (setAttr (.ref x) name v) Q E s:=by
 obtain ⟨od,J,hl⟩:=I.look;refine PySem.W.set_plain X J hs (PySem.W.osa_open (s:={s with toks:=s.toks+1}) (r:=none) X J hp ht λb=>?_);obtain ⟨cd,hc,LX⟩:=PySem.W.any_some hh;have hx:s.heap.get? x=some ⟨.ref C,some dx,.plain, #[]⟩:=I.obj;refine wpAny_bind (wpAny_pure (wpAny_bind (wpAny_bind (wpAny_loadPart hx (wpAny_bind (PySem.W.Looks.here (s:={s with toks:=s.toks+1}) (PySem.W.looks_clsIn X hc) ?_))))));rw [LX];refine wpAny_pure (a:=some dx) (wpAny_bind (wpAny_pure (wpAny_bind ?_)));refine wpAny_nsSet1 (s:={s with toks:=s.toks+1}) I.ns λh' Uw Oz=>?_;obtain ⟨oD,esD,epD,hoD,hdD,hcD⟩:=Uw.count (PySem.Within.cons name v hw);refine wpAny_bind (wpAny_lookBehind hoD (by rw [hdD];exact pastItsLine_dict (aaq hcD (by rw [aau];omega))) ?_);exact wpAny_pure (h _ ⟨(Oz.2 _ (Ne.symm I.ne)).trans I.obj,Uw,I.ne⟩ Oz)
theorem GU{R:Result->Shared->Prop}{vs:List Value}{kw:List (Str×Value)}(X:K.In s.heap)(hm:PySem.W.makesIn K C=true)
  (hi:PySem.W.findIn K (.ref C) "__init__"=some (some (.ref f))) (hf:PySem.W.typeIn K (.ref f)=some (.type "function"))
  (h:codeAny (model prog w) (A.under (.builtin "type.__call__" ⟨.ref C::vs,kw⟩)) (.call (.ref f) ⟨.ref (s.heap.objs.size+1)::vs,kw⟩) (PySem.W.InitBack (s.heap.objs.size+1) R)
   {s with heap:=(s.heap.push PySem.W.emptyDict).push (PySem.W.instObj C s.heap.objs.size)}):
  codeAny (model prog w) A (.call (.ref C) ⟨vs,kw⟩) R s:=by
 obtain ⟨hh,g,d,t,os⟩:=s;exact PySem.W.make_core (PySem.W.makes_of X hm) (PySem.W.looks_findIn X hi) (λself=>PySem.W.bind_fn X self hf) (.inl rfl) h
end
def jG(f:Str)(v:V):List (Str×V)->List (Str×V)
 |[]=>[(f,v)]
 |(g,x)::r=>if g=f then (g,v)::r else (g,x)::jG f v r
theorem pB(f g:Str)(v:V):∀fs:List (Str×V),(jG f v fs).lookup g=if g=f then some v else fs.lookup g
 |[]=>by
  show List.lookup g [(f,v)]=_;by_cases h:g=f
  ·have hb:(g==f)=true:=beq_iff_eq.mpr h;simp only [List.lookup,hb,if_pos h]
  ·have hb:(g==f)=false:=beq_eq_false_iff_ne.mpr h;simp only [List.lookup,hb,if_neg h]
 |(k,x)::r=>by
  have ih:=pB f g v r;rw [show jG f v ((k,x)::r)=(if k=f then (k,v)::r else (k,x)::jG f v r) from rfl];by_cases hk:k=f
  ·rw [if_pos hk];by_cases h:g=k
   ·have hb:(g==k)=true:=beq_iff_eq.mpr h;simp only [List.lookup,hb,if_pos (h.trans hk)]
   ·have hb:(g==k)=false:=beq_eq_false_iff_ne.mpr h;simp only [List.lookup,hb,if_neg (λe:g=f=>h (e.trans hk.symm))]
  ·rw [if_neg hk];by_cases h:g=k
   ·have hb:(g==k)=true:=beq_iff_eq.mpr h;simp only [List.lookup,hb,if_neg (λe:g=f=>hk (h.symm.trans e))]
   ·have hb:(g==k)=false:=beq_eq_false_iff_ne.mpr h;simp only [List.lookup,hb];exact ih
theorem oE(f:Str)(v:V):∀fs:List (Str×V),f∈(jG f v fs).map (·.1)/\∀g,g∈fs.map (·.1)->g∈(jG f v fs).map (·.1)
 |[]=>⟨by simp [jG],λg h=>by simp at h⟩
 |(k,x)::r=>by
  obtain ⟨i1,i2⟩:=oE f v r;rw [show jG f v ((k,x)::r)=(if k=f then (k,v)::r else (k,x)::jG f v r) from rfl];by_cases hk:k=f
  ·rw [if_pos hk];subst hk;exact ⟨by simp,λg h=>by simpa using h⟩
  ·rw [if_neg hk];refine ⟨?_,λg h=>?_⟩
   ·rw [aaB];exact aac _ i1
   ·rw [aaB] at h⊢;rcases aay.mp h with e|e
    ·exact aay.mpr (.inl e)
    ·exact aac _ (i2 g e)
theorem pC(f:Str)(v:V):∀fs:List (Str×V),(jG f v fs).length<=fs.length+1
 |[]=>by simp [jG]
 |(k,x)::r=>by
  have ih:=pC f v r;rw [show jG f v ((k,x)::r)=(if k=f then (k,v)::r else (k,x)::jG f v r) from rfl];by_cases hk:k=f
  ·rw [if_pos hk,aau,aau];omega
  ·rw [if_neg hk,aau,aau];omega
theorem kg.some_of{v:V}{o:Option Value}(r:kg (some v) o):∃u,o=some u/\aB v u:=by
 cases o with
 |none=>exact (show False from r).elim
 |some u=>exact ⟨u,rfl,r⟩
theorem kg.none_of{o:Option Value}(r:kg none o):o=none:=by
 cases o with
 |none=>rfl
 |some u=>exact (show False from r).elim
theorem EV{v:V}{u:Value}(r:aB v u):PySem.W.handedIn u=true:=by
 cases v with
 |bq=>cases (show u=Value.none from r);rfl
 |bl b=>cases (show u=Value.bool b from r);rfl
 |int i=>obtain ⟨t,e⟩:=(show∃t,u=Value.int i t from r);cases e;rfl
 |str x=>obtain ⟨t,e⟩:=(show∃t,u=Value.str x t from r);cases e;rfl
 |Gu b=>obtain ⟨t,e⟩:=(show∃t,u=Value.bytes b t from r);cases e;rfl
 |P5 b=>obtain ⟨t,e⟩:=(show∃t,u=Value.float b t from r);cases e;rfl
 |ref a=>cases (show u=Value.ref a from r);rfl
 |ty n=>cases (show u=Value.type n from r);rfl
section
variable{P:Program}{w:World}{H H':Hp}{h h':Heap}{a C dx:Addr}{fs WR:List (Str×V)}
theorem qc(ba:kW P w H h)(e:H a=some (.ins C dx fs)):∃mA,BN h a dx C mA/\(∀f,kg (fs.lookup f) (mA f))/\PySem.Within mA (fs.map (·.1))/\fs.length<=1000/\H dx=some (.own a):=by obtain ⟨d,z,ne,ob,mA,n,r,q⟩:=(show bT P w H h a (.ins C dx fs) from ba a _ e);exact ⟨mA,⟨ob,n,ne⟩,r,q,z,d⟩
end
structure Dp(K:PySem.W.Frag)(C:Addr):Prop where
 pg:PySem.W.plainGet K C Str.empty=true
 hd:PySem.W.hasDictIn K C=true
 po:PySem.W.plainOver K C=true
 sa:PySem.W.findIn K (.ref C) "__setattr__"=some (some (.builtin "object.__setattr__"))
theorem Dp.get{K:PySem.W.Frag}{C:Addr}(c:Dp K C)(f:Str):PySem.W.plainGet K C f=true:=c.pg
def ik(K:PySem.W.Frag)(C:Addr)(f:Str):Prop:=PySem.W.findIn K (.ref C) f=some none
theorem ik.QS{K:PySem.W.Frag}{C:Addr}{f:Str}(n:ik K C f):PySem.W.takerIn K C f=some none:=by unfold PySem.W.takerIn;rw [show PySem.W.findIn K (.ref C) f=some none from n];rfl
structure MU(K:PySem.W.Frag)(C:Addr)(m:Str)(f:Addr):Prop where
 at_:PySem.W.findIn K (.ref C) m=some (some (.ref f))
 fn:PySem.W.isFn K (.ref f)=true
 kp:PySem.W.keepIn K (.ref f)=true
section
variable{X:Cx}{ζ:List (Addr×Obj)}{σ:St}{H:Hp}{s:Shared}{a C dx:Addr}{fs:List (Str×V)}{f:Str}{v:V}{A:Around}{E:Value->Shared->Prop}
theorem BX{b:Bool}{Q:Value->Shared->Prop}(I:Inv X ζ σ H s)(e:H a=some (.ins C dx fs))(c:Dp X.K C)(n:ik X.K C f)(l:fs.lookup f=some v)
  (h:∀u s',Inv X ζ σ H s'->aB v u->Q u s'):wpAny (model X.prog X.w) A (getAttr (.ref a) f b) Q E s:=by
 obtain ⟨mA,O,r,_,_,_⟩:=qc I.ba e;obtain ⟨u,hu,ru⟩:=kg.some_of (v:=v) (o:=mA f) (by rw [<-l];exact r f);exact qp I.pK O (c.get f) c.hd n hu (EV ru) (h u _ (I.tok _) ru)
theorem r_{m:Str}{g:Addr}{pl:Sem Bool}{Q:Value×List Value->Shared->Prop}(I:Inv X ζ σ H s)(e:H a=some (.ins C dx fs))(c:Dp X.K C)(k:MU X.K C m g)(l:fs.lookup m=none)
  (h:Q (.ref g,[.ref a]) s):wpAny (model X.prog X.w) A (getMethod (.ref a) m pl) Q E s:=by
 obtain ⟨mA,O,r,_,_,_⟩:=qc I.ba e;have hn:mA m=none:=kg.none_of (by rw [<-l];exact r m);exact Hr I.pK O (c.get m) k.at_ k.fn hn h
theorem A9{y:V}{u:Value}{Q:Unit->Shared->Prop}(I:Inv X ζ σ H s)(e:H a=some (.ins C dx fs))(c:Dp X.K C)(n:ik X.K C f)(hl:fs.length<1000)(ry:aB y u)
  (h:∀s',Inv X ζ σ (upd H a (.ins C dx (jG f y fs))) s'->Q () s'):wpAny (model X.prog X.w) A (setAttr (.ref a) f u) Q E s:=by
 obtain ⟨mA,O,r,wi,_,ho⟩:=qc I.ba e;have hz:(fs.map (·.1)).length<=sizeLine:=by rw [aad,sizeLine_eq];omega
 refine Le I.pK O c.sa c.po n.QS c.hd wi hz λh' O' sb=>h _ ?_;have hd:∃o,h'.get? dx=some o:=let ⟨o,_,_,e',_⟩:=O'.ns;⟨o,e'⟩
 refine I.write (x:=a) (e:=dx) (by rw [e];exact True.intro) (.inr ho) (λb q hb z=>(sb.2 b hb).trans z) hd ?_;refine ⟨by rw [Θ O.ne];exact ho,?_,O.ne,O'.obj,_,O'.ns,λg=>?_,λg hg=>?_⟩
 ·have:=pC f y fs;omega
 ·show kg ((jG f y fs).lookup g) (if g=f then some u else mA g);rw [pB];by_cases q:g=f
  ·rw [if_pos q,if_pos q];exact ry
  ·rw [if_neg q,if_neg q];exact r g
 ·by_cases q:g=f
  ·rw [q];exact (oE f y fs).1
  ·refine (oE f y fs).2 g (wi g λz=>hg ?_);show (if g=f then some u else mA g)=none;rw [if_neg q];exact z
theorem Inv.made(I:Inv X ζ σ H s):Inv X ζ σ (upd (upd H s.heap.objs.size (.own (s.heap.objs.size+1))) (s.heap.objs.size+1) (.ins C s.heap.objs.size []))
  {s with heap:=(s.heap.push PySem.W.emptyDict).push (PySem.W.instObj C s.heap.objs.size)}:=by
 have e1:(s.heap.push PySem.W.emptyDict).get? s.heap.objs.size=some PySem.W.emptyDict:=Heap.get?_push_size s.heap rfl;have e2:((s.heap.push PySem.W.emptyDict).push (PySem.W.instObj C s.heap.objs.size)).get? (s.heap.objs.size+1)=some (PySem.W.instObj C s.heap.objs.size):=by have:=Heap.get?_push_size (s.heap.push PySem.W.emptyDict) (o:=PySem.W.instObj C s.heap.objs.size) rfl;rwa [Heap.size_push] at this
 have e3:(s.heap.push PySem.W.emptyDict).Ns s.heap.objs.size (λ_=>none):=⟨PySem.W.emptyDict, #[],_,e1,rfl,(λe he=>absurd he (by simp)),λ_=>rfl⟩;have I1:=I.laid (a:=s.heap.objs.size) (o:= .own (s.heap.objs.size+1)) (h':=s.heap.push PySem.W.emptyDict) (t':=s.toks) (λb u q=>Heap.get?_push_of_some _ q) (aah _) ⟨_,e1⟩;refine I1.laid (a:=s.heap.objs.size+1) (o:= .ins C s.heap.objs.size []) (t':=s.toks) (λb u q=>Heap.get?_push_of_some _ q) (Nat.le_of_eq (Heap.size_push _ _)) ?_;have ne:s.heap.objs.size≠s.heap.objs.size+1:=aaE (aa8 _);refine ⟨by rw [Θ ne,Ω],abK _,ne,e2,λ_=>none,(Heap.Ns1.of_empty e3).at λo q=>Heap.get?_push_of_some _ q,λ_=>True.intro,λy hy=>absurd rfl hy⟩
theorem Mm{prog:Program}{w:World}{env:Env}{e:Expr}{f:Str}{pos:Pos}{s:Shared}{Q:Value->Shared->Prop}(hb:attributeBase e f env (eval e env)=eval e env)
  (h:wpAny (model prog w) A (eval e env) (λo s₁=>wpAny (model prog w) A (getAttr o f true) Q E s₁) E s):wpAny (model prog w) A (eval (.Attribute e f pos) env) Q E s:=
 Attribute_any_ h (by rw [arm_eval_Attribute,hb])
end
def Yr(K:PySem.W.Frag)(ta:TE)(f:Str):TE:=λσ H Q=>ta σ H λx H1=>∃a C dx fs v,x= .ref a/\H1 a=some (.ins C dx fs)/\Dp K C/\ik K C f/\fs.lookup f=some v/\Q v H1
def XB(K:PySem.W.Frag)(ta tv:TE)(f:Str):TS:=λD σ H=>tv σ H λy H1=>ta σ H1 λx H2=>∃a C dx fs,x= .ref a/\H2 a=some (.ins C dx fs)/\Dp K C/\ik K C f/\fs.length<1000/\
 D.nx σ (upd H2 a (.ins C dx (jG f y fs)))
section
variable{X:Cx}{o e value:Expr}{f:Str}{pos pos' tV:Pos}{ta tv:TE}
theorem N1(he:PE X e ta)(hb:attributeBase e f X.env (eval e X.env)=eval e X.env):PE X (.Attribute e f pos) (Yr X.K ta f):=by intro ζ s σ H Q I h;refine Mm hb (bC (he ζ s σ H _ I h) λu s1 ⟨x,H1,I1,rx,a,C,dx,fs,v,ex,ea,c,n,l,q⟩=>?_);subst ex;obtain rfl:u=Value.ref a:=rx;exact BX I1 ea c n l λu' s2 I2 ru=>⟨v,H1,I2,ru,q⟩
theorem Pa(ha:PE X o ta)(hv:PE X value tv)(hs:swapsWith value (some (.Attribute o f pos')) pos.line X.env=pure false):PS X (.Assign [.Attribute o f pos'] value pos) (XB X.K ta tv f):=by intro ζ s σ H D I h;refine plainObj_wpAny_Assign_Attribute (bC (hv ζ s σ H _ I h) λu s1 ⟨y,H1,I1,ry,q⟩=>bC (ha ζ s1 σ H1 _ I1 q) λov s2 ⟨x,H2,I2,rx,a,C,dx,fs,ex,ea,c,n,l,q2⟩=>?_) hs;subst ex;obtain rfl:ov=Value.ref a:=rx;exact A9 I2 ea c n l ry λs3 I3=>⟨σ,_,I3,q2⟩
end
section
variable{X:Cx}{ζ:List (Addr×Obj)}{σ:St}{H:Hp}{s:Shared}{A:Around}{E:Value->Shared->Prop}{Q:Value->Shared->Prop}{c:Value}{b:Bool}
inductive kT(K:PySem.W.Frag)(H:Hp):V->Value->Prop where
 |bq:kT K H .bq (.type "NoneType")
 |bl (x:Bool):kT K H (.bl x) (.type "bool")
 |int (i:Int):kT K H (.int i) (.type "int")
 |str (x:Str):kT K H (.str x) (.type "str")
 |P5 (x:UInt64):kT K H (.P5 x) (.type "float")
 |lst {a:Addr} {xs:List V} (e:H a=some (.lst xs)):kT K H (.ref a) (.type "list")
 |xX {a:Addr} {o:Obj} {xs:List V} (e:H a=some (.xX o (.lst xs))):kT K H (.ref a) (.type "list")
 |tup {a:Addr} {xs:List V} (e:H a=some (.tup xs)):kT K H (.ref a) (.type "tuple")
 |dK {a:Addr} {Ο:List (Key×V)} (e:H a=some (.dK Ο)):kT K H (.ref a) (.type "dict")
 |dT {a:Addr} {Ο:List (List Key×V)} (e:H a=some (.dT Ο)):kT K H (.ref a) (.type "dict")
 | ins {a C dx:Addr} {fs:List (Str×V)} (e:H a=some (.ins C dx fs)) (cl:Dp K C) (ha:PySem.W.findIn K (.ref C) "__class__"=some (some (.builtin "object.__class__")))
   (hn:PySem.W.specialIn K (.builtin "object.__class__") "__get__"=some (some (.builtin "getset_descriptor.__get__"))) (ZP:PySem.W.takesIn K (.builtin "object.__class__")=some true)
   (hm:PySem.W.mroIn K C (.type "object")=some true):kT K H (.ref a) (.ref C)
theorem FR{x:V}{u t:Value}(I:Inv X ζ σ H s)(rx:aB x u)(ty:kT X.K H x t)(e:PySem.W.kitOne X.K t c=some b)(h:∀tk,Q (.bool b) {s with toks:=tk}):
  wpAny (model X.prog X.w) A (call (.builtin "isinstance") [u,c]) Q E s:=by
 cases ty with
 |bq=>cases (show u=Value.none from rx);exact PySem.W.kia_one PySem.W.kitx_none I.pK True.intro e (λz=>nomatch z) h
 |bl y=>cases (show u=Value.bool y from rx);exact PySem.W.kia_one PySem.W.kitx_bool I.pK True.intro e (λz=>nomatch z) h
 |int i=>obtain ⟨t,q⟩:=(show∃t,u=Value.int i t from rx);cases q;exact PySem.W.kia_one PySem.W.kitx_int I.pK True.intro e (λz=>nomatch z) h
 |str y=>obtain ⟨t,q⟩:=(show∃t,u=Value.str y t from rx);cases q;exact PySem.W.kia_one PySem.W.kitx_str I.pK True.intro e (λz=>nomatch z) h
 |P5 y=>obtain ⟨t,q⟩:=(show∃t,u=Value.float y t from rx);cases q;exact PySem.W.kia_one PySem.W.kitx_float I.pK True.intro e (λz=>nomatch z) h
 |@lst a xs ea=>
  cases (show u=Value.ref a from rx);obtain ⟨_,_,n,_,h1⟩:=(show bT X.prog X.w H s.heap a (.lst xs) from I.ba a _ ea);exact PySem.W.kia_one PySem.W.kitx_list I.pK ⟨_,h1,rfl⟩ e (λz=>nomatch z) h
 |@xX a ob xs ea=>
  cases (show u=Value.ref a from rx);obtain ⟨_,_,_,n,_,h1⟩:=(show bT X.prog X.w H s.heap a (.xX ob (.lst xs)) from I.ba a _ ea);exact PySem.W.kia_one PySem.W.kitx_list I.pK ⟨_,h1,rfl⟩ e (λz=>nomatch z) h
 |@tup a xs ea=>
  cases (show u=Value.ref a from rx);obtain ⟨_,_,_,p⟩:=(show bT X.prog X.w H s.heap a (.tup xs) from I.ba a _ ea);obtain ⟨o,h1,h2,_⟩:=p;exact PySem.W.kia_one PySem.W.kitx_tuple I.pK ⟨o,h1,h2⟩ e (λz=>nomatch z) h
 |@dK a Ο ea=>
  cases (show u=Value.ref a from rx);obtain ⟨_,_,vs,_,p⟩:=(show bT X.prog X.w H s.heap a (.dK Ο) from I.ba a _ ea);obtain ⟨o,es,ep,h1,h2,_⟩:=p;exact PySem.W.kia_one PySem.W.kitx_dict I.pK ⟨o,h1,h2.1⟩ e (λz=>nomatch z) h
 |@dT a Ο ea=>
  cases (show u=Value.ref a from rx);obtain ⟨_,_,xs,_,o,es,ep,h1,h2,_⟩:=(show bT X.prog X.w H s.heap a (.dT Ο) from I.ba a _ ea);exact PySem.W.kia_one PySem.W.kitx_dict I.pK ⟨o,h1,h2.1⟩ e (λz=>nomatch z) h
 |@ins a C dx fs ea cl ha hn ZP hm=>
  cases (show u=Value.ref a from rx);obtain ⟨mA,O,_⟩:=qc I.ba ea;obtain ⟨od,J,_⟩:=O.look;exact PySem.W.kia_one (PySem.W.kitx_own (cl.get _) cl.hd ha hn ZP hm) I.pK J e (λz=>nomatch z) h
end
structure bM(k:Nat)(A:Around):Prop where
 hd:A.handled=none
 dp:A.depth+3*k+5<recursionLimit
 un:A.units+16*k+200<cLine
theorem bM.mono{j k:Nat}{A:Around}(r:bM k A)(h:j<=k):bM j A:=⟨r.hd,by have:=r.dp;omega,by have:=r.un;omega⟩
theorem bM.deeper{k:Nat}{A:Around}(r:bM (k+1) A)(env:Env):bM k (A.deeper env):=
 ⟨r.hd,by have:=r.dp;show A.depth+1+3*k+5<_;omega,by have:=r.un;show A.units+3+16*k+200<_;omega⟩
theorem AF{A:Around}{C:Addr}{us:List Value}{kw:List (Str×Value)}:(A.under (.builtin "type.__call__" ⟨.ref C::us,kw⟩)).depth=A.depth+1:=by
 first|rfl|simp [Around.under,Code.weight,Code.isCreation,Code.isGuard,Code.isCaller,Code.frames,Code.isFrame,guardIds]
theorem AD{A:Around}{C:Addr}{us:List Value}{kw:List (Str×Value)}:(A.under (.builtin "type.__call__" ⟨.ref C::us,kw⟩)).units=A.units+1:=by
 first|rfl|simp [Around.under,Code.cUnits,Code.frames,Code.isFrame]
theorem bM.make{k:Nat}{A:Around}(r:bM (k+1) A)(C:Addr)(us:List Value)(kw:List (Str×Value)):bM k (A.under (.builtin "type.__call__" ⟨.ref C::us,kw⟩)):=
 ⟨r.hd,by have:=r.dp;rw [AF];omega,by have:=r.un;rw [AD];omega⟩
theorem bM.depth{k:Nat}{A:Around}(r:bM k A):A.depth<recursionLimit:=by have:=r.dp;omega
theorem bM.units{k:Nat}{A:Around}(r:bM k A):A.units+64<cLine:=by have:=r.un;omega
theorem bM.Cp{k:Nat}{A:Around}(r:bM k A):A.units<cLine:=by have:=r.un;omega
def T8:TA:=λ_ H Q=>Q [] H
def SG(ta:TE)(tr:TA):TA:=λσ H Q=>ta σ H λx H1=>tr σ H1 λxs H2=>Q (x::xs) H2
section
variable{X:Cx}{e:Expr}{es:List Expr}{te:TE}{t:TA}{pos:Pos}
theorem NV:PA X [] T8:=λ_ _ _ _ H Q I h=>Calls.spliced_nil ⟨[],H,I,.nil,h⟩
theorem LL(ha:PE X e te)(hr:PA X es t)(hs:starEach (e::es) X.env=(false,eval e X.env)::starEach es X.env:=by rfl):PA X (e::es) (SG te t):=by intro pos ζ s σ H Q I h;rw [hs];show wpAny _ _ (spliced ((false,eval e X.env)::backTo pos (starEach es X.env))) _ _ s;refine Calls.spliced_cons (bC (ha ζ s σ H _ I h) λu s1 ⟨x,H1,I1,r1,q1⟩=>?_);exact bC (hr pos ζ s1 σ H1 _ I1 q1) λus s2 ⟨xs,H2,I2,r2,q2⟩=>⟨x::xs,H2,I2,.cons r1 r2,q2⟩
def X'(t:TA):TE:=λσ H Q=>t σ H λxs H1=>xs.length<=sizeLine/\∀p,H1 p=none->Q (.ref p) (upd H1 p (.tup xs))
def U9(t:TA):TE:=λσ H Q=>t σ H λxs H1=>xs.length<=sizeLine/\∀p,H1 p=none->Q (.ref p) (upd H1 p (.lst xs))
theorem Pb{x1}(h:PA X es t):PE X (.Tuple es x1 pos) (X' t):=by intro ζ s σ H Q I hq;refine wpAny_Tuple_spliced (bC (h pos ζ s σ H _ I hq) λus s1 ⟨xs,H1,I1,r,z,q⟩=>⟨by rw [<-r.length];exact z,?_⟩);have hf:H1 s1.heap.objs.size=none:=I1.ba.fresh (aah _);refine ⟨.ref s1.heap.objs.size,upd H1 s1.heap.objs.size (.tup xs),I1.laid (t':=s1.toks) (λb u e=>Heap.get?_push_of_some _ e) (aah _) ?_,rfl,q _ hf⟩;exact ⟨z,us,r,⟨_,Heap.get?_push_size _ rfl,rfl,_,rfl⟩⟩
theorem Ha(h:PA X es t):PE X (.List es pos) (U9 t):=by intro ζ s σ H Q I hq;refine wpAny_List_spliced (bC (h pos ζ s σ H _ I hq) λus s1 ⟨xs,H1,I1,r,z,q⟩=>⟨by rw [<-r.length];exact z,?_⟩);have hf:H1 s1.heap.objs.size=none:=I1.ba.fresh (aah _);refine ⟨.ref s1.heap.objs.size,upd H1 s1.heap.objs.size (.lst xs),I1.laid (t':=s1.toks) (λb u e=>Heap.get?_push_of_some _ e) (aah _) ?_,rfl,q _ hf⟩;exact ⟨z,us,0,r,Heap.get?_push_size _ rfl⟩
end
abbrev Sp:=List V->Hp->VK->XK->Prop
abbrev AA:=List Env->Hp->Shared->XK->Value->Shared->Prop
structure BO(P:Program)(w:World)(K:PySem.W.Frag)(mg:Str->Option Value)(base:Heap)(A:Around)(outer:List Env)(s:Shared)(H:Hp):Prop where
 frames:A.frames=some outer
 mod:Mod K mg base
 bs:∀b o,base.get? b=some o->s.heap.get? b=some o/\H b=none
 lx:base.objs.size<=s.heap.objs.size
 tJ:s.heap.FunFrames base outer
 Se:∀b∈pQ outer,H b=none
 ba:kW P w H s.heap
 bare:AllBare s.gens
def CE(outer:List Env)(P:Program)(w:World)(H:Hp)(s:Shared)(Q:VK)(u:Value)(s':Shared):Prop:=
 ∃v H',s'.os=s.os/\AllBare s'.gens/\Un (pQ outer) [] H H' s.heap s'.heap/\kW P w H' s'.heap/\aB v u/\Q v H'
def CR(CX:AA)(outer:List Env)(P:Program)(w:World)(H:Hp)(s:Shared)(Q:VK)(E:XK)(r:Result)(s':Shared):Prop:=
 match r with
 |.ok (.ret u)=>CE outer P w H s Q u s'
 |.ok _=>False
 |.error e=>CX outer H s E e s'
structure aq(P:Program)(w:World)(K:PySem.W.Frag)(mg:Str->Option Value)(base:Heap)(CX:AA)(k:Nat)(f:Addr)(fd:FuncData)(ps:List Str)(sp:Sp):Prop where
 len:∀vs H Q E,sp vs H Q E->vs.length=ps.length
 run:∀(A:Around) (outer:List Env) (s:Shared) (H:Hp) (args:Args) (us:List Value) (vs:List V) (Q:VK) (E:XK),bM k A->BO P w K mg base A outer s H->BindsTo s fd args (ps.zip us)->ay vs us->sp vs H Q E->
  codeAny (model P w) A (.call (.ref f) args) (CR CX outer P w H s Q E) s
theorem BO.make{P:Program}{w:World}{K:PySem.W.Frag}{mg:Str->Option Value}{base:Heap}{A:Around}{outer:List Env}{s:Shared}{H:Hp}(e:BO P w K mg base A outer s H)(C:Addr)(us:List Value)(kw:List (Str×Value)):
  BO P w K mg base (A.under (.builtin "type.__call__" ⟨.ref C::us,kw⟩)) outer s H:=⟨by first|exact e.frames|(simpa [Around.under,Code.envs,Code.isFrame,pushEnvs] using e.frames),e.mod,e.bs,e.lx,e.tJ,e.Se,e.ba,e.bare⟩
section
variable{X:Cx}{ζ:List (Addr×Obj)}{σ:St}{H:Hp}{s s':Shared}
theorem Inv.Rg(I:Inv X ζ σ H s):BO X.prog X.w X.K X.mg X.base X.A X.stack s H:=
 ⟨I.ok.frames,I.ok.mod,I.bs,aaq I.ok.lx I.sz,I.stack,I.wX,I.ba,I.bare⟩
theorem Inv.after{Q:VK}{u:Value}(I:Inv X ζ σ H s)(h:CE X.stack X.prog X.w H s Q u s'):EP X ζ σ Q u s':=by obtain ⟨v,H',os,bare,un,ba,r,q⟩:=h;obtain ⟨hh,g,d,t,UH⟩:=s';obtain rfl:UH=s.os:=os;exact ⟨v,H',I.call (h':=hh) (g':=g) (d':=d) (t':=t) (ch:=[]) un ba bare (λb z=>absurd z (by simp)),r,q⟩
end
def h7(K:PySem.W.Frag)(fd:FuncData)(ps:List Str)(ds:List Value):Prop:=
 ∀(s:Shared) (us:List Value),K.In s.heap->(us++ds).length=ps.length->BindsTo s fd ⟨us,[]⟩ (ps.zip (us++ds))
theorem h7.all{K:PySem.W.Frag}{fd:FuncData}{ps:List Str}(h:∀us:List Value,us.length=ps.length->bindArgs fd ⟨us,[]⟩=pure (ps.zip us)):h7 K fd ps []:=λs us _ hl=>by rw [aaV] at hl⊢;exact .of_eq (h us hl)
section
variable{X:Cx}{CX:AA}{k:Nat}{f C:Addr}{fd:FuncData}{ps:List Str}{sp:Sp}{nF:List V}{ds:List Value}{E:XK}{x m:Str}{p pos apos:Pos}{e o:Expr}{es:List Expr}{ta:TE}{t:TA}
structure Mk(K:PySem.W.Frag)(C f:Addr):Prop where
 makes:PySem.W.makesIn K C=true
 init:PySem.W.findIn K (.ref C) "__init__"=some (some (.ref f))
 fn:PySem.W.isFn K (.ref f)=true
 kp:PySem.W.keepIn K (.ref C)=true
end
structure Ε(N P:List Str)(sc:Scope):Prop where
 kind:sc.kind= .function
 co:sc.isCoroutine=false
 gen:sc.isGenerator=false
 nd:N.Nodup
 pre:N.take P.length=P
 par:∀x∈P,sc.names.lookup x=some .local\/sc.names.lookup x=some .cell
 N4:∀y∈sc.names,y.2≠ .free
theorem vg{kindOf:Str->Option NameKind}{x:Str}:∀{binds:List (Str×Value)}{m:Str->Option Value},(∀v,(x,v)∉binds)->bindL kindOf binds m x=m x
 |[],_,_=>rfl
 |(n,v)::r,m,h=>by
  unfold bindL;rw [vg λw hw=>h w (aac _ hw)];split
  ·have:x≠n:=by rintro rfl;exact h v aae
   simp [this]
  ·rfl
theorem ur{kindOf:Str->Option NameKind}{x:Str}:∀{binds:List (Str×Value)}{m:Str->Option Value},(∀v,(x,v)∉binds)->bindC kindOf binds m x=m x
 |[],_,_=>rfl
 |(n,v)::r,m,h=>by
  unfold bindC;rw [ur λw hw=>h w (aac _ hw)];split
  ·rfl
  ·have:x≠n:=by rintro rfl;exact h v aae
   simp [this]
theorem uh{kindOf:Str->Option NameKind}{x:Str}{v:Value}:∀{P:List Str}{vs:List Value}{i:Nat}{m:Str->Option Value},P.Nodup->P[i]? =some x->vs[i]? =some v->kindOf x=some .local->
  bindL kindOf (P.zip vs) m x=some v
 |[],_,_,_,_,h,_,_=>by simp at h
 |_::_,[],_,_,_,_,h,_=>by simp at h
 |p::P,w::vs,0,m,nd,h1,h2,hk=>by simp at h1 h2;subst h1;subst h2;show bindL kindOf ((p,w)::P.zip vs) m p=_;unfold bindL;rw [vg λv hv=>(abu.mp nd).1 (abk hv).1,if_pos hk];simp
 |p::P,w::vs,i+1,m,nd,h1,h2,hk=>by show bindL kindOf ((p,w)::P.zip vs) m x=_;unfold bindL;exact uh (i:=i) (List.nodup_cons.mp nd).2 (by simpa using h1) (by simpa using h2) hk
theorem vi{kindOf:Str->Option NameKind}{x:Str}{v:Value}:∀{P:List Str}{vs:List Value}{i:Nat}{m:Str->Option Value},P.Nodup->P[i]? =some x->vs[i]? =some v->kindOf x≠some .local->
  bindC kindOf (P.zip vs) m x=some v
 |[],_,_,_,_,h,_,_=>by simp at h
 |_::_,[],_,_,_,_,h,_=>by simp at h
 |p::P,w::vs,0,m,nd,h1,h2,hk=>by simp at h1 h2;subst h1;subst h2;show bindC kindOf ((p,w)::P.zip vs) m p=_;unfold bindC;rw [ur λv hv=>(abu.mp nd).1 (abk hv).1,if_neg hk];simp
 |p::P,w::vs,i+1,m,nd,h1,h2,hk=>by show bindC kindOf ((p,w)::P.zip vs) m x=_;unfold bindC;exact vi (i:=i) (List.nodup_cons.mp nd).2 (by simpa using h1) (by simpa using h2) hk
def start(N:List Str)(vs:List V):St:=vs.map some++List.replicate (N.length-vs.length) none
def tL(CX:AA)(P:Program)(w:World)(K:PySem.W.Frag)(mg:Str->Option Value)(base:Heap)(N:List Str)(qual:Str)(scope:Scope)(f:Addr)(cd:Value)(A:Around)(outer:List Env)(s:Shared)(H:Hp)(E:XK):Cx where
 prog:=P
 w:=w
 K:=K
 mg:=mg
 base:=base
 A:=A.deeper (envOfC qual scope s.heap.objs.size f cd)
 N:=N
 s₀:=s
 H₀:=H
 env:=envOfC qual scope s.heap.objs.size f cd
 outer:=outer
 stack:=envOfC qual scope s.heap.objs.size f cd::outer
 ex:=[]
 calm:=true
 fn:=λ_=>true
 pn:=[]
 xe:=λe s'=>wpAny (model P w) (A.deeper (envOfC qual scope s.heap.objs.size f cd)) (leaving (envOfC qual scope s.heap.objs.size f cd) e) (λ_ Xh=>CX outer H s E e Xh) (λe' Xh=>CX outer H s E e' Xh) s'
theorem yS{sc:Scope}{n:Nat}{x:Str}(h:sc.names.lookup x=some .cell):∃c,(cellsFrom n sc.names []).lookup x=some c:=by have q:=PySem.W.cellsFrom_some sc.names n [] (.inl h);exact abo.mp q
theorem FY{CX:AA}{P:Program}{w:World}{K:PySem.W.Frag}{mg:Str->Option Value}{base:Heap}{N ps:List Str}{qual:Str}{scope:Scope}{f:Addr}{cd:Value}{A:Around}{outer:List Env}{s s1:Shared}{H:Hp}{E:XK}{us:List Value}{vs:List V}
  (S:Ε N ps scope) (hd:A.handled=none) (e0:BO P w K mg base A outer s H) (hl:vs.length=ps.length) (r:ay vs us)
  (x:InCallC s s.heap.objs.size (bindL (envOfC qual scope s.heap.objs.size f cd).kindOf (ps.zip us) λ_=>none) (cellsFrom (s.heap.objs.size+1) scope.names []) (bindC (envOfC qual scope s.heap.objs.size f cd).kindOf (ps.zip us) λ_=>none) s1):
  Inv (tL CX P w K mg base N qual scope f cd A outer s H E) [] (start N vs) H s1:=by
 have fJ:ps.length<=N.length:=by have:=congrArg List.length S.pre;rw [abT] at this;omega
 obtain ⟨h1,tk,rfl,hk⟩:=x.done;have RD:∀b:Addr,b∉(tL CX P w K mg base N qual scope f cd A outer s H E).ex:=λb z=>absurd (show b∈([]:List Addr) from z) (by simp)
 refine ⟨⟨e0.mod,S.kind,rfl,rfl,aah _,λy z c h1 h2=>?_,λy hy=>?_,λy c _ h=>?_,λ_=>hd,Around.frames_deeper e0.frames,.inr ⟨rfl,rfl⟩,λb z=>absurd z (RD b),e0.bs,e0.lx,λb _ _=>RD b,λb z=>absurd z (RD b),e0.tJ,e0.Se⟩,
  rfl,e0.bare,Un.kept hk,⟨_,x.toInCall.ns,λi y v h1 h2 h3=>?_⟩,λy c h=>⟨_,x.cell y c h⟩,e0.ba.fresh (Nat.le_refl _),λy c h=>?_,λp hp=>absurd (show p∈([]:List (Addr×Obj)) from hp) (by simp),e0.ba.kept hk,?_⟩
 ·exact name_of_addr x.apart (PySem.mem_of_lookup h1) (PySem.mem_of_lookup h2)
 ·have hy:scope.names.lookup y=some .cell\/scope.names.lookup y=some .free:=hy;rcases hy with hy|hy
  ·exact yS hy
  ·exact absurd rfl (S.N4 _ (PySem.mem_of_lookup hy))
 ·exact Nat.le_of_lt (x.above y c (PySem.mem_of_lookup h))
 ·have hi:i<vs.length:=by
   unfold start at h2;by_cases hi:i<vs.length
   ·exact hi
   ·rw [List.getElem?_append_right (by simpa using hi)] at h2;rw [abG] at h2;split at h2 <;> cases h2
  have ha:vs[i]? =some v:=by
   unfold start at h2;rw [List.getElem?_append_left (by simpa using hi),List.getElem?_map] at h2;cases e:vs[i]? with
   |none=>rw [e] at h2;cases h2
   |some a=>rw [e] at h2;cases h2;rfl
  obtain ⟨u,hu,rv⟩:=r.get ha;have hp:ps[i]? =some y:=by rw [<-S.pre,abX (by omega)];exact h1
  have Ze:ps.Nodup:=by rw [<-S.pre];exact S.nd.sublist (List.take_sublist _ _)
  refine ⟨u,rv,?_⟩;rcases S.par y (aak hp) with k|k
  ·exact .inl ⟨k,uh Ze hp hu k⟩
  ·obtain ⟨c,e⟩:=yS (n:=s.heap.objs.size+1) k;refine .inr ⟨.inl k,c,e,?_⟩;have q:=x.cell y c e;rw [vi Ze hp hu (by show scope.names.lookup y≠_;rw [k];decide)] at q;exact q
 ·exact e0.ba.fresh (Nat.le_of_lt (x.above y c (PySem.mem_of_lookup h)))
 ·unfold start;show _=N.length;rw [aag,aad,aaQ];omega
theorem Nv{CX:AA}{P:Program}{w:World}{K:PySem.W.Frag}{mg:Str->Option Value}{base:Heap}{k:Nat}{f:Addr}{name qual:Str}{params:Arguments}{body:List Stmt}{scope:Scope}{dV kV doc pm aV ct oc:Value}{an od:Option Addr}
  {Aw:Array (Option Value)} {N ps:List Str} {sp:Sp} (lk:K.lookup f=some ⟨oc,od,.func (PySem.W.fnOf name qual params body scope dV kV doc pm an aV ct),Aw⟩) (C2:PySem.W.codeIn K aV qual=true) (S:Ε N ps scope)
  (len:∀vs H Q E,sp vs H Q E->vs.length=ps.length)
  (rF:∀(A:Around) (outer:List Env) (s:Shared) (H:Hp) (vs:List V) (Q:VK) (E:XK),bM k (A.deeper (envOfC qual scope s.heap.objs.size f aV))->sp vs H Q E->
   ∃t,Gx (tL CX P w K mg base N qual scope f aV A outer s H E) body t/\t {nx:=λ_ H'=>Q .bq H',rt:=Q} (start N vs) H):
  aq P w K mg base CX (k+1) f (PySem.W.fnOf name qual params body scope dV kV doc pm an aV ct) ps sp:=by
 refine ⟨len,λA outer s H args us vs Q E hr e0 hb r NK=>?_⟩;have hl:=len _ _ _ _ NK;have KX:K.In s.heap:=e0.mod.RM.keeps λb o e=>(e0.bs b o e).1;have lim:s.heap.NoLimit:=e0.mod.nolimit.keeps λb o e=>(e0.bs b o e).1;have HI:∀y∈ps.zip us,scope.names.lookup y.1=some .local\/(scope.names.lookup y.1=some .cell/\((cellsFrom (s.heap.objs.size+1) scope.names []).lookup y.1).isSome=true):=λ⟨n,v⟩ hy=>by
  rcases S.par n (abk hy).1 with q|q
  ·exact .inl q
  ·exact .inr ⟨q,PySem.W.cellsFrom_some _ _ _ (.inl q)⟩
 refine codeAny_call_function hr.depth (KX _ _ lk) rfl S.co S.gen rfl (PySem.W.codeRec_of KX C2) (hb _ _ _ _ ?_);refine wpAny_newFunctionEnv_cells S.kind HI λenv he s1 x=>?_;subst he;refine ⟨lim.keeps x.toInCall.keep,codeAny_func ?_⟩;obtain ⟨t,ht,hq⟩:=rF A outer s H vs Q E (hr.deeper _) NK;have I:Inv (tL CX P w K mg base N qual scope f aV A outer s H E) [] (start N vs) H s1:=FY S hr.hd e0 hl r x;refine wpAny_mono (ht [] s1 (start N vs) H _ I hq) (λfl s' hs=>?_) λe s' hs=>hs
 have fin:∀{σ':St} {H':Hp} {v:V} {u:Value},Inv (tL CX P w K mg base N qual scope f aV A outer s H E) [] σ' H' s'->aB v u->Q v H'->CE outer P w H s Q u s':=
  λ{σ' H' v u} J rv q=>⟨v,H',J.os,J.bare,J.base,J.ba,rv,q⟩
 cases fl with
 |ret u=>
  obtain ⟨v,σ',H',J,rv,q⟩:=hs;exact fin J rv q
 |next=>
  obtain ⟨σ',H',J,q⟩:=hs;exact fin (v:=V.bq) (u:=Value.none) J rfl q
 |brk=>
  obtain ⟨_,_,_,q⟩:=hs;exact False.elim q
 |cont=>
  obtain ⟨_,_,_,q⟩:=hs;exact False.elim q
section
variable{X:Cx}{x:Str}{p pos:Pos}{e:Expr}{es:List Expr}{t:TA}{id T:String}{r:List V->Hp->VK->Prop}
def X6(r:List V->Hp->VK->Prop)(t:TA):TE:=λσ H Q=>t σ H λvs H1=>r vs H1 Q
theorem HK(hc:c8 X (.builtin id) r)(hg:Gl X x)(hm:X.mg x=none)(hv:bootBuiltins x=some (.builtin id))(ha:PA X (e::es) t)(hn:x≠"__name__":=by decide)(tS:(x==("__debug__":Str))=false:=by decide)
  (he:starEach (e::es) X.env=(false,eval e X.env)::starEach es X.env:=by rfl) (fJ:(backTo pos (starEach es X.env)).any (·.1)=false:=by rfl):PE X (.Call (.Name x p) (e::es) [] pos) (X6 r t):=by
 intro ζ s σ H Q I h;refine wpAny_Call_Name_kw (mq I hg hm hv ?_ hn tS);exact PyProof.Rows.callWith_builtin1 (bC (ha pos ζ s σ H _ I h) λus s1 ⟨vs,H1,I1,r1,q1⟩=>hc ζ s1 σ H1 vs us Q I1 r1 q1) he fJ
theorem EF(hc:c8 X (.type T) r)(hg:Gl X x)(hm:X.mg x=none)(hv:bootBuiltins x=some (.type T))(ha:PA X (e::es) t)(hn:x≠"__name__":=by decide)(tS:(x==("__debug__":Str))=false:=by decide)
  (he:starEach (e::es) X.env=(false,eval e X.env)::starEach es X.env:=by rfl) (fJ:(backTo pos (starEach es X.env)).any (·.1)=false:=by rfl):PE X (.Call (.Name x p) (e::es) [] pos) (X6 r t):=by
 intro ζ s σ H Q I h;refine wpAny_Call_Name_kw (mq I hg hm hv ?_ hn tS);exact PyProof.Rows.callWith_type1 (bC (ha pos ζ s σ H _ I h) λus s1 ⟨vs,H1,I1,r1,q1⟩=>hc ζ s1 σ H1 vs us Q I1 r1 q1) he fJ
end
end L2
namespace HT
open PySem PyProof.Rows
section
variable{prog:Program}{w:World}{A:Around}{E:Value->Shared->Prop}{s:Shared}
theorem Li{t b:Addr}{vs ws:List Value}{Q:Value->Shared->Prop}(ht:IsTup s.heap t vs.toArray)(hb:IsTup s.heap b ws.toArray)(hv:vs≠[])
  (h1:ws=[]->Q (.ref t) s) (h2:ws≠[]->Q (.ref s.heap.objs.size) {s with heap:=s.heap.push {cls:= .type "tuple",data:= .seq (vs++ws).toArray}})
  (hsz:vs.length+ws.length<=sizeLine):wpAny (model prog w) A (binaryOp .Add (.ref t) (.ref b)) Q E s:=by
 obtain ⟨⟨cls,dd,data,sl⟩,ho,hc,n,hd⟩:=id ht;obtain ⟨⟨aet,Ut,data2,UI⟩,Ul,Zc,n2,hd2⟩:=id hb;simp only at hc hd Zc hd2;subst hc hd Zc hd2;have e:vs.toArray++ws.toArray=(vs++ws).toArray:=by simp
 by_cases hw:ws=[]
 ·exact concat_meets ⟨_,ho,rfl⟩ ⟨_,Ul,rfl⟩ noFill_tuple_add seq_tuple_add PySem.F.slot_tuple_add PySem.F.entry_tuple_add (PySem.F.args_tuple_add_2 _ _)
   (tuple_addW1 t b vs.toArray ws.toArray n n2 dd Ut sl UI (by simpa using hv) (by simp [hw])) ⟨ho,Ul,h1 hw⟩
 ·refine concat_meets ⟨_,ho,rfl⟩ ⟨_,Ul,rfl⟩ noFill_tuple_add seq_tuple_add PySem.F.slot_tuple_add PySem.F.entry_tuple_add (PySem.F.args_tuple_add_2 _ _)
   (tuple_addW2 t b vs.toArray ws.toArray n n2 dd Ut sl UI (by simpa using hv) (by simpa using hw) (by rw [List.size_toArray,List.size_toArray];exact hsz)) ⟨ho,Ul,?_⟩
  rw [e];exact h2 hw
def Ap(n d:Nat):Option Int->Nat
 |none=>d
 |some v=>if v<0 then (v+(n:Int)).toNat else min v.toNat n
theorem zI(n d:Nat):Ap n d none=d:=rfl
theorem p_(n d k:Nat):Ap n d (some (k:Int))=min k n:=by show (if (k:Int)<0 then ((k:Int)+(n:Int)).toNat else min (k:Int).toNat n)=min k n;rw [if_neg (by omega),abt]
end
end HT
namespace L2
open PySem PySem.Spec PyProof.Rows
abbrev TO:=St->Hp->(Option Int->Hp->Prop)->Prop
def PO(X:Cx)(e:Option Expr)(t:TO):Prop:=
 ∀(ζ:List (Addr×Obj)) (s:Shared) (σ:St) (H:Hp) (Q:Option Int->Hp->Prop),Inv X ζ σ H s->t σ H Q->
  wpAny (model X.prog X.w) X.A (evalPart e X.env) (λu s'=>∃o H',Inv X ζ σ H' s'/\IsPart u o/\Q o H') X.xe s
def KW:TO:=λ_ H Q=>Q none H
def Sf(t:TE):TO:=λσ H Q=>t σ H λx H1=>∃i,x= .int i/\Q (some i) H1
section
variable{X:Cx}{e:Expr}{te:TE}{lo hi:Option Expr}{tl th:TO}{pos p2:Pos}
theorem DZ:PO X none KW:=by intro ζ s σ H Q I h;rw [evalPart_none];exact wpAny_pure ⟨none,H,I,.none,h⟩
theorem kQ(h:PE X e te):PO X (some e) (Sf te):=by intro ζ s σ H Q I hw;rw [evalPart_some];refine bC (h ζ s σ H _ I hw) λu s1 ⟨x,H1,I1,r1,q1⟩=>?_;obtain ⟨i,rfl,q⟩:=q1;obtain ⟨t,rfl⟩:=r1;exact ⟨some i,H1,I1,.int i t,q⟩
def Zx(X:Cx)(r:V->Option Int->Option Int->Hp->VK->Prop):Prop:=
 ∀(ζ:List (Addr×Obj)) (s:Shared) (σ:St) (H:Hp) (x:V) (v vl vu:Value) (lo hi:Option Int) (sl:Addr) (Q:VK),Inv X ζ σ H s->aB x v->s.heap.IsSliceOf sl vl vu .none->IsPart vl lo->IsPart vu hi->r x lo hi H Q->
  ∃T id,typeLookup (.type T) "__getitem__"=pure (some (.builtin id))/\s.TypeIs v T/\wpAny (model X.prog X.w) X.A (getItem v (.ref sl)) (EP X ζ σ Q) X.xe s
def tSl(r:V->Option Int->Option Int->Hp->VK->Prop)(te:TE)(tl th:TO):TE:=λσ H Q=>te σ H λx H1=>tl σ H1 λl H2=>th σ H2 λu H3=>r x l u H3 Q
theorem qJ{r:V->Option Int->Option Int->Hp->VK->Prop}(hr:Zx X r)(he:PE X e te)(hl:PO X lo tl)(hu:PO X hi th):PE X (.Subscript e (.Slice lo hi none p2) pos) (tSl r te tl th):=by intro ζ s σ H Q I h;refine Subscript_ (bC (he ζ s σ H _ I h) λv s1 ⟨x,H1,I1,r1,q1⟩=>?_);refine wpAny_Slice (bC (hl ζ s1 σ H1 _ I1 q1) λvl s2 ⟨l,H2,I2,pl,q2⟩=>bC (hu ζ s2 σ H2 _ I2 q2) λvu s3 ⟨u,H3,I3,pu,q3⟩=>?_);rw [evalPart_none];refine wpAny_pure ?_;have I4:Inv X ζ σ H3 {s3 with heap:=s3.heap.push {cls:= .type "slice",data:= .fields #[vl,vu,.none]}}:=I3.kept (t':=s3.toks) λb ob q=>Heap.get?_push_of_some _ q;obtain ⟨T,id,hT,ht,hg⟩:=hr ζ {s3 with heap:=s3.heap.push {cls:= .type "slice",data:= .fields #[vl,vu,.none]}} σ H3 x v vl vu l u s3.heap.objs.size Q I4 r1 (Heap.IsSliceOf.new ..) pl pu q3;show wpAny (model X.prog X.w) X.A (subscriptTail e (.Slice lo hi none p2) v (.ref s3.heap.objs.size)) (EP X ζ σ Q) X.xe {s3 with heap:=s3.heap.push {cls:= .type "slice",data:= .fields #[vl,vu,.none]}};exact tail_any (ops:=[.ref s3.heap.objs.size,v]) ht hT hg (by with_unfolding_all rfl)
def tT(xs:List V)(lo hi:Option Int):List V:=(xs.drop (HT.Ap xs.length 0 lo)).take (HT.Ap xs.length xs.length hi-HT.Ap xs.length 0 lo)
theorem Al(xs:List V)(lo hi:Option Int):(tT xs lo hi).length<=xs.length:=by unfold tT;rw [abT,abp];omega
def NJ(K:PySem.W.Frag):R2:=λx y H Q=>∃a b xs ys,x= .ref a/\y= .ref b/\nv K H a xs/\nv K H b ys/\xs≠[]/\xs.length+ys.length<=sizeLine/\
 (ys=[]->Q (.ref a) H)/\(ys≠[]->∀p,H p=none->Q (.ref p) (upd H p (.tup (xs++ys))))
theorem ay.xK{xs:List V}{us:List Value}(r:ay xs us):us=[]↔xs=[]:=by
 cases r with
 |nil=>simp
 |cons _ _=>simp
theorem La:jF X (binaryOp .Add) (NJ X.K):=by intro ζ s σ H x y v u Q I rx ry h;obtain ⟨a,b,xs,ys,rfl,rfl,ha,hb,hx,hz,q1,q2⟩:=h;cases rx;cases ry;obtain ⟨its,r1,p1,_⟩:=I.tuple ha;obtain ⟨Ik,r2,p2,_⟩:=I.tuple hb;refine HT.Li p1 p2 (λz=>hx (r1.xK.mp z)) (λz=>⟨.ref a,H,I,rfl,q1 (r2.xK.mp z)⟩) (λz=>?_) (by rw [<-r1.length,<-r2.length];exact hz);refine ⟨.ref s.heap.objs.size,_,I.laid (t':=s.toks) (o:= .tup (xs++ys)) (λb ob q=>Heap.get?_push_of_some _ q) (aah _) ?_,rfl,q2 (λw=>z (r2.xK.mpr w)) _ (I.ba.fresh (aah _))⟩;exact ⟨by rw [aag];exact hz,_,r1.append r2,IsTup.new _ _⟩
end
def Jp(n:Nat)(i:Int):Option Nat:=if 0<=i then (if i<n then some i.toNat else none) else if -(n:Int)<=i then some (i+n).toNat else none
def nE{α:Type}(xs:List α)(i:Int):Option α:=(Jp xs.length i).bind λj=>xs[j]?
theorem C6{n:Nat}{i:Int}{j:Nat}(h:Jp n i=some j):seqIndex? i n=some j/\j<n/\ -(n:Int)<=i/\i<n:=by
 unfold Jp at h;by_cases h0:0<=i
 ·rw [if_pos h0] at h;by_cases h1:i<n
  ·rw [if_pos h1] at h;have e:i.toNat=j:=aas h;exact ⟨by rw [seqIndex_of h0 h1,e],by omega,by omega,h1⟩
  ·rw [if_neg h1] at h;cases h
 ·rw [if_neg h0] at h;by_cases h1: -(n:Int)<=i
  ·rw [if_pos h1] at h;have e:(i+n).toNat=j:=aas h;exact ⟨by rw [seqIndex_neg (by omega) h1,e],by omega,h1,by omega⟩
  ·rw [if_neg h1] at h;cases h
theorem wa{α:Type}{xs:List α}{i:Int}{v:α}(h:nE xs i=some v):∃j,seqIndex? i xs.length=some j/\xs[j]? =some v/\j<xs.length/\ -(xs.length:Int)<=i/\i<xs.length:=by
 unfold nE at h;cases e:Jp xs.length i with
 |none=>rw [e] at h;cases h
 |some j=>
  rw [e] at h;obtain ⟨h1,h2,h3,h4⟩:=C6 e;exact ⟨j,h1,h,h2,h3,h4⟩
theorem Κ{α:Type}{xs:List α}{j:Nat}{v:α}(h:xs[j]? =some v):nE xs (j:Int)=some v:=by
 have hj:j<xs.length:=(aaf.mp h).1;have e:Jp xs.length (j:Int)=some j:=by unfold Jp;rw [if_pos (by omega),if_pos (by omega)];simp
 unfold nE;rw [e];exact h
def vI(b:Expr):Prop:=∀o i,subscripted b false o i=operate [o,i] (getItem o i)
def Ko(X:Cx)(r:R2):Prop:=
 ∀(value slice:Expr) (ζ:List (Addr×Obj)) (s:Shared) (σ:St) (H:Hp) (x y:V) (v u:Value) (Q:VK),Inv X ζ σ H s->aB x v->aB y u->r x y H Q->
  subscripted slice false v u=operate [v,u] (getItem v u)->wpAny (model X.prog X.w) X.A (subscriptTail value slice v u) (EP X ζ σ Q) X.xe s
def Zm(X:Cx)(id:String)(r:V->List V->Hp->VK->Prop):Prop:=
 ∀(ζ:List (Addr×Obj)) (s:Shared) (σ:St) (H:Hp) (x:V) (xs:List V) (v:Value) (us:List Value) (Q:VK),Inv X ζ σ H s->aB x v->ay xs us->r x xs H Q->
  wpAny (model X.prog X.w) X.A (call (.builtin id) (v::us)) (EP X ζ σ Q) X.xe s
section
variable{X:Cx}{a b:Expr}{ta tb:TE}{pos:Pos}
theorem Ko.or{r r':R2}(h:Ko X r)(h':Ko X r'):Ko X (λx y H Q=>r x y H Q\/r' x y H Q):=by
 intro value slice ζ s σ H x y v u Q I rx ry q hs;rcases q with q|q
 ·exact h value slice ζ s σ H x y v u Q I rx ry q hs
 ·exact h' value slice ζ s σ H x y v u Q I rx ry q hs
theorem TF{r:R2}(hr:Ko X r)(ha:PE X a ta)(hb:PE X b tb)(hs:vI b):PE X (.Subscript a b pos) (R7 r ta tb):=by intro ζ s σ H Q I h;exact Subscript_ (P7 ha hb I h λv u s2 x y H2 I2 rx ry q=>hr a b ζ s2 σ H2 x y v u Q I2 rx ry q (hs _ _))
def Rk(K:PySem.W.Frag):R2:=λx y H Q=>∃p xs i v,x= .ref p/\y= .int i/\gy K H p xs/\nE xs i=some v/\Q v H
def Tr(K:PySem.W.Frag):R2:=λx y H Q=>∃p xs i v,x= .ref p/\y= .int i/\nv K H p xs/\nE xs i=some v/\Q v H
def Tz:R2:=λx y H Q=>∃z i c,x= .str z/\y= .int i/\z.length<=sizeLine/\nE z.cps.toList i=some c/\Q (.str ⟨#[c]⟩) H
theorem Ls:Ko X (Rk X.K):=by
 intro value slice ζ s σ H x y v u Q I rx ry h hs;obtain ⟨p,xs,i,z,rfl,rfl,hq,he,q⟩:=h;cases rx;obtain ⟨t,rfl⟩:=ry;obtain ⟨its,r,pl,hz⟩:=I.list hq;obtain ⟨j,h1,h2,h3,h4,h5⟩:=wa he;obtain ⟨w,ew,Bj⟩:=r.get h2;have hl:=r.length;have hn:=nK;have fin:EP X ζ σ Q w s:=⟨z,H,I,Bj,q⟩;by_cases h0:0<=i
 ·have hj:i.toNat=j:=by rw [seqIndex_of h0 h5] at h1;exact aas h1
  exact item_listR pl.isList h0 (by omega) (by rw [hj];simpa using ew) fin hs
 ·have hj:(i+(its.toArray.size:Int)).toNat=j:=by rw [seqIndex_neg (by omega) h4] at h1;rw [aaz,<-hl];exact aas h1
  exact subscriptTail_builtinR (x:=w) pl.isList.typeIs slot_list_getitem.lookup
   (wpAny_getItem_list_neg (Q:=λr s'=>r=w/\EP X ζ σ Q r s') pl.isList (by omega) (by rw [List.size_toArray] <;> omega) (by omega) (by rw [hj];simpa using ew) ⟨rfl,fin⟩) hs
theorem P2:Ko X (Tr X.K):=by
 intro value slice ζ s σ H x y v u Q I rx ry h hs;obtain ⟨p,xs,i,z,rfl,rfl,hq,he,q⟩:=h;cases rx;obtain ⟨t,rfl⟩:=ry;obtain ⟨its,r,pl,hz⟩:=I.tuple hq;obtain ⟨j,h1,h2,h3,h4,h5⟩:=wa he;obtain ⟨w,ew,Bj⟩:=r.get h2;have hl:=r.length;have hn:=nK;have fin:EP X ζ σ Q w s:=⟨z,H,I,Bj,q⟩
 exact subscriptTail_builtinR (x:=w) pl.typeIs slot_tuple_getitem.lookup
  (getItem_tuple (j:=j) (Q:=λr s'=>r=w/\EP X ζ σ Q r s') pl (by omega) (by omega) (by rw [List.size_toArray,<-hl];exact h1) (by simpa using ew) ⟨rfl,fin⟩) hs
theorem Oa:Ko X Tz:=by
 intro value slice ζ s σ H x y v u Q I rx ry h hs;obtain ⟨z,i,c,rfl,rfl,hz,he,q⟩:=h;obtain ⟨t,rfl⟩:=rx;obtain ⟨t',rfl⟩:=ry;obtain ⟨j,h1,h2,h3,h4,h5⟩:=wa he;have hl:z.cps.toList.length=z.length:=by simp [Str.length]
 rw [hl] at h1 h4 h5;have hn:=nK
 exact tail_any (typeIs_str s z t) slot_str_getitem.lookup (getItem_str (c:=c) (by
  have e1:decide (i< -(2^63:Int))=false:=decide_eq_false (by omega);have e2:decide (i ≥ 2^63)=false:=decide_eq_false (by omega)
  rw [e1,e2,Bool.or_false]) (by rw [h1];simpa using h2) ⟨.str ⟨#[c]⟩,H,I.tok _,⟨_,rfl⟩,q⟩) hs
def ZE(K:PySem.W.Frag):R2:=λx y H Q=>Rk K x y H Q\/Tr K x y H Q\/Tz x y H Q
theorem Qm:Ko X (ZE X.K):=Ls.or (P2.or Oa)
theorem Cf(its:List Value)(n j:Nat)(u:Value):Obj.mapSeq (·.setIfInBounds j u) {cls:= .type "list",data:= .seq its.toArray n}={cls:= .type "list",data:= .seq (its.set j u).toArray n}:=by simp [Obj.mapSeq]
theorem Inv.lst{ζ:List (Addr×Obj)}{σ:St}{H:Hp}{s:Shared}{p:Addr}{xs:List V}(I:Inv X ζ σ H s)(h:H p=some (.lst xs)):
  ∃(its:List Value) (n:Nat),ay xs its/\s.heap.get? p=some {cls:= .type "list",data:= .seq its.toArray n}/\xs.length<=sizeLine:=by
 obtain ⟨z,its,n,r,e⟩:=I.ba p _ h;exact ⟨its,n,r,e,z⟩
theorem Inv.Pm{ζ:List (Addr×Obj)}{σ:St}{H:Hp}{s:Shared}{p:Addr}{xs ys:List V}{its its':List Value}{n n':Nat}{f:Obj->Obj}(I:Inv X ζ σ H s)(h:H p=some (.lst xs))
  (ho:s.heap.get? p=some {cls:= .type "list",data:= .seq its.toArray n}) (hf:f {cls:= .type "list",data:= .seq its.toArray n}={cls:= .type "list",data:= .seq its'.toArray n'}) (r:ay ys its') (hz:ys.length<=sizeLine) (t:Nat):
  Inv X ζ σ (upd H p (.lst ys)) {s with heap:=s.heap.update p f,toks:=t}:=by
 have e:(s.heap.update p f).get? p=some {cls:= .type "list",data:= .seq its'.toArray n'}:=by rw [Heap.get?_update_self f ho (by rw [hf] <;> rfl),hf]
 refine I.write (x:=p) (e:=p) (by rw [h];trivial) (.inl rfl) (λb u hb q=>(Heap.get?_update_other _ _ (Ne.symm hb)).trans q) ⟨_,e⟩ ?_;exact ⟨hz,its',n',r,e⟩
def NR:V->V->V->Hp->(Hp->Prop)->Prop:=λo i v H Q=>∃p xs k j,o= .ref p/\i= .int k/\H p=some (.lst xs)/\Jp xs.length k=some j/\Q (upd H p (.lst (xs.set j v)))
theorem Kj:Rz X NR:=by
 intro ζ s σ H o i v ov iv u Q I ro ri rv h;obtain ⟨p,xs,k,j,rfl,rfl,hp,hj,q⟩:=h;cases ro;obtain ⟨t,rfl⟩:=ri;obtain ⟨its,n,r,ho,hz⟩:=I.lst hp;obtain ⟨h1,h2,h3,h4⟩:=C6 hj;have hl:=r.length;have hn:=nK
 have I':Inv X ζ σ (upd H p (.lst (xs.set j v))) {s with heap:=s.heap.update p (Obj.mapSeq (·.setIfInBounds j u))}:=
  I.Pm hp ho (Cf its n j u) (r.set rv j) (by rw [aa2];exact hz) s.toks
 by_cases h0:0<=k
 ·have hk:k.toNat=j:=by rw [seqIndex_of h0 h4] at h1;exact aas h1
  exact PySem.W.ki_setAt ho h0 (by omega) (by rw [aaz,<-hl];exact h4) (by rw [hk];exact ⟨_,I',q⟩)
 ·have hk:(k+(its.toArray.size:Int)).toNat=j:=by rw [seqIndex_neg (by omega) h3] at h1;rw [aaz,<-hl];exact aas h1
  exact PySem.W.ki_setBack ho (by omega) (by rw [aaz,<-hl];exact h3) (by omega) (by rw [hk];exact ⟨_,I',q⟩)
theorem vY(lo hi:Option Int)(n:Nat):(sliceBounds lo hi none n).1=((HT.Ap n 0 lo:Nat):Int)/\(sliceBounds lo hi none n).2.1=((HT.Ap n n hi:Nat):Int)/\(sliceBounds lo hi none n).2.2=1:=by
 refine ⟨?_,?_,rfl⟩
 ·cases lo with
  |none=>simp [sliceBounds,HT.Ap]
  |some i=>
   simp only [sliceBounds,HT.Ap,Option.getD_none,show (1:Int) > 0 by decide,if_true];by_cases h:i<0
   ·simp only [h,if_true] <;> omega
   ·simp only [h,if_false] <;> omega
 ·cases hi with
  |none=>simp [sliceBounds,HT.Ap]
  |some i=>
   simp only [sliceBounds,HT.Ap,Option.getD_none,show (1:Int) > 0 by decide,if_true];by_cases h:i<0
   ·simp only [h,if_true] <;> omega
   ·simp only [h,if_false] <;> omega
theorem tU(its:List Value)(lo hi:Option Int):slicePick its.toArray lo hi none=((its.drop (HT.Ap its.length 0 lo)).take (HT.Ap its.length its.length hi-HT.Ap its.length 0 lo)).toArray:=by obtain ⟨h1,h2,h3⟩:=vY lo hi its.toArray.size;unfold slicePick;rw [h1,h2,h3];simp only [sliceRange_one,pick_run,List.size_toArray] <;> rfl
def Vr(K:PySem.W.Frag):V->Option Int->Option Int->Hp->VK->Prop:=λx lo hi H Q=>∃a xs,x= .ref a/\gy K H a xs/\∀p,H p=none->Q (.ref p) (upd H p (.lst (tT xs lo hi)))
theorem v8:Zx X (Vr X.K):=by intro ζ s σ H x v vl vu lo hi sl Q I rx hs pl pu h;obtain ⟨a,xs,rfl,hx,q⟩:=h;cases rx;obtain ⟨its,r,ht,hz⟩:=I.list hx;have hlen:=r.length;refine ⟨"list",_,slot_list_getitem.lookup,ht.isList.typeIs,?_⟩;refine wpAny_getItem_list_slice ht.isList hs pl pu .none (by simp) ?_ (by rw [List.size_toArray] <;> omega);rw [tU,<-hlen];refine ⟨.ref s.heap.objs.size,_,I.laid (t':=s.toks) (o:= .lst (tT xs lo hi)) (λb ob q=>Heap.get?_push_of_some _ q) (aah _) ?_,rfl,q _ (I.ba.fresh (aah _))⟩;exact ⟨aaq (Al xs lo hi) hz,_,0,(r.drop (HT.Ap xs.length 0 lo)).take (HT.Ap xs.length xs.length hi-HT.Ap xs.length 0 lo),Heap.get?_push_size _ rfl⟩
def eC:V->Bool
 |.bq=>true
 |.bl _=>true
 |.int _=>true
 |.str _=>true
 |_=>false
def tM:V->V->Bool
 |.bq,.bq=>true
 |.bl a,.bl b=>a==b
 |.bl a,.int b=>(if a then 1 else 0)==b
 |.int a,.bl b=>a==(if b then 1 else 0)
 |.int a,.int b=>a==b
 |.str a,.str b=>a==b
 |_,_=>false
theorem vp{A:Around}{s:Shared}{y x:V}{u v:Value}(ry:aB y u)(rx:aB x v)(fy:eC y=true)(fx:eC x=true):SeqAt.EqAt A s u v (tM y x):=by
 cases y with
 |bq=>
  cases ry;cases x with
  |bq=>cases rx;exact SeqAt.EqAt.same _
  |bl b=>cases rx;exact SeqAt.EqAt.none_bool b
  |int b=>obtain ⟨t,rfl⟩:=rx;exact SeqAt.EqAt.none_int b t
  |str b=>obtain ⟨t,rfl⟩:=rx;exact SeqAt.EqAt.none_str b t
  |_=>exact absurd (show false=true from fx) aat
 |bl a=>
  cases ry;cases x with
  |bq=>cases rx;exact SeqAt.EqAt.bool_none a
  |bl b=>cases rx;exact SeqAt.EqAt.bool_bool a b
  |int b=>obtain ⟨t,rfl⟩:=rx;exact SeqAt.EqAt.bool_int a b t
  |str b=>obtain ⟨t,rfl⟩:=rx;exact SeqAt.EqAt.bool_str a b t
  |_=>exact absurd (show false=true from fx) aat
 |int a=>
  obtain ⟨t',rfl⟩:=ry;cases x with
  |bq=>cases rx;exact SeqAt.EqAt.int_none a t'
  |bl b=>cases rx;exact SeqAt.EqAt.int_bool a t' b
  |int b=>obtain ⟨t,rfl⟩:=rx;exact SeqAt.EqAt.int_int a t' b t
  |str b=>obtain ⟨t,rfl⟩:=rx;exact SeqAt.EqAt.int_str a t' b t
  |_=>exact absurd (show false=true from fx) aat
 |str a=>
  obtain ⟨t',rfl⟩:=ry;cases x with
  |bq=>cases rx;exact SeqAt.EqAt.str_none a t'
  |bl b=>cases rx;exact SeqAt.EqAt.str_bool a t' b
  |int b=>obtain ⟨t,rfl⟩:=rx;exact SeqAt.EqAt.str_int a t' b t
  |str b=>obtain ⟨t,rfl⟩:=rx;exact SeqAt.EqAt.str_str a t' b t
  |_=>exact absurd (show false=true from fx) aat
 |_=>exact absurd (show false=true from fy) aat
def Bb(x:V)(u:Value):Bool:=match u with
 |.none=>tM .bq x
 |.bool b=>tM (.bl b) x
 |.int i _=>tM (.int i) x
 |.str z _=>tM (.str z) x
 |_=>false
theorem Jl{x y:V}{u:Value}(r:aB y u)(f:eC y=true):Bb x u=tM y x:=by
 cases y with
 |bq=>cases r;rfl
 |bl b=>cases r;rfl
 |int i=>obtain ⟨t,rfl⟩:=r;rfl
 |str z=>obtain ⟨t,rfl⟩:=r;rfl
 |_=>exact absurd (show false=true from f) aat
theorem nz{x:V}:∀{xs:List V}{us:List Value},ay xs us->xs.all eC=true->us.any (Bb x)=xs.any λy=>tM y x
 |_,_,.nil,_=>rfl
 |y::xs,u::us,.cons r t,f=>by rw [abH,aar] at f;rw [abI,abI,Jl r f.1,nz t f.2]
theorem jV{A:Around}{s:Shared}{x:V}{v:Value}(rx:aB x v)(fx:eC x=true):∀{xs:List V}{us:List Value},ay xs us->xs.all eC=true->∀u∈us,SeqAt.EqAt A s u v (Bb x u)
 |_,_,.nil,_=>λu hu=>by cases hu
 |y::xs,u::us,.cons r t,f=>λu' hu=>by
  rw [abH,aar] at f;rcases aay.mp hu with rfl|hu
  ·rw [Jl r f.1];exact vp r rx f.1 fx
  ·exact jV rx fx t f.2 u' hu
def Oy(x:V)(xs:List V):Bool:=xs.any λy=>tM y x
def UA(K:PySem.W.Frag)(neg:Bool):R2:=λx y H Q=>∃p xs,y= .ref p/\(gy K H p xs\/nv K H p xs)/\eC x=true/\xs.all eC=true/\Q (.bl (if neg then !Oy x xs else Oy x xs)) H
theorem FG:jF X (compareOp .In) (UA X.K false):=by
 intro ζ s σ H x y v u Q I rx ry h;obtain ⟨p,xs,rfl,hq,fx,fs,q⟩:=h;cases ry;rcases hq with hq|hq
 ·obtain ⟨its,r,pl,hz⟩:=I.list hq;refine SeqAt.in_listAt (Bb x) pl.isList (λw hw=>jV rx fx r fs w (by simpa using hw)) ⟨.bl _,H,I,rfl,?_⟩;rw [show its.toArray.any (Bb x)=its.any (Bb x) by simp,nz r fs];exact q
 ·obtain ⟨its,r,pl,hz⟩:=I.tuple hq;refine SeqAt.in_tupleAt (Bb x) pl (λw hw=>jV rx fx r fs w (by simpa using hw)) ⟨.bl _,H,I,rfl,?_⟩;rw [show its.toArray.any (Bb x)=its.any (Bb x) by simp,nz r fs];exact q
theorem wB:jF X (compareOp .NotIn) (UA X.K true):=by
 intro ζ s σ H x y v u Q I rx ry h;obtain ⟨p,xs,rfl,hq,fx,fs,q⟩:=h;cases ry;rcases hq with hq|hq
 ·obtain ⟨its,r,pl,hz⟩:=I.list hq;refine SeqAt.notIn_listAt (Bb x) pl.isList (λw hw=>jV rx fx r fs w (by simpa using hw)) ⟨.bl _,H,I,rfl,?_⟩;rw [show its.toArray.any (Bb x)=its.any (Bb x) by simp,nz r fs];exact q
 ·obtain ⟨its,r,pl,hz⟩:=I.tuple hq;refine SeqAt.notIn_tupleAt (Bb x) pl (λw hw=>jV rx fx r fs w (by simpa using hw)) ⟨.bl _,H,I,rfl,?_⟩;rw [show its.toArray.any (Bb x)=its.any (Bb x) by simp,nz r fs];exact q
theorem xi:c8 X (.builtin "len") (λxs H Q=>∃p ys,xs=[.ref p]/\(gy X.K H p ys\/nv X.K H p ys)/\Q (.int ys.length) H):=by
 intro ζ s σ H xs us Q I r h;obtain ⟨p,ys,rfl,hq,q⟩:=h;obtain ⟨u,rfl,rx⟩:=kF r;cases rx;have hn:=nK;rcases hq with hq|hq
 ·obtain ⟨its,r',pl,hz⟩:=I.list hq;have hlen:=r'.length;exact Calls.call_len_list pl.isList (by simp only [List.size_toArray] <;> omega) ⟨.int ys.length,H,I.tok _,⟨s.toks+1,by rw [List.size_toArray,hlen]⟩,q⟩
 ·obtain ⟨its,r',pl,hz⟩:=I.tuple hq;have hlen:=r'.length;exact len_tuple pl (by simp only [List.size_toArray] <;> omega) ⟨.int ys.length,H,I.tok _,⟨s.toks+1,by rw [List.size_toArray,hlen]⟩,q⟩
theorem xP:c8 X (.builtin "len") (λxs H Q=>∃z,xs=[.str z]/\z.length<=sizeLine/\Q (.int z.length) H):=by intro ζ s σ H xs us Q I r h;obtain ⟨z,rfl,hz,q⟩:=h;obtain ⟨u,rfl,t,rfl⟩:=kF r;have hn:=nK;exact len_str (by omega) ⟨.int z.length,H,I.tok _,⟨_,rfl⟩,q⟩
theorem c8.or{f:Value}{r r':List V->Hp->VK->Prop}(h:c8 X f r)(h':c8 X f r'):c8 X f (λxs H Q=>r xs H Q\/r' xs H Q):=by
 intro ζ s σ H xs us Q I rs q;rcases q with q|q
 ·exact h ζ s σ H xs us Q I rs q
 ·exact h' ζ s σ H xs us Q I rs q
theorem vO:c8 X (.type "list") (λxs H Q=>∃p ys,xs=[.ref p]/\(gy X.K H p ys\/nv X.K H p ys)/\∀l,H l=none->Q (.ref l) (upd H l (.lst ys))):=by
 intro ζ s σ H xs us Q I r h;obtain ⟨p,ys,rfl,hq,q⟩:=h;obtain ⟨u,rfl,rx⟩:=kF r;cases rx
 have fin:∀(its:List Value),ay ys its->ys.length<=sizeLine->∀(h':Heap) (c':Nat),(∀b o',s.heap.get? b=some o'->h'.get? b=some o')->
   h'.get? s.heap.objs.size=some {cls:= .type "list",dict:=none,data:= .seq its.toArray c',slots:= #[]}->EP X ζ σ Q (.ref s.heap.objs.size) {s with heap:=h'}:=λits r' hz h' c' kp e=>
  ⟨.ref s.heap.objs.size,_,I.laid (t':=s.toks) kp (aah _) (show bT X.prog X.w _ h' _ (.lst ys) from ⟨hz,its,c',r',e⟩),rfl,q _ (I.ba.fresh (aah _))⟩
 rcases hq with hq|hq
 ·obtain ⟨its,r',pl,hz⟩:=I.list hq;have hlen:=r'.length;obtain ⟨o,ho,hc,n,hd⟩:=pl.isList;exact call_list_seq p (.inl rfl) ho hc hd (λh' c' kp e=>fin its r' hz h' c' kp e) (by simp only [List.size_toArray] <;> omega)
 ·obtain ⟨its,r',pl,hz⟩:=I.tuple hq;have hlen:=r'.length;obtain ⟨o,ho,hc,n,hd⟩:=pl;exact call_list_seq p (.inr rfl) ho hc hd (λh' c' kp e=>fin its r' hz h' c' kp e) (by simp only [List.size_toArray] <;> omega)
def ZR(K:PySem.W.Frag)(T:String)(x:V)(H:Hp):Prop:=match x with
 |.str _=>T="str"
 |.int _=>T="int"
 | .ref p=>(T="list"/\∃xs,gy K H p xs)\/(T="tuple"/\∃o,K.lookup p=some o/\o.cls= .type "tuple"/\o.dict=none)\/
   (T="dict"/\((∃Ο,H p=some (.dK Ο))\/∃Ο,H p=some (.dT Ο)))\/(T="set"/\∃S n,H p=some (.set S n))
 |_=>False
theorem Qc{ζ:List (Addr×Obj)}{σ:St}{H:Hp}{s:Shared}{T:String}{x:V}{v:Value}(I:Inv X ζ σ H s)(r:aB x v)(ty:ZR X.K T x H):
  s.TypeIs v T/\∀a,v= .ref a->∃ob,s.heap.get? a=some ob/\ob.dict=none:=by
 cases x with
 |str z=>
  obtain ⟨t,rfl⟩:=r;cases (show T="str" from ty);exact ⟨typeIs_str s z t,λ_ e=>nomatch e⟩
 |int i=>
  obtain ⟨t,rfl⟩:=r;cases (show T="int" from ty);exact ⟨typeIs_int s i t,λ_ e=>nomatch e⟩
 |ref p=>
  cases r;rcases ty with ⟨rfl,xs,hq⟩|⟨rfl,o,hk,hc,hd⟩|⟨rfl,hk⟩|⟨rfl,S,n,hk⟩
  ·obtain ⟨its,_,pl,_⟩:=I.list hq;refine ⟨pl.isList.typeIs,λa e=>?_⟩;cases e;obtain ⟨o,n,e,c,hd,_⟩:=pl;exact ⟨o,e,hd⟩
  ·refine ⟨⟨o,I.pK p o hk,hc⟩,λa e=>?_⟩;cases e;exact ⟨o,I.pK _ o hk,hd⟩
  ·have z:∃o,s.heap.get? p=some o/\o.ExactDict:=by
    rcases hk with ⟨Ο,hk⟩|⟨Ο,hk⟩
    ·obtain ⟨_,_,_,_,o,_,_,e,ex,_⟩:=I.ba p _ hk;exact ⟨o,e,ex⟩
    ·obtain ⟨_,_,_,_,o,_,_,e,ex,_⟩:=I.ba p _ hk;exact ⟨o,e,ex⟩
   obtain ⟨o,e,ex⟩:=z;refine ⟨⟨o,e,ex.1⟩,λa e2=>?_⟩;cases e2;exact ⟨o,e,ex.2.1⟩
  ·obtain ⟨o,_,_,_,e,ex,_⟩:=I.ba p _ hk;refine ⟨⟨o,e,ex.1⟩,λa e2=>?_⟩;cases e2;exact ⟨o,e,ex.2.1⟩
 |_=>exact False.elim ty
def tBM(K:PySem.W.Frag)(T:String)(r:V->List V->Hp->VK->Prop)(to:TE)(t:TA):TE:=λσ H Q=>to σ H λx H1=>ZR K T x H1/\t σ H1 λxs H2=>r x xs H2 Q
variable{o e:Expr}{es:List Expr}{to:TE}{t:TA}{name:Str}{apos cJ:Pos}{T id:String}{r:V->List V->Hp->VK->Prop}
theorem Rm(pa:PlainAttrs T)(slot:Slot T name id)(hty:typeOf (.builtin id)=pure (.type "method_descriptor"))(hm:Zm X id r)(ho:PE X o to)(ha:PA X (e::es) t)
  (GX:attributeBase o name X.env (eval o X.env)=eval o X.env:=by rfl)
  (Py:((backTo cJ (starEach (e::es) X.env)).all (λx=> !x.1)&&(backToKw cJ (keywordEach [] X.env)).all (λx=>x.1.isSome)
   &&decide ((e::es).length+([]:List Keyword).length+(if ([]:List Keyword).isEmpty then 0 else 1)<30))=true:=by rfl)
  (Jk:(apos.endLine==cJ.line)=true:=by rfl) (hs:starEach (e::es) X.env=(false,eval e X.env)::starEach es X.env:=by rfl) (Cd:(backTo cJ (starEach es X.env)).any (·.1)=false:=by rfl):
  PE X (.Call (.Attribute o name apos) (e::es) [] cJ) (tBM X.K T r to t):=by
 intro ζ s σ H Q I h;refine wpAny_Call_method_late GX Py Jk rfl (bC (ho ζ s σ H _ I h) λv s1 ⟨x,H1,I1,r1,ty,q1⟩=>?_);obtain ⟨h1,h2⟩:=Qc I1 r1 ty;refine ⟨T,id,pa,slot,hty,h1,h2,?_⟩;have hA:=ha cJ ζ s1 σ H1 _ I1 q1;rw [hs] at hA⊢;refine Calls.callWith_builtin (by show (false || (backTo cJ (starEach es X.env)).any (·.1))=false;rw [Cd] <;> rfl) (Calls.evalArgs_plain ?_);exact bC hA λus s2 ⟨vs,H2,I2,r2,q2⟩=>hm ζ s2 σ H2 x vs v us Q I2 r1 r2 q2
end
def MtM(X:Cx)(id:String)(r:V->List V->Hp->VK->Prop):Prop:=
 ∀(ζ:List (Addr×Obj)) (s:Shared) (σ:St) (H:Hp) (x:V) (xs:List V) (v:Value) (us:List Value) (Q:VK),Inv X ζ σ H s->aB x v->ay xs us->r x xs H Q->
  wpAny (model X.prog X.w) X.A (call (.builtin id) (v::us)) (EP X ζ σ Q) X.xe s
theorem ay.one:∀{x:V}{us:List Value},ay [x] us->∃u,us=[u]/\aB x u
 |_,_,.cons r .nil=>⟨_,rfl,r⟩
theorem ay.rep{xs:List V}{us:List Value}(h:ay xs us):∀k:Nat,ay (List.replicate k xs).flatten (List.replicate k us).flatten
 |0=> .nil
 |k+1=>by rw [aa3,aa3,abh,abh];exact ay.append h (ay.rep h k)
theorem vj(its:List Value):∀(k:Nat) (Ι:List Value),
  List.foldl (λx1 x2=>x1++x2) Ι.toArray (List.replicate k its.toArray)=(Ι++(List.replicate k its).flatten).toArray
 |0,Ι=>by simp
 |k+1,Ι=>by
  have e:Ι.toArray++its.toArray=(Ι++its).toArray:=by simp
  have e2:(Ι++its)++(List.replicate k its).flatten=Ι++(List.replicate (k+1) its).flatten:=by rw [aa3,abh,aaI]
  rw [<-e2,<-vj its k (Ι++its),<-e,aa3,abl]
section
variable{X:Cx}{ζ:List (Addr×Obj)}{σ:St}{H:Hp}{s:Shared}{l b:Addr}{xs ys zs:List V}
theorem Inv.WG{its its':List Value}{n:Nat}{f:Array Value->Array Value}{t':Nat}(I:Inv X ζ σ H s)(hH:H l=some (.lst xs))
  (e:s.heap.get? l=some {cls:= .type "list",data:= .seq its.toArray n}) (hf:f its.toArray=its'.toArray) (hv:ay ys its') (hz:ys.length<=sizeLine):
  Inv X ζ σ (upd H l (.lst ys)) {s with heap:=s.heap.update l (Obj.mapSeq f),toks:=t'}:=by
 have q:=PySem.IsL.update e f;rw [hf] at q;refine I.write (x:=l) (e:=l) (by rw [hH];exact trivial) (.inl rfl) (λb' u hb hu=>(Heap.get?_update_other s.heap (Obj.mapSeq f) (Ne.symm hb)).trans hu) ⟨_,q⟩ ?_;exact ⟨hz,its',_,hv,q⟩
theorem Inv.Ov{its:List Value}{t':Nat}(I:Inv X ζ σ H s)(hv:ay ys its)(hz:ys.length<=sizeLine):
  Inv X ζ σ (upd H s.heap.objs.size (.lst ys)) {s with heap:=s.heap.push {cls:= .type "list",data:= .seq its.toArray},toks:=t'}:=
 I.laid (λ_ _ q=>Heap.get?_push_of_some _ q) (aah _) ⟨hz,its,0,hv,Heap.get?_push_size _ rfl⟩
theorem Inv.fresh(I:Inv X ζ σ H s):H s.heap.objs.size=none:=I.ba.fresh (aah _)
theorem Inv.K'(I:Inv X ζ σ H s)(hH:H l=some (.lst xs)):xs.length<=sizeLine/\∃(its:List Value) (n:Nat),ay xs its/\xs.length=its.length/\s.heap.get? l=some {cls:= .type "list",data:= .seq its.toArray n}:=by obtain ⟨z,its,n,r,e⟩:=I.ba l _ hH;exact ⟨z,its,n,r,r.length,e⟩
theorem JD{n:Nat}(h:n<=sizeLine):Builtin.List.listTooLong n=false:=by unfold Builtin.List.listTooLong;exact decide_eq_false (by omega)
end
section
variable{X:Cx}
def D7:V->List V->Hp->VK->Prop:=λx vs H Q=>∃l xs y,x= .ref l/\vs=[y]/\H l=some (.lst xs)/\xs.length<sizeLine/\Q .bq (upd H l (.lst (xs++[y])))
theorem uk:MtM X "list.append" D7:=by intro ζ s σ H x vs v us Q I rx rv h;obtain ⟨l,xs,y,rfl,rfl,hH,hz,q⟩:=h;cases rx;obtain ⟨u,rfl,ru⟩:=rv.one;obtain ⟨z,its,n,r,hl,e⟩:=I.K' hH;refine call_meets F.slot_list_append ⟨_,e,rfl⟩ F.entry_list_append (F.args_list_append_2 _ _) (PySem.list_append l its.toArray n u (by rw [aaz];omega)) ⟨e,?_⟩;refine ⟨.bq,_,I.WG (its':=its++[u]) hH e (by simp) (r.append (.cons ru .nil)) ?_,rfl,q⟩;rw [aag,List.length_singleton];omega
def Qp:R2:=λx y H Q=>∃l b xs zs,x= .ref l/\y= .ref b/\H l=some (.lst xs)/\H b=some (.lst zs)/\xs.length+zs.length<=sizeLine/\∀p,H p=none->Q (.ref p) (upd H p (.lst (xs++zs)))
theorem JL:jF X (binaryOp .Add) Qp:=by
 intro ζ s σ H x y v u Q I rx ry h;obtain ⟨l,b,xs,zs,rfl,rfl,hH,hB,hz,q⟩:=h;cases rx;cases ry;obtain ⟨z,its,n,r,hl,e⟩:=I.K' hH;obtain ⟨z2,Ik,n2,r2,E9,e2⟩:=I.K' hB;refine PySem.P.add_list e e2 ?_ (by rw [aaz,aaz];omega);have ea:its.toArray++Ik.toArray=(its++Ik).toArray:=by simp
 rw [ea];exact ⟨.ref _,_,I.Ov (t':=s.toks) (r.append r2) (by rw [aag];omega),rfl,q _ I.fresh⟩
def OI:R2:=λx y H Q=>∃l k xs,x= .ref l/\y= .int k/\H l=some (.lst xs)/\ -(2^63)<=k/\k<2^63/\xs.length*k.toNat<=sizeLine/\
 ∀p,H p=none->Q (.ref p) (upd H p (.lst (List.replicate k.toNat xs).flatten))
theorem MV{α:Type}(xs:List α)(k:Nat):(List.replicate k xs).flatten.length=k*xs.length:=by
 induction k with
 |zero=>simp
 |succ k ih=>rw [aa3,abh,aag,ih,Nat.succ_mul,Nat.add_comm]
theorem Hw:jF X (binaryOp .Mult) OI:=by
 intro ζ s σ H x y v u Q I rx ry h;obtain ⟨l,k,xs,rfl,rfl,hH,h1,h2,hz,q⟩:=h;cases rx;obtain ⟨t,rfl⟩:=ry;obtain ⟨z,its,n,r,hl,e⟩:=I.K' hH;have hlen:its.toArray.size*k.toNat<=sizeLine:=by rw [aaz,<-hl];exact hz
 have VL:¬its.toArray.size*k.toNat > (2^63-1)/8:=by
  have:(sizeLine:Nat)<=(2^63-1)/8:=by decide
  omega
 have Lv:¬(!Builtin.List.listFitsIndex k)=true:=by rw [fitsIndex_both h1 h2];exact aat
 have S3:¬Builtin.List.listTooLong (its.toArray.size*k.toNat)=true:=by rw [JD hlen];exact aat
 have XY:List.foldl (λx1 x2=>x1++x2) #[] (List.replicate (if its.toArray.isEmpty=true then 0 else k.toNat) its.toArray)=(List.replicate k.toNat its).flatten.toArray:=by
  have f0:∀m:Nat,List.foldl (λx1 x2=>x1++x2) #[] (List.replicate m its.toArray)=(List.replicate m its).flatten.toArray:=λm=>by have:=vj its m [];rw [aaO] at this;exact this
  rw [f0];cases its with
  |nil=>simp
  |cons a r'=>rw [if_neg (by simp)]
 refine wpAny_binaryOp_repeat_ref (T:="list") (U:="int") (by decide) ⟨_,e,rfl⟩ (λs'=>typeIs_int s' k t) noFill_list_mul F.fills_int_mul F.slot_int_rmul repeat_list F.slot_int_index.lookup
  (call_meets F.slot_int_rmul (typeIs_int s k t) F.entry_int_rmul (F.args_int_rmul_2 _ _) (int___rmul___int_list k t l its.toArray n)
   ⟨e,rfl,⟨_,e,rfl⟩,call_meets F.slot_list_mul ⟨_,e,rfl⟩ F.entry_list_mul (F.args_list_mul_2 _ _) (AutoListH.list___mul___list_int_3 l its.toArray n k t Lv VL S3) ⟨e,?_⟩⟩)
 rw [XY];exact ⟨.ref _,_,I.Ov (t':=s.toks) (r.rep k.toNat) (by rw [MV,Nat.mul_comm];exact hz),rfl,q _ I.fresh⟩
end
end L2
namespace Att
open PySem PySem.W PySem.Calls PyProof.Rows
theorem pS{P:Params}{h:Heap}:∀(ns:List Int) (vs:List Value),WellAll P h vs (ns.map WData.int)->IntsAre vs ns:=by
 intro ns
 induction ns with
 |nil=>
  intro vs w;rw [List.map_nil] at w;cases w;exact .nil
 |cons n ns ih=>
  intro vs w;rw [aaB] at w;cases w with
  |cons a b=>
   cases a;exact .cons _ _ (ih _ b)
theorem Fm{l:OpenLaw}{n:Nat}(hn:l.most=some n){P:Params}{h:Heap}{args:List WData}{vals:List Value}
  (MM:l.row.toRowW.claim.pre args=true) (V9:WellAll P h vals args):
  ∃a vs ns,vals=[Value.ref a]/\args=[WData.list (ns.map WData.int)]/\h.get? a=some {cls:= .type "list",data:= .seq vs.toArray}/\IntsAre vs ns/\ns.length<=n:=by
 have hsh:WShape.hasAll [] args [.list .int]=true:=(pre_splitW MM).1;have hc:l.pre.holds [] {args:=args}=true:=(pre_splitW MM).2;obtain ⟨d,r,rfl,h1,h2⟩:=hasAllW_cons hsh;obtain rfl:=hasAllW_nil h2;obtain ⟨xs,rfl,h3⟩:=hasW_list h1;obtain ⟨ns,rfl⟩:=items_int h3;have hlen:ns.length<=n:=by
  unfold OpenLaw.pre at hc;have h4:(WTm.not (.lt (.lit (.int (n:Int))) (.len (.arg 0)))).holds [] {args:=[.list (ns.map .int)]}=true:=by have h4:=(holds_andW hc).1;rw [hn] at h4;exact h4
  have h5:=condW_of h4 (w_not (w_lt w_lit (w_len_list (w_arg rfl))));rw [aad] at h5;refine Nat.le_of_not_lt λq=>?_;have q':(n:Int)<((ns.length:Nat):Int):=by omega
  first
   |(rw [decide_eq_true q'] at h5;exact absurd h5 (by decide))
   |(simp at h5;omega)
 cases V9 with
 |cons w1 w2=>
  cases w2;cases w1 with
  |list ho Qx=>exact ⟨_,_,ns,rfl,rfl,ho,pS ns _ Qx,hlen⟩
theorem E7(l:OpenLaw)(args:List WData):l.row.toRowW.claim.post args (.bool true) args=true:=
 postW_of (r:=l.row.toRowW) (X:=(true==true))
  (show WShape.has [] (.bool true) .bool=true by first|rfl|decide|simp [WShape.has,WShape.arms,WShape.armsAll])
  (show (WTm.eq .res (.lit (.bool true))).value [] {args:=args,res:=some (.bool true),after:=args}=some (.bool (true==true)) from w_eq_bool (w_res rfl) w_lit) rfl
theorem Ag{l:OpenLaw}{n:Nat}{q:Program}{loose:List Str}{XP:(Str->Option Value)->Heap->Prop}{YP:World->Heap->Prop}{d:DefRec}
  (hn:l.most=some n) (R0:d.params.defaults=[])
  (call:∀(w:World) (s₀ s₁:Shared) (mg mb:Str->Option Value) (fa:Addr) (o:Obj) (pm cd doc:Value) (a:Addr) (vs:List Value) (ns:List Int),
   Ground q loose [] XP w s₀ mg mb s₁.heap->YP w s₁.heap->
   s₁.heap.get? fa=some o->o.data= .func (docDef d.name d.params d.body d.scope pm cd doc)->s₁.heap.CodeRec cd d.name->mg d.name=some (.ref fa)->
   s₁.heap.get? a=some {cls:= .type "list",data:= .seq vs.toArray}->IntsAre vs ns->ns.length<=n->s₁.gens= #[]->
   codeAny (model l.prog w) callerA (.call (.ref fa) ⟨[.ref a],[]⟩) (λr s'=>r= .ok (.ret (.bool true))/\OldK s₁.heap s'.heap/\s'.os=s₁.os/\AllBare s'.gens) s₁):
  WalkO q loose XP YP l.row.toRowW d [] (λf vs=>PySem.call f vs):=by
 intro w s₀ s₁ mg mb G Y fa o pm cd doc dV kV ho hd C2 hD Mr hg args vals as MM ab1 hrd V9 hlo;obtain rfl:dV= .none:=Dflts.none hD R0;obtain rfl:kV= .none:=Dflts.noKw hD;obtain ⟨a,vs,ns,rfl,rfl,Qf,hints,hlen⟩:=Fm hn MM V9;refine enter_call (codeAny_mono (call w s₀ s₁ mg mb fa o pm cd doc a vs ns G Y ho (fd_plain hd) C2 Mr Qf hints hlen hg) λr s' hq=>?_);obtain ⟨rfl,h2,h3,h4⟩:=hq;exact ⟨.inl ⟨.bool true,.bool true,[],rfl,λ_=>rfl,.bool true,E7 l _,λ_=>⟨List.Pairwise.nil,λ_ hm=>(nomatch hm)⟩⟩,h2,h3,h4⟩
end Att
namespace L2
open PySem PySem.Spec PyProof.Rows
theorem u9:∀{vs:List Value}{ns:List Int},IntsAre vs ns->ay (ns.map V.int) vs
 |_,_,.nil=> .nil
 |_,_,.cons n t h=> .cons ⟨t,rfl⟩ (u9 h)
def O3(H:Hp):Prop:=∀b,H b=none\/∃o xs,H b=some (.xX o (.lst xs))
theorem Kh{P:Program}{w:World}{K:PySem.W.Frag}{mg mb:Str->Option Value}{CX:AA}{k:Nat}{fa a:Addr}{fd:FuncData}{x:Str}{sp:Sp}{s₁:Shared}{vs:List Value}{ns:List Int}
  (KX:K.In s₁.heap) (Zd:s₁.heap.Ns mainGlobals mg) (hb:s₁.heap.Ns builtinsNs mb) (hbb:∀x:Str,x≠"__name__"->mb x=bootBuiltins x) (WB:s₁.heap.NoLimit) (hg:s₁.gens= #[])
  (ha:s₁.heap.get? a=some {cls:= .type "list",data:= .seq vs.toArray}) (hi:IntsAre vs ns) (hl:ns.length<=sizeLine) (hr:bM k callerA)
  (F:∀base:Heap,K.In base->base.Ns mainGlobals mg->aq P w K mg base CX k fa fd [x] sp) (SY:∀(s:Shared) (u:Value),BindsTo s fd ⟨[u],[]⟩ [(x,u)])
  (NK:∀H:Hp,O3 H->gy K H a (ns.map V.int)->sp [.ref a] H (λv _=>v= .bl true) λ_ _ _=>False)
  (W4:∀H e s',CX [] H s₁ (λ_ _ _=>False) e s'->False):
  codeAny (model P w) callerA (.call (.ref fa) ⟨[.ref a],[]⟩) (λr s'=>r= .ok (.ret (.bool true))/\OldK s₁.heap s'.heap/\s'.os=s₁.os/\AllBare s'.gens) s₁:=by
 have rv:=u9 hi;have VE:=hi.length
 have core:∀H:Hp,O3 H->gy K H a (ns.map V.int)->kW P w H s₁.heap->(∀b,H b≠none->b=a)->(H a≠none->K.lookup a=none)->
   codeAny (model P w) callerA (.call (.ref fa) ⟨[.ref a],[]⟩) (λr s'=>r= .ok (.ret (.bool true))/\OldK s₁.heap s'.heap/\s'.os=s₁.os/\AllBare s'.gens) s₁:=by
  intro H hO hS ba hA hK;have DD:∀{b:Addr} {o:Obj},s₁.heap.get? b=some o->H b=none->(wF s₁.heap H).get? b=some o:=λe n=>Ie e n;have RD:∀{b:Addr} {o:Obj} {es:Array DictEntry} {ep:Nat},s₁.heap.get? b=some o->o.data= .dict es ep->H b=none:=λ{b o es ep} e d=>by
   cases q:H b with
   |none=>rfl
   |some u=>
    have e':b=a:=hA b (by rw [q];simp);subst e';rw [ha] at e;cases e;have d':Data.seq vs.toArray _=Data.dict es ep:=d;cases d'
  have UC:∀{b:Addr} {m:Str->Option Value},s₁.heap.Ns b m->(wF s₁.heap H).Ns b m:=λ{b m} ⟨o,es,ep,e,d,r⟩=>⟨o,es,ep,DD e (RD e d),d,r⟩
  have Zv:K.In (wF s₁.heap H):=λb o e=>DD (KX b o e) (by
   cases q:H b with
   |none=>rfl
   |some u=>
    have e':b=a:=hA b (by rw [q];simp);subst e'
    rw [hK (by rw [q];simp)] at e;cases e)
  have hM:Mod K mg (wF s₁.heap H):=⟨Zv,UC Zd,⟨mb,UC hb,hbb⟩,let ⟨mc,h1,h2⟩:=WB;⟨mc,UC h1,h2⟩⟩;have e0:BO P w K mg (wF s₁.heap H) callerA [] s₁ H:=⟨rfl,hM,λb o e=>L6 e,Nat.le_of_eq (EH _ _),trivial,λb hb=>absurd (show b∈([]:List Addr) from hb) (by simp),ba,.of_eq hg⟩;refine codeAny_mono ((F _ Zv (UC Zd)).run callerA [] s₁ H ⟨[.ref a],[]⟩ [.ref a] [.ref a] _ _ hr e0 (SY s₁ (.ref a)) (.cons rfl .nil) (NK H hO hS)) λr s' h=>?_;cases r with
  |error e=>exact (W4 H e s' h).elim
  |ok fl=>
   cases fl with
   |next=>exact False.elim h
   |brk=>exact False.elim h
   |cont=>exact False.elim h
   |ret u=>
    obtain ⟨v,H',os,bare,un,WY,r',q⟩:=h;have q':v= .bl true:=q;subst q';obtain rfl:u=Value.bool true:=r';refine ⟨rfl,OldK.of_keep λb o e=>?_,os,bare⟩;cases q:H b with
    |none=>exact un.keep b o e q (by intro z;exact absurd (show b∈([]:List Addr) from z) (by simp)) (by simp)
    |some u=>
     rcases hO b with z|⟨ob,xs,z⟩
     ·rw [q] at z;cases z
     ·have z2:=un.nH b ob _ z;obtain ⟨e1,_⟩:=ba b _ z;obtain ⟨e2,_⟩:=WY b _ z2;rw [e] at e1;cases e1;exact e2
 cases hk:K.lookup a with
 |some o=>
  have e:=KX a o hk;rw [ha] at e;cases e;refine core (λ_=>none) (λ_=> .inl rfl) (.inr ⟨_,vs.toArray,_,hk,rfl,rfl,rfl,by rw [List.size_toArray,VE];exact hl,by simpa using rv⟩) (λb u z=>by have z':(none:Option HO)=some u:=z;cases z') (λb z=>absurd rfl z) λz=>absurd rfl z
 |none=>
  refine core (λb=>if b=a then some (.xX {cls:= .type "list",data:= .seq vs.toArray} (.lst (ns.map V.int))) else none) (λb=>?_) (.inl (.inr ⟨{cls:= .type "list",data:= .seq vs.toArray},if_pos rfl⟩)) (λb u z=>?_) (λb z=>?_) λ_=>hk
  ·by_cases hb:b=a
   ·exact .inr ⟨_,_,if_pos hb⟩
   ·exact .inl (if_neg hb)
  ·by_cases hb:b=a
   ·have z':=(if_pos hb).symm.trans z;cases z';subst hb;exact ⟨ha,by rw [aad];exact hl,vs,_,rv,ha⟩
   ·have z':=(if_neg hb).symm.trans z;cases z'
  ·by_cases hb:b=a
   ·exact hb
   ·exact absurd (if_neg hb) z
theorem w6{l:PySem.W.OpenLaw}{n k:Nat}{q:Program}{loose:List Str}{XP:(Str->Option Value)->Heap->Prop}{YP:World->Heap->Prop}{d:DefRec}{K:Params->PySem.W.Frag}{CX:World->AA}{sp:World->Sp}{x:Str}
  (hn:l.most=some n) (Uw:n<=sizeLine) (R0:d.params.defaults=[]) (hr:bM k callerA)
  (hY:∀(w:World) (h:Heap),YP w h->(K w.params).In h)
  (F:∀(w:World) (mg:Str->Option Value) (fa:Addr) (h:Heap),(K w.params).In h->h.Ns mainGlobals mg->mg d.name=some (.ref fa)->
   ∃fd:FuncData,(∀(s:Shared) (u:Value),BindsTo s fd ⟨[u],[]⟩ [(x,u)])/\
    ∀base:Heap,(K w.params).In base->base.Ns mainGlobals mg->aq l.prog w (K w.params) mg base (CX w) k fa fd [x] (sp w))
  (NK:∀(w:World) (H:Hp) (a:Addr) (ns:List Int),ns.length<=n->O3 H->gy (K w.params) H a (ns.map V.int)->sp w [.ref a] H (λv _=>v= .bl true) λ_ _ _=>False)
  (W4:∀(w:World) (H:Hp) (s:Shared) (e:Value) (s':Shared),CX w [] H s (λ_ _ _=>False) e s'->False):
  PySem.W.WalkO q loose XP YP l.row.toRowW d [] (λf vs=>PySem.call f vs):=by
 refine Att.Ag hn R0 λw s₀ s₁ mg mb fa o pm cd doc a vs ns G Y ho hd C2 Mr Qf hints hlen hg=>?_;have KX:=hY w _ Y;obtain ⟨fd,hb,hF⟩:=F w mg fa _ KX G.T.g Mr;exact Kh KX G.T.g G.T.b G.T.builtins G.T.nolimit hg Qf hints (aaq hlen Uw) hr hF hb (λH hO hS=>NK w H a ns hlen hO hS) λH e s'=>W4 w H s₁ e s'
end L2
/- THE U2 LP (shape;LID,My.* are Rc):
  My.Adr:a structure of L9 addresses Wc WJ Sq names (classes,EU);My.Txt K t:a structure (Prop) of L9 equations pY K;
  My.AI:{K} {implicit addresses ..} (e1:nsIn K mainGlobals "law"=some (some (.ref f))) (e2:K.lookup f=some ⟨oc,od,.func (fnOf "law" "law" params body scope dV kV doc pm an aV ct),sl⟩) (e3:codeIn K aV "law"=true) .. :∃t,My.Txt K t
set_option maxRecDepth 100000 in
set_option maxHeartbeats 0 in
theorem PySem.Challenge.cw_LID_holds : PySem.Challenge.rw_LID.Holds := by
 w_on;o_law;k_head;(case hw=>w_witness2)
 k_fill
 refine L2.w6 (l:=PySem.Challenge.rw_LID) (n:=63) (k:=40) (x:="script") (CX:=fun w=> ..) (sp:=fun _=>My.Qi) rfl (by decide) rfl ⟨rfl,by decide,by decide⟩ (fun w h Y=>PySem.W.kIn_of Y) ?F ?S ?C
 case F=>
  intro w mg fa h KX G Mr;have T:∃t,My.Txt (L2.WW KX) t:=by
   dsimp only [L2.WW]
   refine' My.AI ?e1 ?e2 ?e3 ..
   (case e1=>PySem.W.k_is)
   (case e2=>PySem.W.k_is)
   ..
  obtain ⟨t,T⟩:=T;have e0:=Mr.symm.trans (PySem.W.mg_of KX G T.law);cases e0;exact ⟨_,λs u=> .of_eq rfl,λbase kb nb=>My.AX T kb nb⟩
 case S=>exact λw H a ns hl hO hS=> ..
 case C=>exact ..
(L9 tactic k_is has no namespace:write k_is) -/
namespace L2
open PySem PySem.Spec PyProof.Rows
def fZ(s:Stmt):Arguments:=match s with
 |.FunctionDef _ a _ _ _ _ _ _ _ _=>a
 |_=>{posonlyargs:=[],args:=[],vararg:=none,kwonlyargs:=[],kw_defaults:=[],kwarg:=none,defaults:=[]}
def dD(s:Stmt):List Stmt:=match s with
 |.FunctionDef _ _ b _ _ _ _ _ _ _=>b
 |_=>[]
def τ(s:Stmt):Scope:=match s with
 |.FunctionDef _ _ _ _ _ _ sc _ _ _=>sc
 |_=>{kind:= .function,names:=[],isGenerator:=false,isCoroutine:=false}
abbrev UY:AA:=λ_ _ _ _ _ _=>False
abbrev E0:XK:=λ_ _ _=>False
structure cI(K:PySem.W.Frag)(x qual:Str)(st:Stmt)(f:Addr)(fd:FuncData):Prop where
 ex:∃(oc:Value) (od:Option Addr) (kV doc pm:Value) (an:Option Addr) (aV ct:Value) (Aw:Array (Option Value)),
  fd=PySem.W.fnOf x qual (fZ st) (dD st) (τ st) .none kV doc pm an aV ct/\K.lookup f=some ⟨oc,od,.func fd,Aw⟩/\PySem.W.codeIn K aV qual=true
 kp:PySem.W.keepIn K (.ref f)=true
section
variable{P:Program}{w:World}{K:PySem.W.Frag}{mg:Str->Option Value}{base:Heap}
theorem cI.binds{x qual:Str}{st:Stmt}{f:Addr}{fd:FuncData}{ps:List Str}(F:cI K x qual st f fd)
  (h:∀(kV doc pm:Value) (an:Option Addr) (aV ct:Value) (us:List Value),us.length=ps.length->bindArgs (PySem.W.fnOf x qual (fZ st) (dD st) (τ st) .none kV doc pm an aV ct) ⟨us,[]⟩=pure (ps.zip us)):h7 K fd ps []:=by
 obtain ⟨oc,od,kV,doc,pm,an,aV,ct,Aw,rfl,lk,C2⟩:=F.ex;exact .all (h kV doc pm an aV ct)
theorem Im{x qual:Str}{st:Stmt}{f:Addr}{oc:Value}{od an:Option Addr}{Aw:Array (Option Value)}{kV doc pm aV ct:Value}(l:K.lookup f=some ⟨oc,od,.func (PySem.W.fnOf x qual (fZ st) (dD st) (τ st) .none kV doc pm an aV ct),Aw⟩)
  (c:PySem.W.codeIn K aV qual=true) (k:PySem.W.keepIn K (.ref f)=true):cI K x qual st f (PySem.W.fnOf x qual (fZ st) (dD st) (τ st) .none kV doc pm an aV ct):=⟨⟨oc,od,kV,doc,pm,an,aV,ct,Aw,rfl,l,c⟩,k⟩
end
theorem Ea{A:Around}{k:Nat}(hr:bM k A):A.units+1<cLine:=aaK (Nat.add_le_add_left (by decide:1<=64) _) hr.units
theorem Hn{A B:Prop}(h:B):if false=true then A else B:=by rw [if_neg aat];exact h
theorem G9{A B:Prop}(h:A):if true=true then A else B:=by rw [if_pos rfl];exact h
def dX(H H':Hp):Prop:=∀b o,H b=some o->H' b=some o
theorem dX.refl(H:Hp):dX H H:=λ_ _ h=>h
theorem dX.trans{H H1 H2:Hp}(a:dX H H1)(b:dX H1 H2):dX H H2:=λc o h=>b c o (a c o h)
theorem dX.free{H H':Hp}(e:dX H H'){l:Addr}(h:H' l=Option.none):H l=Option.none:=by
 cases q:H l with
 |none=>rfl
 |some o=>
  rw [e l o q] at h;cases h
theorem dX.seq{K:PySem.W.Frag}{H H':Hp}{a:Addr}{xs:List V}(e:dX H H')(h:gy K H a xs):gy K H' a xs:=by
 rcases h with (h|⟨o,h⟩)|h
 ·exact .inl (.inl (e _ _ h))
 ·exact .inl (.inr ⟨o,e _ _ h⟩)
 ·exact .inr h
section
variable{P:Program}{w:World}
def KO(B:Heap)(l:List Env)(x:Addr)(o:Obj)(fl:Value)(h:Heap):Prop:=
 B.StaysIn h/\B.get? x=none/\h.FunFrames B l/\∃(vs:Array Value) (T:Addr) (oT:Obj) (ts:Array Value),h.get? x=some {o with data:= .fields vs}/\vs[2]? =some .none/\vs[1]? =some (.ref T)/\
  B.get? T=none/\T≠x/\h.get? T=some oT/\oT.data= .fields ts/\ts[3]? =some fl
section
variable{M:Model}{A:Around}{E:Value->Shared->Prop}{s:Shared}{B:Heap}{env:Env}{outer l:List Env}{L x:Addr}{o:Obj}{vs:Array Value}{Q:Unit->Shared->Prop}
theorem qG{h h':Heap}{T:Addr}{oT:Obj}{ts:Array Value}(hT:h.get? T=some oT)(hd:oT.data= .fields ts)(k:∀b,b≠T->h'.get? b=h.get? b):h.UpToSlots h':=λb ob e hn=>
 ⟨ob.slots,(k b λz=>by rw [z,hT] at e;cases e;exact hn _ hd).trans e⟩
theorem uC{h h':Heap}(hl:h.FunFrames B l)(u:h.UpToSlots h'):h'.FunFrames B l:=hl.of_keeps λb ob e hn=>by obtain ⟨sl,q⟩:=u b ob e hn;exact ⟨_,q,rfl⟩
theorem JZ{head:Value}{Ux:Bool}(XE:A.frames=some (env::outer))(hf:env.frame=some L)(hB:B.StaysIn s.heap)(hn:B.get? x=none)(hl:s.heap.FunFrames B (env::outer))(hx:s.heap.get? x=some {o with data:= .fields vs})(h1:1<vs.size)(h2:vs[2]? =some .none)
  (h:∀h',KO B (env::outer) x o (rawInt L) h'->s.heap.UpToSlots h'->Q () {s with heap:=h'}):
  wpAny M A (do let a<-frameOf env;let pl<-entryPlaceOf L Ux;let n<-EntryCells.newEntry head a .none (rawInt L) .none pl;setField (.ref x) 1 n) Q E s:=by
 refine wpAny_bind (wpAny_frameOf_fun XE hl hf λg1 S1=>wpAny_bind (wpAny_entryPlaceOf λpl fJ=>?_));have nx:x∉(env::outer).filterMap (·.frame):=λz=>by obtain ⟨_,ob,e,d⟩:=hl.mem z;rw [hx] at e;cases e;exact d _ rfl
 have Zq:g1.get? x=some {o with data:= .fields vs}:=(S1.2.1 x nx).trans hx;unfold EntryCells.newEntry newFields;refine wpAny_bind (wpAny_newObj_type ?_ (fJ.sizeOk5 _ _ _ _ _));have Z2:=Heap.get?_push_of_some (h:=g1) {cls:= .type "traceback",dict:=none,data:= .fields ([head,.ref L,.none,rawInt L,.none]++(if pl.isEmpty then List.replicate 6 Value.none else pl)).toArray} Zq;refine wpAny_setField Z2 rfl h1 (h _ ?_ ?_)
 ·have up1:∀b ob,b≠x->g1.get? b=some ob->((g1.push {cls:= .type "traceback",dict:=none,data:= .fields ([head,.ref L,.none,rawInt L,.none]++(if pl.isEmpty then List.replicate 6 Value.none else pl)).toArray}).update x (Obj.mapFields (·.setIfInBounds 1 (Value.ref g1.objs.size)))).get? b=some ob:=λb ob nb e=>
   (Heap.get?_update_other _ _ (Ne.symm nb)).trans (Heap.get?_push_of_some _ e)
  have neT:g1.objs.size≠x:=acb (Heap.lt_size Zq)
  refine ⟨λb ob e=>up1 b ob (λz=>by rw [z,hn] at e;cases e) ((S1.2.1 b λz=>by rw [(hl.mem z).1] at e;cases e).trans (hB b ob e)),hn,hl.of_keeps λb ob e d=>?_,vs.setIfInBounds 1 (.ref g1.objs.size),g1.objs.size,_,_,Heap.get?_update_self _ Z2 rfl,by rw [Array.getElem?_setIfInBounds_ne (by decide)];exact h2,by simp [h1],?_,neT,
   (Heap.get?_update_other _ _ (Ne.symm neT)).trans (Heap.get?_push_size g1 rfl),rfl,?_⟩
  ·obtain ⟨sl,q⟩:=S1.2.2 b ob e;exact ⟨_,up1 b _ (λz=>by rw [z,hx] at e;cases e;exact d _ rfl) q,rfl⟩
  ·cases q:B.get? g1.objs.size with
   |none=>rfl
   |some ob=>
    have:=Heap.lt_size (hB _ _ q);rw [<-S1.1] at this;exact absurd this (abi _)
  ·first
    |(simp;done)
    |(rcases fJ with rfl|⟨_,_,_,_,_,_,_,rfl⟩ <;> simp)
 ·intro b ob e d;obtain ⟨sl,q⟩:=S1.2.2 b ob e;refine ⟨sl,?_⟩;rw [Heap.get?_update_other _ _ (λz:x=b=>by rw [<-z,hx] at e;cases e;exact d _ rfl)];exact Heap.get?_push_of_some _ q
theorem S7(XE:A.frames=some (env::outer))(hf:env.frame=some L)(R:KO B (env::outer) x o .none s.heap)
  (h:∀h',KO B (env::outer) x o (rawInt L) h'->s.heap.UpToSlots h'->Q () {s with heap:=h'}):wpAny M A (noteFrame (.ref x) env) Q E s:=by
 obtain ⟨hB,hn,hl,vs,T,oT,ts,hx,h2,h1,nT,UD,hT,dT,h3⟩:=R;unfold noteFrame;simp only [hf];refine wpAny_bind (wpAny_field hx rfl h1 ?_);rw [if_pos (show (Value.ref T != Value.none)=true by simp)];refine wpAny_bind (wpAny_field hT dT h3 ?_);rw [if_neg (show¬((Value.none==rawInt L)=true) by simp [rawInt])];refine wpAny_bind (wpAny_setField hT dT (abO.mp h3).1 ?_);have Kp:∀b,b≠T->(s.heap.update T (Obj.mapFields (·.setIfInBounds 3 Value.none))).get? b=s.heap.get? b:=λb nb=>Heap.get?_update_other _ _ (Ne.symm nb);have u:=qG hT dT Kp;exact JZ XE hf (λb ob e=>(Kp b λz=>by rw [z,nT] at e;cases e).trans (hB b ob e)) hn (uC hl u) ((Kp x (Ne.symm UD)).trans hx) (abO.mp h1).1 h2 λh' F' u'=>h h' F' (u.trans u')
theorem Mt{fl:Value}(R:KO B l x o fl s.heap)(h:∀h',KO B l x o .none h'->s.heap.UpToSlots h'->Q () {s with heap:=h'}):wpAny M A (setFlight (.ref x) none) Q E s:=by obtain ⟨hB,hn,hl,vs,T,oT,ts,hx,h2,h1,nT,UD,hT,dT,h3⟩:=R;unfold setFlight;refine wpAny_bind (wpAny_field hx rfl h1 ?_);rw [if_pos (show (Value.ref T != Value.none)=true by simp)];have z3:=(abO.mp h3).1;have Kp:∀b,b≠T->(s.heap.update T (Obj.mapFields (·.setIfInBounds 3 ((none:Option Addr).elim Value.none λf=>rawInt f)))).get? b=s.heap.get? b:=λb nb=>Heap.get?_update_other _ _ (Ne.symm nb);have u:=qG hT dT Kp;refine wpAny_setField hT dT z3 (h _ ⟨λb ob e=>(Kp b λz=>by rw [z,nT] at e;cases e).trans (hB b ob e),hn,uC hl u,vs,T,_,_,(Kp x (Ne.symm UD)).trans hx,h2,h1,nT,UD,Heap.get?_update_self _ hT (Obj.isFreed_of_fields (Obj.data_mapFields dT _)),Obj.data_mapFields dT _,by simp [z3]⟩ u)
theorem P9{fl:Value}{h:Heap}(R:KO B (env::outer) x o fl h):KO B outer x o fl h:=by obtain ⟨hB,hn,⟨_,_,hl⟩,r⟩:=R;exact ⟨hB,hn,hl,r⟩
end
structure Uo(P:Program)(w:World)(l:List Env)(H H':Hp)(h h' B:Heap)(x:Addr)(o:Obj):Prop where
 un:Un (pQ l) [] H H' h h'
 ok:kW P w H' B
 RT:KO B l x o .none h'
 Az:∀b u,h.get? b=some u->H b=none->b∉pQ l->B.get? b=some u
 RF:∀b u,h.get? b=some u->b∉pQ l->∃u',B.get? b=some u'
variable{l:List Env}{H H':Hp}{h h' UU B:Heap}{x:Addr}{o:Obj}
end
def bV(P:Program)(w:World):AA:=λouter H s E e s'=>
 ∃x o H' B,e= .ref x/\s'.os=s.os/\AllBare s'.gens/\Uo P w outer H H' s.heap s'.heap B x o/\E o.cls o.dict H'
section
variable{X:Cx}{ζ:List (Addr×Obj)}{σ:St}{H H':Hp}{s:Shared}{UU B:Heap}{x:Addr}{ox:Obj}
theorem Uo.leave(I:Inv X ζ σ H s)(hex:X.ex=[])(O5:∀b∈pQ X.outer,b∈pQ X.stack)(ok:kW X.prog X.w H' B)(f:KO B X.outer x ox .none UU)(nx0:X.s₀.heap.get? x=none)
  (Az:∀b o,b≠x->s.heap.get? b=some o->H b=none->b∉pQ X.stack->B.get? b=some o)
  (RF:∀b o,b≠x->s.heap.get? b=some o->b∉pQ X.stack->∃o',B.get? b=some o')
  (sl:∀b o,s.heap.get? b=some o->b∈pQ X.stack->∃sl,UU.get? b=some {o with slots:=sl})
  (free:∀b o,s.heap.get? b=some o->H b=none->H' b=none)
  (pP:∀b xs,H b=some (.tup xs)->H' b=some (.tup xs)) (nH:∀b o u,H b=some (.xX o u)->H' b=some (.xX o u))
  (pR:∀b ps,H b=some (.KH ps)->∃more,H' b=some (.KH (ps++more))):Uo X.prog X.w X.outer X.H₀ H' X.s₀.heap UU B x ox:=by
 have nX:∀b o,X.s₀.heap.get? b=some o->b≠x:=λb o e z=>by rw [z,nx0] at e;cases e
 have k8:∀b:Addr,b∉X.ex:=λb z=>by rw [hex] at z;cases z
 have nS:∀b o,X.s₀.heap.get? b=some o->b∉pQ X.outer->b∉pQ X.stack:=λb o e hb z=>
  (aay.mp (I.wY b z)).elim (λq=>aaE (aap (Heap.lt_size e) I.ok.above) q) hb
 refine ⟨⟨λb o e n hb _=>?_,λb o e n hb _=>?_,λb o e n _=>?_,λb o e _=>?_,λb xs e=>pP b xs (I.base.pP b xs e),λb o u e=>nH b o u (I.base.nH b o u e),λb ps e=>?_⟩,ok,f,λb o e n hb=>?_,λb o e hb=>?_⟩
 ·exact f.1 b o (Az b o (nX b o e) (I.base.keep b o e n hb (k8 b)) (I.base.free b o e n (k8 b)) (nS b o e hb))
 ·obtain ⟨s1,e1⟩:=I.base.slot b o e n hb (k8 b);obtain ⟨s2,e2⟩:=sl b _ e1 (O5 b hb);exact ⟨s2,e2⟩
 ·obtain ⟨o',e1⟩:=I.base.there b o e (k8 b);exact free b o' e1 (I.base.free b o e n (k8 b))
 ·obtain ⟨o',e1⟩:=I.base.there b o e (k8 b);by_cases hb:b∈pQ X.stack
  ·obtain ⟨s2,e2⟩:=sl b _ e1 hb;exact ⟨_,e2⟩
  ·obtain ⟨o2,q⟩:=RF b o' (nX b o e) e1 hb;exact ⟨o2,f.1 _ _ q⟩
 ·obtain ⟨m1,e1⟩:=I.base.pR b ps e;obtain ⟨m2,e2⟩:=pR b _ e1;exact ⟨m1++m2,by rw [e2,Array.append_assoc]⟩
 ·exact Az b o (nX b o e) (I.base.keep b o e n hb (k8 b)) (I.base.free b o e n (k8 b)) (nS b o e hb)
 ·obtain ⟨o',e1⟩:=I.base.there b o e (k8 b);exact RF b o' (nX b o e) e1 (nS b o e hb)
end
def cZ(CX:AA)(X:Cx)(R:St->XK):Prop:=∀(ζ:List (Addr×Obj)) (σ:St) (H:Hp) (s:Shared) (e:Value) (s':Shared),Inv X ζ σ H s->CX X.stack H s (R σ) e s'->X.xe e s'
section
variable{P:Program}{w:World}{K:PySem.W.Frag}{mg:Str->Option Value}{base:Heap}{N:List Str}{qual:Str}{scope:Scope}{f:Addr}{cd:Value}{A:Around}{outer:List Env}{s₀:Shared}{H₀:Hp}{E:XK}
theorem MN{env:Env}{outer:List Env}:∀b∈pQ outer,b∈pQ (env::outer):=λb hb=>by obtain ⟨en,he,hf⟩:=ab2.mp hb;exact ab2.mpr ⟨en,aac _ he,hf⟩
theorem ξ:cZ (bV P w) (tL (bV P w) P w K mg base N qual scope f cd A outer s₀ H₀ E) (λ_=>E):=by
 intro ζ σ H s e s' I hx;obtain ⟨x,o,H',B,rfl,os,bare,F,hE⟩:=hx;show wpAny _ _ (do noteFrame (.ref x) _;setFlight (.ref x) none) _ _ s';refine wpAny_bind (S7 (B:=B) I.ok.frames rfl F.RT λh4 f4 u4=>Mt f4 λh5 f5 u5=>?_);refine ⟨x,o,H',B,rfl,os.trans I.os,bare,Uo.leave I rfl MN F.ok (P9 f5) ?_ (λb o _=>F.Az b o) (λb o _=>F.RF b o) (λb o q hb=>?_) (λb o q n=>F.un.free b o q n (by simp)) F.un.pP F.un.nH F.un.pR,hE⟩
 ·show s₀.heap.get? x=none;cases q:s₀.heap.get? x with
  |none=>rfl
  |some u=>
   obtain ⟨u',e1⟩:=I.base.there x u q (λz=>nomatch z);by_cases hb:x∈pQ (tL (bV P w) P w K mg base N qual scope f cd A outer s₀ H₀ E).stack
   ·obtain ⟨vs,_,_,_,hxx,_⟩:=F.RT.2.2.2;obtain ⟨_,o',EE,hd⟩:=F.RT.2.2.1.mem hb;rw [hxx] at EE;cases EE;exact absurd rfl (hd _)
   ·obtain ⟨u2,e2⟩:=F.RF x u' e1 hb;rw [F.RT.2.1] at e2;cases e2
 ·obtain ⟨sl,e1⟩:=F.un.slot b o q (I.wX b hb) hb (by simp);obtain ⟨_,o',EE,hd⟩:=F.RT.2.2.1.mem hb;rw [e1] at EE;cases EE;obtain ⟨UI,e2⟩:=(u4.trans u5) b _ e1 hd;exact ⟨UI,e2⟩
end
def PV(sp:Sp)(nF:List V)(R:St->XK)(t:TA):TE:=λσ H Q=>t σ H λvs H1=>sp (vs++nF) H1 Q (R σ)
section
variable{X:Cx}{CX:AA}{k:Nat}{f:Addr}{fd:FuncData}{ps:List Str}{sp:Sp}{nF:List V}{ds:List Value}{R:St->XK}{x:Str}{p pos:Pos}{e:Expr}{es:List Expr}{t:TA}
theorem wg{ζ:List (Addr×Obj)}{σ:St}{H:Hp}{s:Shared}{Q:VK}{us:List Value}{vs:List V}(F:aq X.prog X.w X.K X.mg X.base CX k f fd ps sp)(hr:bM k X.A)(hb:h7 X.K fd ps ds)(hd:ay nF ds)(hx:cZ CX X R)
  (I:Inv X ζ σ H s) (r:ay vs us) (h:sp (vs++nF) H Q (R σ)):wpAny (model X.prog X.w) X.A (call (.ref f) us) (EP X ζ σ Q) X.xe s:=by
 have r2:ay (vs++nF) (us++ds):=r.append hd;have hl:(us++ds).length=ps.length:=by rw [<-r2.length];exact F.len _ _ _ _ h
 refine wpAny_call (codeAny_mono (F.run X.A X.stack s H ⟨us,[]⟩ (us++ds) (vs++nF) Q (R σ) hr I.Rg (hb s us I.pK hl) r2 h) λr s' hq=>?_);cases r with
 |error e=>exact hx ζ σ H s e s' I hq
 |ok fl=>
  cases fl with
  |ret u=>exact I.after hq
  |next=>exact False.elim hq
  |brk=>exact False.elim hq
  |cont=>exact False.elim hq
theorem zo(F:aq X.prog X.w X.K X.mg X.base CX k f fd ps sp)(hr:bM k X.A)(hg:Gl X x)(hm:X.mg x=some (.ref f))(hk:PySem.W.keepIn X.K (.ref f)=true)(hb:h7 X.K fd ps ds)(hd:ay nF ds)(hx:cZ CX X R)
  (ha:PA X (e::es) t) (tS:(x==("__debug__":Str))=false:=by decide) (he:starEach (e::es) X.env=(false,eval e X.env)::starEach es X.env:=by rfl) (fJ:(backTo pos (starEach es X.env)).any (·.1)=false:=by rfl):
  PE X (.Call (.Name x p) (e::es) [] pos) (PV sp nF R t):=by
 intro ζ s σ H Q I h;refine wpAny_Call_Name_kw (qi I hg hm ?_ tS);refine PySem.W.callWith_K (h₀:=X.base) I.ok.mod.RM hk (bC (ha pos ζ s σ H _ I h) λus s1 ⟨vs,H1,I1,r,q⟩=>⟨I1.pK,?_⟩) he fJ;exact wg F hr hb hd hx I1 r q
end
def l_(env:Env):List (Str×NameKind)->List (Str×Addr)->List (Str×Addr)
 |[],Ι=>Ι
 |p::r,Ι=>l_ env r (if p.2== .free then (p.1,(env.cells.lookup p.1).getD 0)::Ι else Ι)
theorem qN{scope:Scope}{env:Env}(h:∀p∈scope.names,p.2= .free->(env.cells.lookup p.1).isSome=true):closureFor scope env=pure (l_ env scope.names []):=by
 have key:∀(l:List (Str×NameKind)) (Ι:List (Str×Addr)),(∀p∈l,p.2= .free->(env.cells.lookup p.1).isSome=true)->
   (forIn l Ι (λ(p:Str×NameKind) (r:List (Str×Addr))=>(if p.2== .free then (do let c<-cellOf env p.1;pure (ForInStep.yield ((p.1,c)::r))) else pure (ForInStep.yield r):Sem (ForInStep (List (Str×Addr))))))=(pure (l_ env l Ι):Sem (List (Str×Addr))):=by
  intro l
  induction l with
  |nil=>intro Ι _;rfl
  |cons p r ih=>
   intro Ι hp;rw [List.forIn_cons];have ZC:=λa=>ih a λq hq=>hp q (aac _ hq);obtain ⟨n,k⟩:=p;by_cases hk:k= .free
   ·subst hk;have hs:=hp (n,.free) aae rfl;cases hl:env.cells.lookup n with
    |none=>rw [show env.cells.lookup (n,NameKind.free).1=none from hl] at hs;cases hs
    |some c=>
     have e1:l_ env ((n,.free)::r) Ι=l_ env r ((n,c)::Ι):=by show l_ env r (if (NameKind.free==NameKind.free)=true then (n,(env.cells.lookup n).getD 0)::Ι else Ι)=_;rw [if_pos (by decide),hl];rfl
     have e2:cellOf env n=pure c:=by unfold cellOf;rw [hl]
     rw [e1];have e3:(NameKind.free==NameKind.free)=true:=by decide
     simp only [e3,if_true,e2,pure_bind];exact ZC _
   ·have hb:(k==NameKind.free)=false:=by simpa using hk
    have e1:l_ env ((n,k)::r) Ι=l_ env r Ι:=by show l_ env r (if (k==NameKind.free)=true then (n,(env.cells.lookup n).getD 0)::Ι else Ι)=_;rw [hb,if_neg (by decide)]
    rw [e1];simp only [hb,Bool.false_eq_true,if_false,pure_bind];exact ZC _
 have:=key scope.names [] h;unfold closureFor
 first
  |exact this
  |(simp only [bind_pure];exact this)
  |(rw [bind_pure];exact this)
theorem u6{env:Env}{y:Str}{c:Addr}:∀(l:List (Str×NameKind)) (Ι:List (Str×Addr)),(∀p∈l,p.2= .free->(env.cells.lookup p.1).isSome=true)->
  (Ι.lookup y=some c->env.cells.lookup y=some c)->(l_ env l Ι).lookup y=some c->env.cells.lookup y=some c
 |[],Ι,_,ha,h=>ha h
 |(n,k)::r,Ι,hp,ha,h=>by
  refine u6 r _ (λq hq=>hp q (aac _ hq)) (λe=>?_) h;split at e
  ·rename_i hk;rw [aa9] at e;cases q:(y==n) with
   |true=>
    rw [q] at e;have e':(env.cells.lookup n).getD 0=c:=aas e;have hn:y=n:=by simpa using q
    subst hn;have hs:=hp (y,k) List.mem_cons_self (by simpa using hk);cases z:env.cells.lookup y with
    |none=>rw [show env.cells.lookup (y,k).1=none from z] at hs;cases hs
    |some d=>rw [z] at e';rw [<-e'];rfl
   |false=>rw [q] at e;exact ha e
  ·exact ha e
theorem sv{env:Env}{y:Str}:∀(l:List (Str×NameKind)) (Ι:List (Str×Addr)),((y,NameKind.free)∈l\/(Ι.lookup y).isSome=true)->((l_ env l Ι).lookup y).isSome=true
 |[],Ι,h=>by
  rcases h with h|h
  ·cases h
  ·exact h
 |(n,k)::r,Ι,h=>by
  refine sv r _ ?_;by_cases hy:y=n
  ·subst hy;by_cases hk:k= .free
   ·subst hk;right;show (List.lookup y (if (NameKind.free==NameKind.free)=true then (y,(env.cells.lookup y).getD 0)::Ι else Ι)).isSome=true;rw [if_pos (by decide),aa9,beq_self_eq_true];rfl
   ·rcases h with h|h
    ·rcases aay.mp h with z|z
     ·exact absurd (Prod.mk.inj z).2.symm hk
     ·exact .inl z
    ·right;rw [if_neg (by simpa using hk)];exact h
  ·rcases h with h|h
   ·rcases aay.mp h with z|z
    ·exact absurd (Prod.mk.inj z).1 hy
    ·exact .inl z
   ·right;split
    ·rw [List.lookup_cons,show (y==n)=false by simpa using hy];exact h
    ·exact h
def Cx.comp(X:Cx)(Nc:List Str)(scope:Scope)(C:Addr)(s:Shared)(H:Hp)(fp:List Addr):Cx:={X with
 N:=Nc
 s₀:=s
 H₀:=H
 env:=compEnvC scope (l_ X.env scope.names []) C X.env
 outer:=X.stack
 ex:=fp
 fn:=λ_=>false
 pn:=[]
 xe:=λ_ _=>False}
theorem Ε.of{N P:List Str}{sc:Scope}(h:(sc.kind,sc.isCoroutine,sc.isGenerator)=(.function,false,false))(h2:N.Nodup/\N.take P.length=P/\(∀x∈P,sc.names.lookup x=some .local\/sc.names.lookup x=some .cell)/\(∀y∈sc.names,y.2≠ .free):=by decide+kernel):Ε N P sc:=by obtain ⟨a,b,c,d⟩:=h2;exact ⟨congrArg (·.1) h,congrArg (·.2.1) h,congrArg (·.2.2) h,a,b,c,d⟩
structure aF(X:Cx)(scope:Scope)(xs ys:List Str)(ak:List Nat):Prop where
 kind:scope.kind= .function
 J9:∀p∈scope.names,p.2≠ .cell
 names:∀p∈scope.names,p.2= .local->scope.names.lookup p.1=some .local
 own:∀x∈xs,scope.names.lookup x=some .local
 free:∀p∈scope.names,p.2= .free->X.env.scope.names.lookup p.1=some .cell
 nd:(xs++ys).Nodup
 cap:∀q∈ys.zip ak,X.N[q.2]? =some q.1/\X.env.scope.names.lookup q.1=some .cell/\scope.names.lookup q.1=some .free
 len:ys.length=ak.length
theorem aF.of{X:Cx}{scope:Scope}{xs ys:List Str}{ak:List Nat}{N ps:List Str}{sc:Scope}(_:Ε N ps sc)(hN:X.N=N)(hs:X.env.scope=sc)(k:scope.kind= .function)(h:(∀p∈scope.names,p.2≠ .cell)/\(∀p∈scope.names,p.2= .local->scope.names.lookup p.1=some .local)/\(∀x∈xs,scope.names.lookup x=some .local)/\(∀p∈scope.names,p.2= .free->sc.names.lookup p.1=some .cell)/\(xs++ys).Nodup/\(∀q∈ys.zip ak,N[q.2]? =some q.1/\sc.names.lookup q.1=some .cell/\scope.names.lookup q.1=some .free)/\ys.length=ak.length:=by decide+kernel):aF X scope xs ys ak:=by subst hN hs;obtain ⟨a,b,c,d,e,f,g⟩:=h;exact ⟨k,a,b,c,d,e,f,g⟩
theorem Jr{env:Env}{y:Str}:∀{l:List (Str×NameKind)},(∀p∈l,p.2≠ .cell)->
  ((l.map λ(n,k)=>if (k==NameKind.free&&env.scope.kind== .function&&env.kindOf n==some .cell) then (n,NameKind.cell) else (n,k)).lookup y=some .cell\/
   (l.map λ(n,k)=>if (k==NameKind.free&&env.scope.kind== .function&&env.kindOf n==some .cell) then (n,NameKind.cell) else (n,k)).lookup y=some .free)->(y,NameKind.free)∈l
 |[],_,h=>by rcases h with h|h <;> cases h
 |(n,k)::r,hc,h=>by
  have ih:= @Jr env y r (λp hp=>hc p (aac _ hp));rw [aaB] at h;by_cases q:(k==NameKind.free&&env.scope.kind== .function&&env.kindOf n==some .cell)=true
  ·have hk:k= .free:=by rw [aar,aar] at q;simpa using q.1.1
   subst hk;by_cases hy:y=n
   ·subst hy;exact aae
   ·refine aac _ (ih ?_);have hb:(y==n)=false:=by simpa using hy
    simp only [q,if_true,List.lookup_cons,hb] at h;exact h
  ·by_cases hy:y=n
   ·subst hy;have hb:(y==y)=true:=by simp
    simp only [q,Bool.false_eq_true,if_false,List.lookup_cons,hb] at h;rcases h with h|h
    ·exact absurd (aas h) (hc (y,k) aae)
    ·rw [<-aas h];exact aae
   ·refine aac _ (ih ?_);have hb:(y==n)=false:=by simpa using hy
    simp only [q,Bool.false_eq_true,if_false,List.lookup_cons,hb] at h;exact h
theorem Aj{env:Env}{y:Str}(hk:env.scope.kind= .function)(hy:env.kindOf y=some .cell):∀{l:List (Str×NameKind)},l.lookup y=some .free->
  (l.map λ(n,k)=>if (k==NameKind.free&&env.scope.kind== .function&&env.kindOf n==some .cell) then (n,NameKind.cell) else (n,k)).lookup y=some .cell
 |[],h=>by cases h
 |(n,k)::r,h=>by
  have ih:= @Aj env y hk hy r;rw [aaB];rw [aa9] at h;by_cases e:y=n
  ·subst e;have hb:(y==y)=true:=by simp
   rw [hb] at h;have:k= .free:=aas h;subst this;have q:(NameKind.free==NameKind.free&&env.scope.kind== .function&&env.kindOf y==some .cell)=true:=by rw [hk,hy];rfl
   simp only [q,if_true,List.lookup_cons,hb]
  ·have hb:(y==n)=false:=by simpa using e
   rw [hb] at h;by_cases q:(k==NameKind.free&&env.scope.kind== .function&&env.kindOf n==some .cell)=true
   ·simp only [q,if_true,List.lookup_cons,hb];exact ih h
   ·simp only [q,Bool.false_eq_true,if_false,List.lookup_cons,hb];exact ih h
theorem aF.has{X:Cx}{scope:Scope}{xs ys:List Str}{ak:List Nat}(S:aF X scope xs ys ak)(ok:X.Ok):∀p∈scope.names,p.2= .free->(X.env.cells.lookup p.1).isSome=true:=λp hp hf=>by obtain ⟨c,e⟩:=ok.has p.1 (.inl (S.free p hp hf));rw [e];rfl
theorem II{α β:Type}:∀{xs:List α}{ys:List β}{j:Nat}{x:α}{y:β},xs[j]? =some x->ys[j]? =some y->(x,y)∈xs.zip ys
 |x::xs,y::ys,0,_,_,h1,h2=>by cases h1;cases h2;exact aae
 |x::xs,y::ys,j+1,_,_,h1,h2=>aac _ (II (xs:=xs) (ys:=ys) (j:=j) h1 h2)
 |[],_,_,_,_,h1,_=>by simp at h1
 |_::_,[],_,_,_,_,h2=>by simp at h2
def nW(ak:List Nat)(σ:St):St:=ak.map λi=>(σ[i]?).join
def vk(n:Nat)(gg:TG):Prop:=∀v (os cs:St) H (Q:St->Hp->Prop),os.length=n->gg v (os++cs) H Q->gg v (os++cs) H λσ' H'=>(∃UH:St,UH.length=n/\σ'=UH++cs)/\Q σ' H'
def BH(J:It)(n:Nat)(gg:TG)(tc:TT)(te:TE)(cs:St)(Q:VK)(H1:Hp)(D:Addr):Prop:=
 ∃ W:Nat->Nat->List V->Hp->Prop,(∃m,W 0 m [] (upd H1 D (.lst [])))/\∀i m ys H2,W i m ys H2->H2 D=some (.lst ys)/\
  ((J.stop i H2/\Q (.ref D) H2)\/(J.go i H2/\∀x H3,J.T1 i H2 x H3->∀os:St,os.length=n->gg x (os++cs) H3 λσ' H3'=>tc σ' H3' λb H4=>match b with
   |true=>te σ' H4 λy H5=>H5 D=some (.lst ys)/\ys.length<sizeLine/\∃m',m'<m/\W (i+1) m' (ys++[y]) (upd H5 D (.lst (ys++[y])))
   |false=>∃m',m'<m/\W (i+1) m' ys H4))
def JM(wi:TI)(n:Nat)(gg:TG)(tc:TT)(te:TE)(ak:List Nat):TE:=λσ H Q=>wi σ H λJ H1=>∀D,H1 D=none->BH J n gg tc te (nW ak σ) Q H1 D
def Vo(cs:List Expr)(env:Env):Sem Bool:=match cs with
 |[]=>pure true
 |c::_=>isTrue c env (eval c env)
def UK(X:Cx)(cs:List Expr)(t:TT):Prop:=
 (cs=[]\/∃c,cs=[c])/\∀(ζ:List (Addr×Obj)) (s:Shared) (σ:St) (H:Hp) (Q:Bool->Hp->Prop),Inv X ζ σ H s->t σ H Q->wpAny (model X.prog X.w) X.A (Vo cs X.env) (TP X ζ σ Q) X.xe s
theorem ug{elt target iter:Expr}{cs:List Expr}{scope:Scope}{pos:Pos}{it Ι:Value}{env:Env}(h:cs=[]\/∃c,cs=[c]):
  compTurn (.ListComp elt [⟨target,iter,cs,0⟩] scope pos) 0 it Ι env=(standAt iter.pos >>= λ_=>pyNext it >>= λr=>match r with
   |none=>pure (.done .next)
   |some v=>letOwnedTupleGo target it v >>= λ_=>assign target env v >>= λ_=>Vo cs env >>= λok=>
    (if ok=true then (eval elt env >>= λx=>call (.builtin "list.append") [Ι,x] >>= λ_=>pure ()) >>= λ_=>again (.compLoop (.ListComp elt [⟨target,iter,cs,0⟩] scope pos) 0 it Ι env)
     else again (.compLoop (.ListComp elt [⟨target,iter,cs,0⟩] scope pos) 0 it Ι env))):=by
 rcases h with rfl|⟨c,rfl⟩ <;> (unfold compTurn Vo;dsimp only [List.getElem?_cons_zero,List.getElem?_cons_succ,List.getElem?_nil];simp only [List.forIn_cons,List.forIn_nil,bind_assoc,pure_bind,if_true];rfl)
section
variable{X:Cx}{elt iter tg:Expr}{cs:List Expr}{xs:List Str}{scope:Scope}{pos:Pos}{wi:TI}{gg:TG}{tc:TT}{te:TE}{ys:List Str}{ak:List Nat}
theorem uG(S:aF X scope xs ys ak)(hc:X.calm=true)(hg:∀C s H fp,PG (Cx.comp X (xs++ys) scope C s H fp) tg gg)(hk:vk xs.length gg)(ht:∀C s H fp,UK (Cx.comp X (xs++ys) scope C s H fp) cs tc)(he:∀C s H fp,PE (Cx.comp X (xs++ys) scope C s H fp) elt te)
  {ζ:List (Addr×Obj)} {σ:St} {H2:Hp} {s2:Shared} {it:Addr} {fp:List Addr} {tn:Nat->Heap->Prop} {J:It} {Q:V->Hp->Prop} {PQ:Value->Addr->Result->Shared->Prop} (I:Inv X ζ σ H2 s2) (T:Turn X.prog X.w X.K tg J fp it tn) (t0:tn 0 s2.heap) (f2:∀b∈fp,rQ X ζ H2 b)
  (h:∀D,H2 D=none->BH J xs.length gg tc te (nW ak σ) Q H2 D)
  (hPQ:∀D C s' H',Inv X ζ σ H' s'->Q (.ref D) H'->(∃m,s'.heap.Ns C m)->H' C=none->X.s₀.heap.objs.size<=C->C≠X.env.locals->(∀z c,X.env.cells.lookup z=some c->c≠C)->(∀p∈X.pn++ζ,p.1≠C)->PQ (.ref D) C (.ok .next) s'):
  wpAny (model X.prog X.w) X.A (newList []) (λΙ s3=>wpAny (model X.prog X.w) X.A (newFunctionEnv scope X.env.globals (l_ X.env scope.names []) [] X.env.qual none .none (some X.env)) (λRj s4=>
   codeAny (model X.prog X.w) X.A (.compStart (.ListComp elt [⟨tg,iter,cs,0⟩] scope pos) 0 (.ref it) Ι {Rj with scope:=relabel scope X.env}) (PQ Ι Rj.locals) s4) X.xe s3) X.xe s2:=by
 have hD:H2 s2.heap.objs.size=none:=I.fresh;obtain ⟨W,⟨m0,w0⟩,step⟩:=h _ hD;refine wpAny_newObj_type ?_;have I3:Inv X ζ σ (upd H2 s2.heap.objs.size (.lst [])) {s2 with heap:=s2.heap.push {cls:= .type "list",data:= .seq ([]:List Value).toArray}}:=Inv.Ov (t':=s2.toks) I (ys:=[]) (its:=[]) .nil (abK _);generalize hH3:upd H2 s2.heap.objs.size (.lst [])=H3 at I3 w0;generalize hs3:({s2 with heap:=s2.heap.push {cls:= .type "list",data:= .seq ([]:List Value).toArray}}:Shared)=s3 at I3;have X0:∀b∈fp,H3 b=none:=λb hb=>by obtain ⟨o,e,_⟩:=T.obj _ _ t0 b hb;rw [<-hH3,Θ (aaE (Heap.lt_size e))];exact (f2 b hb).1
 have t3:tn 0 s3.heap:=T.keep _ _ _ t0 λb hb o e=>by rw [<-hs3];exact Heap.get?_push_of_some _ e
 refine wpAny_newFunctionEnv S.J9 (λy hy=>nomatch hy) (λh4 ns4 sb4=>?_) S.kind;have hC:H3 s3.heap.objs.size=none:=I3.fresh
 have kp:∀b o,s3.heap.get? b=some o->h4.get? b=some o:=λb o e=>
  (sb4.2 b (aaE (Heap.lt_size e))).trans (Heap.get?_push_of_some _ e)
 generalize V5:({s3 with heap:=h4,toks:=s3.toks+([]:List (Str×Value)).length}:Shared)=s4;have e4:s4.heap=h4:=by rw [<-V5]
 have Mc:∀z c,X.env.cells.lookup z=some c->c≠s3.heap.objs.size:=λz c e q=>by obtain ⟨v,w⟩:=I3.cell z c e;exact abi _ (q▸w.lt)
 have uq:∀z c,(l_ X.env scope.names []).lookup z=some c->X.env.cells.lookup z=some c:=λz c e=>u6 scope.names [] (S.has I.ok) (λq=>nomatch q) e;have Lne:s3.heap.objs.size≠X.env.locals:=acb I3.lt;have ok:(Cx.comp X (xs++ys) scope s3.heap.objs.size s3 H3 fp).Ok:=by
  refine ⟨I3.ok.mod,S.kind,I3.ok.glob,I3.ok.blt,aah _,λz z' c e1 e2=>I3.ok.inj z z' c (uq z c e1) (uq z' c e2),λz hz=>?_,λz c hz=>(by cases hz),I3.ok.hd,I3.ok.frames,.inl rfl,λb hb=>⟨?_,λz c e=>?_⟩,I3.bs,?_,λb o e hb=>?_,λb hb hf=>?_,I3.stack,I3.wX⟩
  ·have:=sv (env:=X.env) scope.names [] (.inl (Jr S.J9 hz));exact abo.mp this
  ·obtain ⟨o,e,_⟩:=T.obj _ _ t3 b hb;exact aaE (Heap.lt_size e)
  ·exact (f2 b hb).2.2.2.2.1 z c (uq z c e)
  ·exact aaq I3.ok.lx I3.sz
  ·obtain ⟨_,_,_,hy,_⟩:=f2 b hb;have e0:=(I3.ok.bs b o e).1;rcases hy with hy|hy
   ·exact I3.ok.OD b o e hy
   ·exact absurd (aap (Heap.lt_size e0) hy) (abi _)
  ·obtain ⟨_,hl,hfs,_⟩:=f2 b hb;exact (aay.mp (I3.wY b hf)).elim hl hfs
 have hlen:((List.replicate xs.length (none:Option V))++nW ak σ).length=(xs++ys).length:=by rw [aag,aag,aaQ,S.len];unfold nW;rw [aad]
 have I4:Inv X ζ σ H3 s4:=by rw [<-V5];exact I3.kept kp
 have Ic:Inv (Cx.comp X (xs++ys) scope s3.heap.objs.size s3 H3 fp) [] ((List.replicate xs.length (none:Option V))++nW ak σ) H3 s4:=by
  refine ⟨ok,by rw [<-V5];rfl,I4.bare,Un.kept (by rw [e4];exact kp),⟨_,by rw [e4];exact ns4,λi z v e1 e2 e3=>?_⟩,λz c e=>I4.cell z c (uq z c e),hC,λz c e=>I4.pD z c (uq z c e),(λp hp=>nomatch hp),I4.ba,hlen⟩;have e1:(xs++ys)[i]? =some z:=e1;by_cases hi:i<xs.length
  ·rw [aao (by rw [aaQ];exact hi),abG,if_pos hi] at e2;cases e2
  ·obtain ⟨j,rfl⟩:∃j,i=xs.length+j:=⟨i-xs.length,by omega⟩;have e1:ys[j]? =some z:=by rw [aal (by omega),abc] at e1;exact e1
   have e2:(nW ak σ)[j]? =some (some v):=by rw [aal (by rw [aaQ];omega),aaQ,abc] at e2;exact e2
   unfold nW at e2;rw [aam] at e2;cases hi:ak[j]? with
   |none=>rw [hi] at e2;cases e2
   |some i=>
    rw [hi] at e2;have e2:(σ[i]?).join=some v:=aas e2;have e2:σ[i]? =some (some v):=by
     cases q:σ[i]? with
     |none=>rw [q] at e2;cases e2
     |some o=>rw [q] at e2;exact congrArg some e2
    obtain ⟨c1,c2,c3⟩:=S.cap (z,i) (II e1 hi);have c4:=Aj (env:=X.env) I.ok.kind c2 c3;have c3:(z,NameKind.free)∈scope.names:=PySem.mem_of_lookup c3;obtain ⟨m,hn,hl⟩:=I4.loc;obtain ⟨u,r,lk⟩:=hl i z v c1 e2 (.inr (.inl c2));refine ⟨u,r,.inr ⟨.inl c4,?_⟩⟩;rcases lk with ⟨k,_⟩|⟨_,c,zb,z'⟩
    ·exact absurd ((show X.env.scope.names.lookup z=some .local from k).symm.trans c2) (by decide)
    ·obtain ⟨d,hd⟩:=abo.mp (sv (env:=X.env) scope.names [] (.inl c3));have:=uq z d hd;rw [zb] at this;cases this;exact ⟨c,hd,z'⟩
 have loop:codeAny (model X.prog X.w) X.A (.compLoop (.ListComp elt [⟨tg,iter,cs,0⟩] scope pos) 0 (.ref it) (.ref s2.heap.objs.size) (compEnvC scope (l_ X.env scope.names []) s3.heap.objs.size X.env)) (PQ (.ref s2.heap.objs.size) s3.heap.objs.size) s4:=by
  have X1:∀{H':Hp},(∀b∈fp,H' b=none)->∀b∈fp,rQ (Cx.comp X (xs++ys) scope s3.heap.objs.size s3 H3 fp) [] H' b:=λhn b hb=>
   ⟨hn b hb,(ok.Zi b hb).1,ok.P_ b hb,.inl hb,(ok.Zi b hb).2,(λp hp=>nomatch hp)⟩
  refine codeAny_loop rfl (λn s'=>∃(i:Nat) (zs:List V) (os:St) (H':Hp),os.length=xs.length/\Inv (Cx.comp X (xs++ys) scope s3.heap.objs.size s3 H3 fp) [] (os++nW ak σ) H' s'/\tn i s'.heap/\(∀b∈fp,H' b=none)/\W i n zs H') (λn s5 z=>?_) m0 ⟨0,[],List.replicate xs.length none,H3,by rw [aaQ],Ic,T.keep _ _ _ t3 (λb hb o e=>by rw [e4];exact kp b o e),X0,w0⟩;obtain ⟨i,zs,os,H5,l5,I5,t5,Up,w5⟩:=z;show wpAny _ _ ((compTurn _ 0 (.ref it) _ _).onRaise _) _ _ s5;refine wpAny_noted ?_;rw [ug (ht s3.heap.objs.size s3 H3 fp).1];refine wpAny_bind (wpAny_standAt (wpAny_bind ?_));obtain ⟨JB,stop|go⟩:=step i n zs H5 w5
  ·obtain ⟨stop,q⟩:=stop;refine bC (T.done (Cx.comp X (xs++ys) scope s3.heap.objs.size s3 H3 fp) rfl rfl rfl hc i [] s5 _ H5 _ I5 (X1 Up) t5 stop) λr s6 ⟨hr,I6⟩=>?_;subst hr;refine wpAny_pure (hPQ _ _ s6 H5 ?_ q ?_ I6.free ?_ Lne Mc λp hp z=>?_)
   ·refine I3.To I6.os I6.base I6.ba I6.bare λb hb=>?_;obtain ⟨_,g1,_,g3,g4,g5⟩:=f2 b hb;exact ⟨g3,g1,g4,g5⟩
   ·obtain ⟨m,hn,_⟩:=I6.loc;exact ⟨m,hn⟩
   ·exact I3.sz
   ·exact aaE (Heap.lt_size (I3.pin p hp).1) z
  ·obtain ⟨go,turn⟩:=go;refine bC (T.item (Cx.comp X (xs++ys) scope s3.heap.objs.size s3 H3 fp) rfl rfl rfl hc i [] s5 _ H5 _ I5 (X1 Up) t5 go) λr s6 ⟨u,hr,h6⟩=>?_;subst hr;refine wpAny_bind (bC h6 λ_ s7 ⟨y,H7,I7,r7,y7,t7,fr7⟩=>?_);have I7':=I7.pinned (X1 fr7) (T.obj _ _ t7);refine wpAny_bind (wpAny_mono (hg _ _ _ _ _ s7 _ H7 y u _ I7' r7 (hk y os _ H7 _ l5 (turn y _ y7 os l5))) (λ_ s8 z8=>?_) λ_ _ f=>f.elim);obtain ⟨σ8,H8,I8,⟨Za,l8,e8⟩,q8⟩:=z8;subst e8;refine wpAny_bind (wpAny_mono ((ht _ _ _ _).2 _ s8 _ _ _ I8 q8) (λb s9 z9=>?_) λ_ _ f=>f.elim);obtain ⟨H9,I9,q9⟩:=z9;cases b with
   |false=>
    obtain ⟨m9,hm9,w9⟩:=q9;refine wpAny_pure ⟨rfl,m9,hm9,i+1,zs,Za,_,l8,I9.j7,T.keep _ _ _ t7 λb hb o e=>(I9.pin (b,o) (aav _ (aav _ (e_ hb e)))).1,λb hb=>?_,w9⟩;obtain ⟨o,e,_⟩:=T.obj _ _ t7 b hb;exact (I9.pin (b,o) (aav _ (aav _ (e_ hb e)))).2.1
   |true=>
    refine wpAny_bind (wpAny_bind (wpAny_mono (he _ _ _ _ _ s9 _ _ _ I9 q9) (λu10 s10 z10=>?_) λ_ _ f=>f.elim));obtain ⟨v10,ZZ,I10,r10,XI,l10,m10,WA,w10⟩:=z10;refine wpAny_bind (wpAny_mono (uk (X:=Cx.comp X (xs++ys) scope s3.heap.objs.size s3 H3 fp) _ s10 _ ZZ (.ref s2.heap.objs.size) [v10] _ [u10] (λ_ H'=>H'=upd ZZ s2.heap.objs.size (.lst (zs++[v10]))) I10 rfl (.cons r10 .nil) ⟨_,zs,v10,rfl,rfl,XI,l10,rfl⟩) (λ_ s11 z11=>?_) λ_ _ f=>f.elim);obtain ⟨_,H11,Xr,_,e11⟩:=z11;subst e11;refine wpAny_pure (wpAny_pure ⟨rfl,m10,WA,i+1,zs++[v10],Za,_,l8,Xr.j7,T.keep _ _ _ t7 λb hb o e=>(Xr.pin (b,o) (aav _ (aav _ (e_ hb e)))).1,λb hb=>?_,w10⟩);obtain ⟨o,e,_⟩:=T.obj _ _ t7 b hb;exact (Xr.pin (b,o) (aav _ (aav _ (e_ hb e)))).2.1
 exact codeAny_compStart_list loop (T.self X.A 0 _ _ _ (T.keep _ _ _ t3 (λb hb o e=>by rw [e4];exact kp b o e)) loop)
theorem IY(S:aF X scope xs ys ak)(hc:X.calm=true)(hi:PI X tg iter wi)(hg:∀C s H fp,PG (Cx.comp X (xs++ys) scope C s H fp) tg gg)(hk:vk xs.length gg)(ht:∀C s H fp,UK (Cx.comp X (xs++ys) scope C s H fp) cs tc)(he:∀C s H fp,PE (Cx.comp X (xs++ys) scope C s H fp) elt te)(hs:∀x,foldedSetIterable iter X.env x=pure x:=by intro _;rfl):
  PE X (.ListComp elt [⟨tg,iter,cs,0⟩] scope pos) (JM wi xs.length gg tc te ak):=by
 intro ζ s σ H Q I h;rw [eval_ListComp];refine wpAny_comprehension_free (use:=none) rfl hs (qN (S.has I.ok)) S.kind S.names (bC (hi ζ s σ H _ I h) λv s1 h1=>bC h1 λUQ s2 h2=>?_);obtain ⟨it,fp,tn,J,H2,rfl,I2,T,t0,f2,q⟩:=h2;refine uG S hc hg hk ht he (Q:=Q) I2 T t0 f2 q λD C s' H' I' q' n' hC hz hL N0 hp=>?_;obtain ⟨m,n'⟩:=n';exact ⟨m,n',λh' sb=>⟨.ref D,H',I'.turned (it:=C) (t':=s'.toks) (λb o hb e=>(sb.2 b hb).trans e) hC hL (.inr hz) N0 hp,rfl,q'⟩⟩
theorem zm{i:Nat}{y:Str}{py zi:Pos}(hN:X.N.Nodup)(R9:X.N[i]? =some y)(hy:Loc X.env.scope y)(S:aF X scope xs ys ak)(hc:X.calm=true)(hi:PI X tg iter wi)(hg:∀C s H fp,PG (Cx.comp X (xs++ys) scope C s H fp) tg gg)(hk:vk xs.length gg)(ht:∀C s H fp,UK (Cx.comp X (xs++ys) scope C s H fp) cs tc)(he:∀C s H fp,PE (Cx.comp X (xs++ys) scope C s H fp) elt te)
  (SW:swapsWith (.ListComp elt [⟨tg,iter,cs,0⟩] scope pos) (some (.Name y py)) zi.line X.env=pure true) (hs:∀x,foldedSetIterable iter X.env x=pure x)
  (hf:X.fn y=true\/X.env.scope.names.lookup y=some .local):
  PS X (.Assign [.Name y py] (.ListComp elt [⟨tg,iter,cs,0⟩] scope pos) zi) (λD σ H=>JM wi xs.length gg tc te ak σ H λv H1=>D.nx (σ.set i (some v)) H1):=by
 intro ζ s σ H D I h;rw [exec_Assign_Name_used _ _ _ _ SW];refine wpAny_bind (wpAny_standAt (wpAny_bind ?_));show wpAny _ _ (do let _<-comprehension (.ListComp elt [⟨tg,iter,cs,0⟩] scope pos) scope X.env _ (newList []) false (eval iter X.env) (some (assign (.Name y py) X.env))) _ _ s;refine wpAny_bind (wpAny_mono (wpAny_comprehension_free (use:=some (assign (.Name y py) X.env)) (Q:=λ_ s'=>SP X ζ D .next s') rfl hs (qN (S.has I.ok)) S.kind S.names (bC (hi ζ s σ H _ I h) λv s1 h1=>bC h1 λUQ s2 h2=>?_)) (λ_ s' hq=>wpAny_pure (wpAny_pure hq)) λ_ _ e=>e);obtain ⟨it,fp,tn,J,H2,rfl,I2,T,t0,f2,q⟩:=h2;refine uG S hc hg hk ht he (Q:=λv H1=>D.nx (σ.set i (some v)) H1) I2 T t0 f2 q λDl C s' H' I' q' n' hC hz hL N0 hp=>?_;obtain ⟨m,n'⟩:=n';show wpAny _ _ (assign (.Name y py) X.env (.ref Dl)) _ _ s';refine wpAny_assign_Name (uo I' hN R9 hy (v:= .ref Dl) rfl (λs3 I3 Vm=>?_) hf);obtain ⟨a,Vm,ha⟩:=Vm;have hCa:C≠a:=by
  rcases ha with rfl|ha
  ·exact hL
  ·exact (N0 _ _ ha).symm
 exact ⟨m,n'.sameBut Vm hCa,λh' sb=>⟨_,H',I3.turned (it:=C) (t':=s3.toks) (λb o hb e=>(sb.2 b hb).trans e) hC hL (.inr hz) N0 hp,q'⟩⟩
end
section
variable{P:Program}{w:World}{K:PySem.W.Frag}{mg:Str->Option Value}{base:Heap}
theorem cI.okX{x qual:Str}{st:Stmt}{f:Addr}{fd:FuncData}{N ps:List Str}{k:Nat}{sp:Sp}(F:cI K x qual st f fd)(S:Ε N ps (τ st))(len:∀vs H Q E,sp vs H Q E->vs.length=ps.length)
  (rF:∀(aV:Value) (A:Around) (outer:List Env) (s:Shared) (H:Hp) (vs:List V) (Q:VK) (E:XK),bM k (A.deeper (envOfC qual (τ st) s.heap.objs.size f aV))->sp vs H Q E->
   ∃t,Gx (tL (bV P w) P w K mg base N qual (τ st) f aV A outer s H E) (dD st) t/\t {nx:=λ_ H'=>Q .bq H',rt:=Q} (start N vs) H):aq P w K mg base (bV P w) (k+1) f fd ps sp:=by
 obtain ⟨oc,od,kV,doc,pm,an,aV,ct,Aw,rfl,lk,C2⟩:=F.ex;exact Nv lk C2 S len λA outer s H vs Q E hr NK=>rF aV A outer s H vs Q E hr NK
end
theorem jA{X:Cx}{P:Program}{w:World}:cZ (bV P w) X (λ_=>E0):=by intro ζ σ H s e s' _ hx;obtain ⟨_,_,_,_,_,_,_,_,hE⟩:=hx;exact hE.elim
theorem log2_lt{n:Nat}{k:Nat}(h:n<2^k)(hk:0<k):n.log2<k:=by
 by_cases h0:n=0
 ·rw [h0,show Nat.log2 0=0 from rfl];exact hk
 ·exact (Nat.log2_lt h0).mpr h
def iw(i:Int):Prop:=i.natAbs<2^8000
theorem E_{i j:Int}(hi:iw i)(hj:iw j):IntMulOk i j:=by
 have b:∀{i:Int},iw i->Builtin.Int.intBits i<=8000:=λ{i} h=>by
  unfold Builtin.Int.intBits;split
  ·exact abK _
  ·have:=log2_lt (k:=8000) h (by decide);omega
 have b1:=b hi;have b2:=b hj;have h3:Builtin.Int.intTooBig (Builtin.Int.intBits i+Builtin.Int.intBits j)=false:=by
  unfold Builtin.Int.intTooBig;refine decide_eq_false ?_;have:(bitsLine:Int)=134217728:=by decide
  omega
 unfold IntMulOk;rw [h3,Bool.and_false];exact aat
section
variable{X:Cx}
theorem KL:jF X (binaryOp .Mult) (rI (λi j=>iw i/\iw j) λi j=> .int (i*j)):=Uv λ_ _ _ _ _ _ _ hc q=>mul_int q (E_ hc.1 hc.2)
theorem yE:jF X (binaryOp .FloorDiv) (rI (λ_ j=>j≠0/\iw j) λi j=> .int (i.fdiv j)):=Uv λ_ _ _ _ _ _ _ hc q=>
 floordiv_int hc.1 q (.inl (PyProof.noPylong_of_log2 (aap (log2_lt (k:=8000) hc.2 (by decide)) (by decide))))
end
def LA:V->Option Value
 |.ty T=>some (.type T)
 |.ref C=>some (.ref C)
 |_=>none
theorem MS{c:V}{u t:Value}(r:aB c u)(h:LA c=some t):u=t:=by
 cases c with
 |ty T=>cases r;exact aas h
 |ref C=>cases r;exact aas h
 |_=>cases h
section
variable{X:Cx}
theorem y3:c8 X (.builtin "isinstance") (λxs H Q=>∃x c t t' b,xs=[x,c]/\kT X.K H x t/\LA c=some t'/\PySem.W.kitOne X.K t t'=some b/\Q (.bl b) H):=by intro ζ s σ H xs us Q I r h;obtain ⟨x,c,t,t',b,rfl,ty,hc,hk,q⟩:=h;obtain ⟨u,u',rfl,r1,r2⟩:=Ki r;cases MS r2 hc;exact FR I r1 ty hk λtk=>⟨.bl b,H,I.tok tk,rfl,q⟩
end
def mH:List V->List V->Bool
 |[],[]=>true
 |x::xs,y::ys=>tM x y&&mH xs ys
 |_,_=>false
theorem lO:∀(xs ys:List V) (e:Nat->Bool),(∀j x y,xs[j]? =some x->ys[j]? =some y->e j=tM x y)->((List.range (min xs.length ys.length)).all e&&xs.length==ys.length)=mH xs ys
 |[],[],e,_=>rfl
 |[],_::_,e,_=>by simp [mH]
 |_::_,[],e,_=>by simp [mH]
 |x::xs,y::ys,e,h=>by
  have ih:=lO xs ys (λj=>e (j+1)) λj x y h1 h2=>h (j+1) x y h1 h2;have h0:e 0=tM x y:=h 0 x y rfl rfl;show _=(tM x y&&mH xs ys);rw [<-ih,<-h0];have e1:min (x::xs).length (y::ys).length=min xs.length ys.length+1:=by simp only [List.length_cons];omega
  rw [e1,abv,abH,List.all_map];have e2:((x::xs).length==(y::ys).length)=(xs.length==ys.length):=by simp only [List.length_cons];rw [Bool.eq_iff_iff];simp
  rw [e2,Bool.and_assoc];rfl
def Tp(K:PySem.W.Frag):R2:=λx y H Q=>∃a b xs ys,x= .ref a/\y= .ref b/\nv K H a xs/\nv K H b ys/\xs.all eC=true/\ys.all eC=true/\Q (.bl (mH xs ys)) H
def R1(K:PySem.W.Frag):R2:=λx y H Q=>∃a b xs ys,x= .ref a/\y= .ref b/\nv K H a xs/\nv K H b ys/\xs.all eC=true/\ys.all eC=true/\Q (.bl (!mH xs ys)) H
theorem nc:∀{xs:List V}{j:Nat}{x:V},xs.all eC=true->xs[j]? =some x->eC x=true
 |_::_,0,_,h,e=>by rw [abH,aar] at h;cases e;exact h.1
 |_::_,j+1,_,h,e=>by rw [abH,aar] at h;exact nc h.2 e
section
variable{X:Cx}
theorem Of(hu:X.A.units<cLine):jF X (compareOp .NotEq) (R1 X.K):=by
 intro ζ s σ H x y v u Q I rx ry h;obtain ⟨a,b,xs,ys,rfl,rfl,h1,h2,f1,f2,q⟩:=h;cases rx;cases ry;obtain ⟨i1,v1,t1,_⟩:=I.tuple h1;obtain ⟨i2,v2,t2,_⟩:=I.tuple h2;have l1:=v1.length;have l2:=v2.length;refine SeqAt.RcNeAt.tuples (e:=λj=>match xs[j]?,ys[j]? with|some x,some y=>tM x y|_,_=>true) (show s.heap.IsTuple a i1.toArray from t1) (show s.heap.IsTuple b i2.toArray from t2) hu (λj h1 h2=>?_) _ _ _ _ ?_
 ·have b1:j<i1.length:=by simpa using h1
  have b2:j<i2.length:=by simpa using h2
  have e1:xs[j]? =some (xs[j]'(by omega)):=aaa _;have e2:ys[j]? =some (ys[j]'(by omega)):=aaa _;obtain ⟨u1,g1,r1⟩:=v1.get e1;obtain ⟨u2,g2,r2⟩:=v2.get e2;rw [aaa b1] at g1;rw [aaa b2] at g2;have w1:i1.toArray[j]=u1:=by simpa using Option.some.inj g1
  have w2:i2.toArray[j]=u2:=by simpa using Option.some.inj g2
  rw [w1,w2];simp only [e1,e2];exact vp r1 r2 (nc f1 e1) (nc f2 e2)
 ·rw [List.size_toArray,List.size_toArray,<-l1,<-l2,lO xs ys _ (λj x y h1 h2=>by simp only [h1,h2])];exact ⟨.bl (!mH xs ys),H,I,rfl,q⟩
theorem Ib(hu:X.A.units<cLine):jF X (compareOp .Eq) (Tp X.K):=by
 intro ζ s σ H x y v u Q I rx ry h;obtain ⟨a,b,xs,ys,rfl,rfl,h1,h2,f1,f2,q⟩:=h;cases rx;cases ry;obtain ⟨i1,v1,t1,_⟩:=I.tuple h1;obtain ⟨i2,v2,t2,_⟩:=I.tuple h2;have l1:=v1.length;have l2:=v2.length;refine SeqAt.eq_tupleAt (e:=λj=>match xs[j]?,ys[j]? with|some x,some y=>tM x y|_,_=>true) (show s.heap.IsTuple a i1.toArray from t1) (show s.heap.IsTuple b i2.toArray from t2) hu (λj h1 h2=>?_) ?_
 ·have b1:j<i1.length:=by simpa using h1
  have b2:j<i2.length:=by simpa using h2
  have e1:xs[j]? =some (xs[j]'(by omega)):=aaa _;have e2:ys[j]? =some (ys[j]'(by omega)):=aaa _;obtain ⟨u1,g1,r1⟩:=v1.get e1;obtain ⟨u2,g2,r2⟩:=v2.get e2;rw [aaa b1] at g1;rw [aaa b2] at g2;have w1:i1.toArray[j]=u1:=by simpa using Option.some.inj g1
  have w2:i2.toArray[j]=u2:=by simpa using Option.some.inj g2
  rw [w1,w2];simp only [e1,e2];exact vp r1 r2 (nc f1 e1) (nc f2 e2)
 ·rw [List.size_toArray,List.size_toArray,<-l1,<-l2,lO xs ys _ (λj x y h1 h2=>by simp only [h1,h2])];exact ⟨.bl (mH xs ys),H,I,rfl,q⟩
end
theorem Gn(bs:List Bool):(List.range bs.length).any (λi=>bs.getD i false)=bs.any id:=by
 induction bs with
 |nil=>rfl
 |cons b bs ih=>
  rw [aau,abv,abI,List.any_map,abI,<-ih];rfl
theorem xy:∀{bs:List Bool}{us:List Value},ay (bs.map V.bl) us->us=bs.map Value.bool
 |[],_,r=>by cases r;rfl
 |b::bs,_,r=>by
  cases r with
  |cons h t=>
   cases h;rw [xy t];rfl
theorem zv{prog:Program}{w:World}{A:Around}{bs:List Bool}:TruthOf prog w A (λi v=>(bs.map Value.bool).toArray[i]? =some v) (λi=>bs.getD i false):=by
 intro i v s Q E h q;have h':(bs.map Value.bool)[i]? =some v:=by simpa using h
 rw [aam] at h';cases e:bs[i]? with
 |none=>rw [e] at h';cases h'
 |some b=>
  rw [e] at h';cases h';have q':Q b s:=by
   have eb:bs.getD i false=b:=by rw [aab,e];rfl
   exact eb▸q
  exact wpAny_truthy_bool q'
def Sw(K:PySem.W.Frag):List V->Hp->VK->Prop:=λxs H Q=>∃(p:Addr) (bs:List Bool),xs=[.ref p]/\gy K H p (bs.map V.bl)/\Q (.bl (bs.any id)) H
section
variable{X:Cx}
theorem GW (hc : X.calm = true) : c8 X (.builtin "any") (Sw X.K) := by
  intro ζ s σ H xs us Q I r h;obtain ⟨p, bs, rfl, hq, q⟩ := h;obtain ⟨u, rfl, r1⟩ := kF r;cases r1;obtain ⟨its, rv, pl, hz⟩ := I.list hq;have O8 := xy rv;subst O8;refine call_any_walk (wpAny_pyIter_list pl.isList ?_);have lp : p<s.heap.objs.size := by obtain ⟨o, e, _⟩ := pl.isList; exact Heap.lt_size e
  refine ⟨s.heap.objs.size, _, _, _, _, _, λi => bs.getD i false, rfl, Walks.list (show X.A.in1.handled = none from I.ok.hd hc) s.heap.objs.size p (aaE lp) (bs.map Value.bool).toArray, ⟨⟨_, Heap.get?_push_size _ rfl, rfl, rfl⟩, pl.isList.at λo e => Heap.get?_push_of_some _ e⟩, zv, λh' tk hk =>?_⟩;refine ⟨.bl (bs.any id), H, I.kept λb o e => hk b o (λz => by have : b = s.heap.objs.size := (by simpa using z); exact Nat.lt_irrefl _ (this ▸ Heap.lt_size e)) (Heap.get?_push_of_some _ e),?_, q⟩;rw [aaz, aad, Gn];rfl
end
end L2
namespace PySem
open Sem (wp)
end PySem
namespace PySem.W
open PySem PySem.Builtin PySem.Builtin.ObjectAttr
end PySem.W
namespace PySem
open Sem (wp)
end PySem
namespace L2
open PySem PySem.Spec PyProof.Rows
def xO(a C:Addr)(od:Option Addr):HO:= .ext λh=>∃ob vs,h.get? a=some ob/\ob.cls= .ref C/\ob.dict=od/\ob.data= .fields vs
inductive Dt where
 |bq
 |bl (b:Bool)
 |int (i:Int)
 |str (x:Str)
 |tup (xs:List Dt)
 |lst (xs:List Dt)
 |obj (C:Addr) (ns:List Str) (xs:List Dt)
 |loc (k:Nat)
 |ref (a:Addr)
 |ty (n:String)
 |iY (ns:List Int)
 |kt (xs:List Dt)
 |exc (C:Addr) (ns:List Str) (xs:List Dt)
 |RV (x C:Addr) (od:Option Addr) (ns:List Str) (xs:List Dt)
inductive MO where
 |lst (xs:List Dt)
 |ins (C:Addr) (ns:List Str) (xs:List Dt)
 |ef (ks:List Key) (xs:List Dt)
 |raw (u:Addr->HO)
abbrev Ms:=List MO
abbrev En:=List (Option Dt)
mutual
def Den(K:PySem.W.Frag)(G:Hp)(L:List Addr):Dt->V->Prop
 |.bq,v=>v= .bq
 |.bl b,v=>v= .bl b
 |.int i,v=>v= .int i
 |.str x,v=>v= .str x
 |.tup ds,v=>∃a vs,v= .ref a/\G a=some (.tup vs)/\Χ K G L ds vs
 |.lst ds,v=>∃a vs,v= .ref a/\G a=some (.lst vs)/\Χ K G L ds vs
 |.obj C ns ds,v=>∃a dx vs,v= .ref a/\G a=some (.ins C dx (ns.zip vs))/\ns.length=ds.length/\Χ K G L ds vs
 |.loc k,v=>∃a,v= .ref a/\L[k]? =some a
 |.ref a,v=>v= .ref a
 |.ty n,v=>v= .ty n
 |.iY ns,v=>∃a,v= .ref a/\gy K G a (ns.map V.int)
 |.kt ds,v=>∃a vs,v= .ref a/\nv K G a vs/\Χ K G L ds vs
 |.exc C ns ds,v=>∃a od vs,v= .ref a/\G a=some (xO a C od)/\((ns=[]/\od=none)\/∃dx,od=some dx/\G dx=some (.xd (ns.zip vs)))/\ns.length=ds.length/\Χ K G L ds vs
 |.RV x _ od ns ds,v=>∃vs,v= .ref x/\((ns=[]/\od=none)\/∃dx,od=some dx/\G dx=some (.xd (ns.zip vs)))/\ns.length=ds.length/\Χ K G L ds vs
def Χ(K:PySem.W.Frag)(G:Hp)(L:List Addr):List Dt->List V->Prop
 |[],vs=>vs=[]
 |d::ds,vs=>∃v r,vs=v::r/\Den K G L d v/\Χ K G L ds r
end
def Pre(L L':List Addr):Prop:=∃t,L'=L++t
theorem Pre.refl(L:List Addr):Pre L L:=⟨[],by simp⟩
theorem Pre.trans{a b c:List Addr}(h:Pre a b)(h':Pre b c):Pre a c:=by obtain ⟨t,rfl⟩:=h;obtain ⟨u,rfl⟩:=h';exact ⟨t++u,by simp⟩
theorem Pre.get{a b:List Addr}(h:Pre a b){k:Nat}{x:Addr}(e:a[k]? =some x):b[k]? =some x:=by obtain ⟨t,rfl⟩:=h;have hk:k<a.length:=(aaf.mp e).1;rw [aao hk];exact e
theorem dX.rd{H H':Hp}{a:Addr}{u:HO}(e:dX H H')(h:Rd H a u):Rd H' a u:=by
 rcases h with h|⟨o,h⟩
 ·exact .inl (e _ _ h)
 ·exact .inr ⟨o,e _ _ h⟩
theorem dX.SU{K:PySem.W.Frag}{H H':Hp}{a:Addr}{xs:List V}(e:dX H H')(h:nv K H a xs):nv K H' a xs:=by
 rcases h with h|h
 ·exact .inl (e.rd h)
 ·exact .inr h
section
variable{K:PySem.W.Frag}{G G':Hp}{L L':List Addr}
mutual
theorem Den.mono(g:dX G G')(l:Pre L L'):∀(d:Dt) (v:V),Den K G L d v->Den K G' L' d v
 |.bq,_,h=>h
 |.bl _,_,h=>h
 |.int _,_,h=>h
 |.str _,_,h=>h
 |.tup ds,_,⟨a,vs,e,h1,h2⟩=>⟨a,vs,e,g _ _ h1,Χ.mono g l ds vs h2⟩
 |.lst ds,_,⟨a,vs,e,h1,h2⟩=>⟨a,vs,e,g _ _ h1,Χ.mono g l ds vs h2⟩
 |.obj C ns ds,_,⟨a,dx,vs,e,h1,hn,h2⟩=>⟨a,dx,vs,e,g _ _ h1,hn,Χ.mono g l ds vs h2⟩
 |.loc k,_,⟨a,e,h1⟩=>⟨a,e,l.get h1⟩
 |.ref _,_,h=>h
 |.ty _,_,h=>h
 |.iY _,_,⟨a,e,h1⟩=>⟨a,e,g.seq h1⟩
 |.kt ds,_,⟨a,vs,e,h1,h2⟩=>⟨a,vs,e,g.SU h1,Χ.mono g l ds vs h2⟩
 |.exc _ _ ds,_,⟨a,od,vs,e,h1,h2,h3,h4⟩=>⟨a,od,vs,e,g _ _ h1,h2.imp (λz=>z) (λ⟨dx,z1,z2⟩=>⟨dx,z1,g _ _ z2⟩),h3,Χ.mono g l ds vs h4⟩
 |.RV _ _ _ _ ds,_,⟨vs,e,h2,h3,h4⟩=>⟨vs,e,h2.imp (λz=>z) (λ⟨dx,z1,z2⟩=>⟨dx,z1,g _ _ z2⟩),h3,Χ.mono g l ds vs h4⟩
theorem Χ.mono(g:dX G G')(l:Pre L L'):∀(ds:List Dt) (vs:List V),Χ K G L ds vs->Χ K G' L' ds vs
 |[],_,h=>h
 |d::ds,_,⟨v,r,e,h1,h2⟩=>⟨v,r,e,Den.mono g l d v h1,Χ.mono g l ds r h2⟩
end
theorem Χ.pair:∀{ds:List Dt}{vs:List V},Χ K G L ds vs->Paired (Den K G L) ds vs
 |[],_,h=>by have h:_=_:=h;subst h;exact .nil
 |d::ds,_,⟨v,r,e,h1,h2⟩=>by subst e;exact .cons h1 (Χ.pair h2)
theorem Χ.of:∀{ds:List Dt}{vs:List V},Paired (Den K G L) ds vs->Χ K G L ds vs
 |_,_,.nil=>rfl
 |_,_,.cons h t=>⟨_,_,rfl,h,Χ.of t⟩
end
section
variable{α β:Type}{F:α->β->Prop}
theorem CI:∀{xs:List α}{us:List β}{i:Nat}{x:α},Paired F xs us->xs[i]? =some x->∃u,us[i]? =some u/\F x u
 |_,_,_,_,.nil,e=>by simp at e
 |_,_,0,_,.cons r _,e=>by simp at e;subst e;exact ⟨_,rfl,r⟩
 |_,_,i+1,x,.cons _ t,e=>by obtain ⟨u,h1,h2⟩:=CI (i:=i) (x:=x) t (by simpa using e);exact ⟨u,by simpa using h1,h2⟩
theorem CH{x:α}{u:β}(r:F x u):∀{xs:List α}{us:List β}(i:Nat),Paired F xs us->Paired F (xs.set i x) (us.set i u)
 |_,_,_,.nil=> .nil
 |_,_,0,.cons _ t=> .cons r t
 |_,_,i+1,.cons q t=> .cons q (CH r i t)
theorem wQ:∀{xs ys:List α}{us ws:List β},Paired F xs us->Paired F ys ws->Paired F (xs++ys) (us++ws)
 |_,_,_,_,.nil,s=>s
 |_,_,_,_,.cons r t,s=> .cons r (wQ t s)
theorem qA:∀{xs:List α}{us:List β}(n:Nat),Paired F xs us->Paired F (xs.take n) (us.take n)
 |_,_,0,_=> .nil
 |_,_,_+1,.nil=> .nil
 |_,_,n+1,.cons r t=> .cons r (qA n t)
theorem sE:∀{xs:List α}{us:List β}(n:Nat),Paired F xs us->Paired F (xs.drop n) (us.drop n)
 |_,_,0,r=>r
 |_,_,_+1,.nil=> .nil
 |_,_,n+1,.cons _ t=>sE n t
theorem vE{xs:List α}{us:List β}(h:Paired F xs us):∀k:Nat,Paired F (List.replicate k xs).flatten (List.replicate k us).flatten
 |0=> .nil
 |k+1=>by rw [aa3,aa3,abh,abh];exact wQ h (vE h k)
end
section
variable{K:PySem.W.Frag}{G:Hp}{L:List Addr}
theorem Χ.length{ds:List Dt}{vs:List V}(h:Χ K G L ds vs):ds.length=vs.length:=Paired.length h.pair
theorem Χ.get{ds:List Dt}{vs:List V}{i:Nat}{d:Dt}(h:Χ K G L ds vs)(e:ds[i]? =some d):∃v,vs[i]? =some v/\Den K G L d v:=CI h.pair e
theorem Χ.app{ds es:List Dt}{vs us:List V}(h:Χ K G L ds vs)(h':Χ K G L es us):Χ K G L (ds++es) (vs++us):= .of (wQ h.pair h'.pair)
theorem iP:∀{ns:List Int},Χ K G L (ns.map Dt.int) (ns.map V.int)
 |[]=>rfl
 |n::ns=>⟨_,_,rfl,rfl,iP⟩
theorem br{d:Dt}{vs:List V}(h:Χ K G L [d] vs):∃v,vs=[v]/\Den K G L d v:=by obtain ⟨v,r,rfl,h1,h2⟩:=h;have h2:r=[]:=h2;subst h2;exact ⟨v,rfl,h1⟩
theorem fA{d e:Dt}{vs:List V}(h:Χ K G L [d,e] vs):∃v u,vs=[v,u]/\Den K G L d v/\Den K G L e u:=by obtain ⟨v,r,rfl,h1,h2⟩:=h;obtain ⟨u,rfl,h3⟩:=br h2;exact ⟨v,u,rfl,h1,h3⟩
end
def GB(K:PySem.W.Frag)(G:Hp)(L:List Addr)(H:Hp)(a:Addr):MO->Prop
 |.lst ds=>∃vs,H a=some (.lst vs)/\Χ K G L ds vs
 |.ins C ns ds=>∃dx vs,H a=some (.ins C dx (ns.zip vs))/\ns.length=ds.length/\Χ K G L ds vs
 |.ef ks ds=>∃vs,H a=some (.dK (ks.zip vs))/\ks.length=ds.length/\Χ K G L ds vs
 |.raw u=>H a=some (u a)
structure Rl(K:PySem.W.Frag)(G:Hp)(L:List Addr)(M:Ms)(H:Hp):Prop where
 sub:dX G H
 len:L.length=M.length
 nd:L.Nodup
 fN:∀(k:Nat) (a:Addr) (m:MO),L[k]? =some a->M[k]? =some m->G a=none/\GB K G L H a m
structure Ex(G:Hp)(L:List Addr)(H:Hp)(G':Hp)(L':List Addr)(H':Hp):Prop where
 g:dX G G'
 l:Pre L L'
 fr:∀b,G b=none->H b≠none->G' b=none
 out:∀b o,H b=some o->b∉L->H' b=some o
 new:∀b∈L',b∈L\/H b=none
 B7:∀b,H b≠none->H' b≠none
theorem Ex.refl(G:Hp)(L:List Addr)(H:Hp):Ex G L H G L H:=⟨.refl _,.refl _,λ_ h _=>h,λ_ _ h _=>h,λ_ h=> .inl h,λ_ h=>h⟩
theorem Ex.trans{G:Hp}{L:List Addr}{H G1:Hp}{L1:List Addr}{H1 G2:Hp}{L2:List Addr}{H2:Hp}(a:Ex G L H G1 L1 H1)(b:Ex G1 L1 H1 G2 L2 H2):Ex G L H G2 L2 H2 where
 g:=a.g.trans b.g
 l:=a.l.trans b.l
 fr:=λx h1 h2=>b.fr x (a.fr x h1 h2) (a.B7 x h2)
 out:=λx o h1 h2=>b.out x o (a.out x o h1 h2) λz=>(a.new x z).elim h2 λq=>by rw [h1] at q;cases q
 new:=λx h=>by
  rcases b.new x h with z|z
  ·exact a.new x z
  ·right;cases q:H x with
   |none=>rfl
   |some o=>exact absurd z (a.B7 x (by rw [q];simp))
 B7:=λx h=>b.B7 x (a.B7 x h)
theorem GB.there{K:PySem.W.Frag}{G:Hp}{L:List Addr}{H:Hp}{a:Addr}{m:MO}(h:GB K G L H a m):H a≠none:=by
 cases m with
 |lst ds=>obtain ⟨vs,e,_⟩:=h;rw [e];simp
 |ins C ns ds=>obtain ⟨dx,vs,e,_⟩:=h;rw [e];simp
 |ef ks ds=>obtain ⟨vs,e,_⟩:=h;rw [e];simp
 |raw u=>have h:H a=some (u a):=h;rw [h];simp
theorem GB.mono{K:PySem.W.Frag}{G G':Hp}{L L':List Addr}{H H':Hp}{a:Addr}{m:MO}(g:dX G G')(l:Pre L L')(e:H' a=H a)(h:GB K G L H a m):GB K G' L' H' a m:=by
 cases m with
 |lst ds=>obtain ⟨vs,e1,h⟩:=h;exact ⟨vs,e.trans e1,Χ.mono g l _ _ h⟩
 |ins C ns ds=>obtain ⟨dx,vs,e1,h0,h⟩:=h;exact ⟨dx,vs,e.trans e1,h0,Χ.mono g l _ _ h⟩
 |ef ks ds=>obtain ⟨vs,e1,h0,h⟩:=h;exact ⟨vs,e.trans e1,h0,Χ.mono g l _ _ h⟩
 |raw u=>exact e.trans h
section
variable{K:PySem.W.Frag}{G:Hp}{L:List Addr}{M:Ms}{H:Hp}{p:Addr}{o:HO}
theorem Rl.vt(r:Rl K G L M H){a:Addr}(h:a∈L):∃(k:Nat) (m:MO),L[k]? =some a/\M[k]? =some m/\G a=none/\GB K G L H a m:=by
 obtain ⟨k,hk,e⟩:=aaX h;have e1:L[k]? =some a:=by rw [aaa hk,e]
 have e2:M[k]? =some (M[k]'(by rw [<-r.len];exact hk)):=aaa _;exact ⟨k,_,e1,e2,r.fN k a _ e1 e2⟩
theorem Rl.LN(r:Rl K G L M H)(hp:H p=none):p∉L:=λz=>by obtain ⟨k,m,_,_,_,h⟩:=r.vt z;exact h.there hp
theorem Rl.Lw(r:Rl K G L M H)(hp:H p=none):Rl K (upd G p o) L M (upd H p o) where
 sub:=λb u e=>by
  by_cases hb:b=p
  ·subst hb;rw [Ω] at e⊢;exact e
  ·rw [Θ hb] at e⊢;exact r.sub b u e
 len:=r.len
 nd:=r.nd
 fN:=λk a m h1 h2=>by obtain ⟨q1,q2⟩:=r.fN k a m h1 h2;have hb:a≠p:=λz=>q2.there (by rw [z];exact hp);exact ⟨by rw [Θ hb];exact q1,q2.mono (λb u e=>by rw [Θ (λz=>by rw [z,r.sub.free hp] at e;cases e)];exact e) (.refl _) (Θ hb)⟩
theorem Rl.QD(r:Rl K G L M H)(hp:H p=none):Ex G L H (upd G p o) L (upd H p o) where
 g:=λb u e=>by rw [Θ (λz=>by rw [z,r.sub.free hp] at e;cases e)];exact e
 l:= .refl _
 fr:=λb h1 h2=>by rw [Θ (λz=>h2 (by rw [z];exact hp))];exact h1
 out:=λb u h1 _=>by rw [Θ (λz=>by rw [z,hp] at h1;cases h1)];exact h1
 new:=λb h=> .inl h
 B7:=λb h=>by rw [Θ (λz=>h (by rw [z];exact hp))];exact h
theorem Rl.MC{m:MO}(r:Rl K G L M H)(hp:H p=none)(hm:GB K G (L++[p]) (upd H p o) p m):Rl K G (L++[p]) (M++[m]) (upd H p o) where
 sub:=λb u e=>by rw [Θ (λz=>by rw [z,r.sub.free hp] at e;cases e)];exact r.sub b u e
 len:=by rw [aag,aag,r.len];rfl
 nd:=List.nodup_append.mpr ⟨r.nd,by simp,λa ha b hb=>by
  have e:b=p:=by simpa using hb
  rw [e];exact λz=>r.LN hp (z▸ha)⟩
 fN:=λk a m' h1 h2=>by
  by_cases hk:k<L.length
  ·rw [aao hk] at h1;rw [aao (by rw [<-r.len];exact hk)] at h2;obtain ⟨q1,q2⟩:=r.fN k a m' h1 h2;exact ⟨q1,q2.mono (.refl _) ⟨[p],rfl⟩ (Θ λz=>q2.there (by rw [z];exact hp))⟩
  ·have e:k=L.length:=by have:=(aaf.mp h1).1;rw [aag] at this;simp at this;omega
   rw [e,aal (aah _)] at h1;rw [e,r.len,aal (aah _)] at h2;simp at h1 h2;subst h1 h2;exact ⟨r.sub.free hp,hm⟩
theorem Rl.Uj(r:Rl K G L M H)(hp:H p=none):Ex G L H G (L++[p]) (upd H p o) where
 g:= .refl _
 l:=⟨[p],rfl⟩
 fr:=λb h1 _=>h1
 out:=λb u h1 _=>by rw [Θ (λz=>by rw [z,hp] at h1;cases h1)];exact h1
 new:=λb h=>by
  rcases aaN.mp h with z|z
  ·exact .inl z
  ·have e:b=p:=by simpa using z
   right;rw [e];exact hp
 B7:=λb h=>by rw [Θ (λz=>h (by rw [z];exact hp))];exact h
theorem Rl.setM{k:Nat}{a:Addr}{m:MO}(r:Rl K G L M H)(hk:L[k]? =some a)(hm:GB K G L (upd H a o) a m):Rl K G L (M.set k m) (upd H a o) where
 sub:=λb u e=>by obtain ⟨k',m',e1,e2,q1,_⟩:=r.vt (aak hk);rw [Θ (λz=>by rw [z,q1] at e;cases e)];exact r.sub b u e
 len:=by rw [aa2];exact r.len
 nd:=r.nd
 fN:=λk' a' m' h1 h2=>by
  by_cases e:k'=k
  ·subst e;rw [hk] at h1;cases h1;have hl:k'<M.length:=by rw [<-r.len];exact (aaf.mp hk).1
   rw [aa1 hl] at h2;cases h2;obtain ⟨_,_,_,_,q1,_⟩:=r.vt (aak hk);exact ⟨q1,hm⟩
  ·rw [abq (λz=>e z.symm)] at h2;obtain ⟨q1,q2⟩:=r.fN k' a' m' h1 h2;have ne:a'≠a:=λz=>by subst z;exact e ((List.getElem?_inj (aaf.mp h1).1 r.nd).mp (h1.trans hk.symm))
   exact ⟨q1,q2.mono (.refl _) (.refl _) (Θ ne)⟩
theorem Rl.J1{k:Nat}{a:Addr}(r:Rl K G L M H)(hk:L[k]? =some a):Ex G L H G L (upd H a o) where
 g:= .refl _
 l:= .refl _
 fr:=λb h1 _=>h1
 out:=λb u h1 h2=>by rw [Θ (λz=>h2 (by rw [z];exact aak hk))];exact h1
 new:=λb h=> .inl h
 B7:=λb h=>by
  by_cases e:b=a
  ·rw [e,Ω];simp
  ·rw [Θ e];exact h
end
structure k_(K:PySem.W.Frag)(G:Hp)(L:List Addr)(ρ:En)(σ:St):Prop where
 len:ρ.length=σ.length
 fN:∀(i:Nat) (d:Dt),ρ[i]? =some (some d)->∃v,σ[i]? =some (some v)/\Den K G L d v
section
variable{K:PySem.W.Frag}{G G':Hp}{L L':List Addr}{H H':Hp}{ρ:En}{σ:St}
theorem k_.mono(h:k_ K G L ρ σ)(e:Ex G L H G' L' H'):k_ K G' L' ρ σ:=⟨h.len,λi d q=>let ⟨v,a,b⟩:=h.fN i d q;⟨v,a,Den.mono e.g e.l d v b⟩⟩
theorem k_.set(h:k_ K G L ρ σ)(i:Nat){d:Dt}{v:V}(q:Den K G L d v):k_ K G L (ρ.set i (some d)) (σ.set i (some v)):=by
 refine ⟨by rw [aa2,aa2];exact h.len,λj d' e=>?_⟩;by_cases hj:i=j
 ·subst hj;have hl:i<ρ.length:=by have:=(aaf.mp e).1;rwa [aa2] at this
  rw [aa1 hl] at e;cases e;exact ⟨v,aa1 (by rw [<-h.len];exact hl),q⟩
 ·rw [abq hj] at e;obtain ⟨u,a,b⟩:=h.fN j d' e;exact ⟨u,by rw [abq hj];exact a,b⟩
end
abbrev DQ:=Dt->Ms->Prop
abbrev DX:=En->Addr->List (Str×Dt)->Ms->Prop
def Th(K:PySem.W.Frag)(G:Hp)(L:List Addr)(H:Hp)(fs:List (Str×Dt))(od:Option Addr):Prop:=
 (fs=[]/\od=none)\/fs≠[]/\∃dx vs,od=some dx/\G dx=some (.xd ((fs.map (·.1)).zip vs))/\Χ K G L (fs.map (·.2)) vs
def ub(K:PySem.W.Frag)(G:Hp)(L:List Addr)(H:Hp)(R:St->XK)(x:DX):Prop:=
 ∀σ ρ C fs M' G' L' H' od,x ρ C fs M'->Ex G L H G' L' H'->Rl K G' L' M' H'->k_ K G' L' ρ σ->Th K G' L' H' fs od->R σ (.ref C) od H'
theorem ub.on{K:PySem.W.Frag}{G:Hp}{L:List Addr}{H G1:Hp}{L1:List Addr}{H1:Hp}{R:St->XK}{x:DX}(h:ub K G L H R x)(e:Ex G L H G1 L1 H1):ub K G1 L1 H1 R x:=
 λσ ρ C fs M' G' L' H' od q e' r n y=>h σ ρ C fs M' G' L' H' od q (e.trans e') r n y
def k8:DX:=λ_ _ _ _=>False
theorem I_{K:PySem.W.Frag}{G:Hp}{L:List Addr}{H:Hp}{R:St->XK}:ub K G L H R k8:=λ_ _ _ _ _ _ _ _ _ q=>q.elim
abbrev DE:=En->Ms->DQ->DX->Prop
abbrev DT:=En->Ms->(Bool->Ms->Prop)->DX->Prop
abbrev DA:=En->Ms->(List Dt->Ms->Prop)->DX->Prop
structure k9 where
 nx:En->Ms->Prop
 rt:DQ
 bk:En->Ms->Prop:=λ_ _=>False
 ct:En->Ms->Prop:=λ_ _=>False
 x:DX:=k8
abbrev DS:=k9->En->Ms->Prop
inductive Fin(K:PySem.W.Frag)(G0:Hp)(L0:List Addr)(H0:Hp)(q:DQ)(v:V)(H:Hp):Prop
 |mk (d:Dt) (G:Hp) (L:List Addr) (M:Ms) (e:Ex G0 L0 H0 G L H) (r:Rl K G L M H) (n:Den K G L d v) (h:q d M)
inductive vM(K:PySem.W.Frag)(G0:Hp)(L0:List Addr)(H0:Hp)(q:Bool->Ms->Prop)(b:Bool)(H:Hp):Prop
 |mk (G:Hp) (L:List Addr) (M:Ms) (e:Ex G0 L0 H0 G L H) (r:Rl K G L M H) (h:q b M)
inductive MW(K:PySem.W.Frag)(G0:Hp)(L0:List Addr)(H0:Hp)(q:List Dt->Ms->Prop)(vs:List V)(H:Hp):Prop
 |mk (ds:List Dt) (G:Hp) (L:List Addr) (M:Ms) (e:Ex G0 L0 H0 G L H) (r:Rl K G L M H) (n:Χ K G L ds vs) (h:q ds M)
inductive eK(K:PySem.W.Frag)(G0:Hp)(L0:List Addr)(H0:Hp)(q:En->Ms->Prop)(σ:St)(H:Hp):Prop
 |mk (ρ:En) (G:Hp) (L:List Addr) (M:Ms) (e:Ex G0 L0 H0 G L H) (r:Rl K G L M H) (n:k_ K G L ρ σ) (h:q ρ M)
def tE(K:PySem.W.Frag)(G0:Hp)(L0:List Addr)(H0:Hp)(Dn:k9):xQ:=⟨eK K G0 L0 H0 Dn.nx,Fin K G0 L0 H0 Dn.rt,eK K G0 L0 H0 Dn.bk,eK K G0 L0 H0 Dn.ct⟩
inductive yr(K:PySem.W.Frag)(R:St->XK)(t:DE)(σ:St)(H:Hp)(Q:VK):Prop
 |mk (G:Hp) (L:List Addr) (ρ:En) (M:Ms) (q:DQ) (x:DX) (r:Rl K G L M H) (n:k_ K G L ρ σ) (h:t ρ M q x) (hx:ub K G L H R x) (hQ:∀v H1,Fin K G L H q v H1->Q v H1)
inductive Eg(K:PySem.W.Frag)(R:St->XK)(t:DT)(σ:St)(H:Hp)(Q:Bool->Hp->Prop):Prop
 |mk (G:Hp) (L:List Addr) (ρ:En) (M:Ms) (q:Bool->Ms->Prop) (x:DX) (r:Rl K G L M H) (n:k_ K G L ρ σ) (h:t ρ M q x) (hx:ub K G L H R x) (hQ:∀b H1,vM K G L H q b H1->Q b H1)
inductive Ru(K:PySem.W.Frag)(R:St->XK)(t:DA)(σ:St)(H:Hp)(Q:List V->Hp->Prop):Prop
 |mk (G:Hp) (L:List Addr) (ρ:En) (M:Ms) (q:List Dt->Ms->Prop) (x:DX) (r:Rl K G L M H) (n:k_ K G L ρ σ) (h:t ρ M q x) (hx:ub K G L H R x) (hQ:∀vs H1,MW K G L H q vs H1->Q vs H1)
structure O2(A B:xQ):Prop where
 nx:∀σ H,A.nx σ H->B.nx σ H
 rt:∀v H,A.rt v H->B.rt v H
 bk:∀σ H,A.bk σ H->B.bk σ H
 ct:∀σ H,A.ct σ H->B.ct σ H
inductive Rp(K:PySem.W.Frag)(R:St->XK)(t:DS)(De:xQ)(σ:St)(H:Hp):Prop
 |mk (G:Hp) (L:List Addr) (ρ:En) (M:Ms) (Dn:k9) (r:Rl K G L M H) (n:k_ K G L ρ σ) (h:t Dn ρ M) (hx:ub K G L H R Dn.x) (hQ:O2 (tE K G L H Dn) De)
def JE(X:Cx)(R:St->XK)(e:Expr)(t:DE):Prop:=PE X e (yr X.K R t)
def JT(X:Cx)(R:St->XK)(e:Expr)(t:DT):Prop:=PT X e (Eg X.K R t)
def JW(X:Cx)(R:St->XK)(e:Expr)(t:DT):Prop:=PW X e (Eg X.K R t)
def JA(X:Cx)(R:St->XK)(es:List Expr)(t:DA):Prop:=PA X es (Ru X.K R t)
def JS(X:Cx)(R:St->XK)(st:Stmt)(t:DS):Prop:=PS X st (Rp X.K R t)
def Bg(X:Cx)(R:St->XK)(st:List Stmt)(t:DS):Prop:=Gx X st (Rp X.K R t)
section
variable{K:PySem.W.Frag}{G0:Hp}{L0:List Addr}{H0 G1:Hp}{L1:List Addr}{H1:Hp}
theorem Fin.back{q:DQ}(e:Ex G0 L0 H0 G1 L1 H1){v:V}{H:Hp}(h:Fin K G1 L1 H1 q v H):Fin K G0 L0 H0 q v H:=let ⟨d,G,L,M,a,b,c,f⟩:=h;⟨d,G,L,M,e.trans a,b,c,f⟩
theorem eK.back{q:En->Ms->Prop}(e:Ex G0 L0 H0 G1 L1 H1){v:St}{H:Hp}(h:eK K G1 L1 H1 q v H):eK K G0 L0 H0 q v H:=let ⟨d,G,L,M,a,b,c,f⟩:=h;⟨d,G,L,M,e.trans a,b,c,f⟩
theorem vM.back{q:Bool->Ms->Prop}(e:Ex G0 L0 H0 G1 L1 H1){v:Bool}{H:Hp}(h:vM K G1 L1 H1 q v H):vM K G0 L0 H0 q v H:=let ⟨G,L,M,a,b,f⟩:=h;⟨G,L,M,e.trans a,b,f⟩
theorem tE.back{Dn:k9}(e:Ex G0 L0 H0 G1 L1 H1):O2 (tE K G1 L1 H1 Dn) (tE K G0 L0 H0 Dn):=⟨λ_ _ h=>eK.back e h,λ_ _ h=>Fin.back e h,λ_ _ h=>eK.back e h,λ_ _ h=>eK.back e h⟩
theorem SP.imp{X:Cx}{ζ:List (Addr×Obj)}{A B:xQ}(e:O2 A B){f:Flow}{s:Shared}(h:SP X ζ A f s):SP X ζ B f s:=by
 cases f with
 |next=>obtain ⟨a,b,I,q⟩:=h;exact ⟨a,b,I,e.nx _ _ q⟩
 |brk=>obtain ⟨a,b,I,q⟩:=h;exact ⟨a,b,I,e.bk _ _ q⟩
 |cont=>obtain ⟨a,b,I,q⟩:=h;exact ⟨a,b,I,e.ct _ _ q⟩
 |ret u=>obtain ⟨v,a,b,I,r,q⟩:=h;exact ⟨v,a,b,I,r,e.rt _ _ q⟩
end
section
variable{X:Cx}{R:St->XK}{e:Expr}
theorem JE.of{te:TE}{t:DE}(h:PE X e te)(hw:∀σ H G L ρ M q x,Rl X.K G L M H->k_ X.K G L ρ σ->t ρ M q x->ub X.K G L H R x->te σ H (Fin X.K G L H q)):JE X R e t:=by intro ζ s σ H Q I ⟨G,L,ρ,M,q,x,r,n,ht,hx,hQ⟩;refine bC (h ζ s σ H _ I (hw σ H G L ρ M q x r n ht hx)) λu s1 ⟨v,H1,I1,rv,f⟩=>⟨v,H1,I1,rv,hQ v H1 f⟩
theorem JT.of{te:TT}{t:DT}(h:PT X e te)(hw:∀σ H G L ρ M q x,Rl X.K G L M H->k_ X.K G L ρ σ->t ρ M q x->ub X.K G L H R x->te σ H (vM X.K G L H q)):JT X R e t:=by intro ζ s σ H Q I ⟨G,L,ρ,M,q,x,r,n,ht,hx,hQ⟩;refine bC (h ζ s σ H _ I (hw σ H G L ρ M q x r n ht hx)) λu s1 ⟨H1,I1,f⟩=>⟨H1,I1,hQ u H1 f⟩
theorem JW.of{te:TT}{t:DT}(h:PW X e te)(hw:∀σ H G L ρ M q x,Rl X.K G L M H->k_ X.K G L ρ σ->t ρ M q x->ub X.K G L H R x->te σ H (vM X.K G L H q)):JW X R e t:=by intro wh ζ s σ H Q I ⟨G,L,ρ,M,q,x,r,n,ht,hx,hQ⟩;refine bC (h wh ζ s σ H _ I (hw σ H G L ρ M q x r n ht hx)) λu s1 ⟨H1,I1,f⟩=>⟨H1,I1,hQ u H1 f⟩
theorem JA.of{es:List Expr}{te:TA}{t:DA}(h:PA X es te)(hw:∀σ H G L ρ M q x,Rl X.K G L M H->k_ X.K G L ρ σ->t ρ M q x->ub X.K G L H R x->te σ H (MW X.K G L H q)):JA X R es t:=by intro pos ζ s σ H Q I ⟨G,L,ρ,M,q,x,r,n,ht,hx,hQ⟩;refine bC (h pos ζ s σ H _ I (hw σ H G L ρ M q x r n ht hx)) λu s1 ⟨v,H1,I1,rv,f⟩=>⟨v,H1,I1,rv,hQ v H1 f⟩
theorem JS.of{st:Stmt}{te:TS}{t:DS}(h:PS X st te)(hw:∀σ H G L ρ M Dn,Rl X.K G L M H->k_ X.K G L ρ σ->t Dn ρ M->ub X.K G L H R Dn.x->te (tE X.K G L H Dn) σ H):JS X R st t:=by intro ζ s σ H De I ⟨G,L,ρ,M,Dn,r,n,ht,hx,hQ⟩;exact bC (h ζ s σ H _ I (hw σ H G L ρ M Dn r n ht hx)) λu s1 f=>SP.imp hQ f
theorem Bg.of{st:List Stmt}{te:TS}{t:DS}(h:Gx X st te)(hw:∀σ H G L ρ M Dn,Rl X.K G L M H->k_ X.K G L ρ σ->t Dn ρ M->ub X.K G L H R Dn.x->te (tE X.K G L H Dn) σ H):Bg X R st t:=by intro ζ s σ H De I ⟨G,L,ρ,M,Dn,r,n,ht,hx,hQ⟩;exact bC (h ζ s σ H _ I (hw σ H G L ρ M Dn r n ht hx)) λu s1 f=>SP.imp hQ f
end
def AG(i:Nat):DE:=λρ M q _=>match ρ[i]? with
 |some (some d)=>q d M
 |_=>False
def dC(d:Dt):DE:=λ_ M q _=>q d M
def kX(f:Dt->Dt->Ms->DQ->Prop)(a b:DE):DE:=λρ M q x=>a ρ M (λd1 M1=>b ρ M1 (λd2 M2=>f d1 d2 M2 q) x) x
def Uu(f:Dt->Ms->DQ->Prop)(a:DE):DE:=λρ M q x=>a ρ M (λd1 M1=>f d1 M1 q) x
def Oj:DA:=λ_ M q _=>q [] M
def Jg(a:DE)(r:DA):DA:=λρ M q x=>a ρ M (λd M1=>r ρ M1 (λds M2=>q (d::ds) M2) x) x
def Av(f:List Dt->Ms->DQ->Prop)(a:DA):DE:=λρ M q x=>a ρ M (λds M1=>f ds M1 q) x
def n9(K:PySem.W.Frag)(r:R2)(f:Dt->Dt->Ms->DQ->Prop):Prop:=
 ∀G0 L0 H0 G L M H v1 v2 d1 d2 q,Ex G0 L0 H0 G L H->Rl K G L M H->Den K G L d1 v1->Den K G L d2 v2->f d1 d2 M q->r v1 v2 H (Fin K G0 L0 H0 q)
def Vl(K:PySem.W.Frag)(r:V->Hp->VK->Prop)(f:Dt->Ms->DQ->Prop):Prop:=
 ∀G0 L0 H0 G L M H v1 d1 q,Ex G0 L0 H0 G L H->Rl K G L M H->Den K G L d1 v1->f d1 M q->r v1 H (Fin K G0 L0 H0 q)
def BD(K:PySem.W.Frag)(r:List V->Hp->VK->Prop)(f:List Dt->Ms->DQ->Prop):Prop:=
 ∀G0 L0 H0 G L M H vs ds q,Ex G0 L0 H0 G L H->Rl K G L M H->Χ K G L ds vs->f ds M q->r vs H (Fin K G0 L0 H0 q)
section
variable{K:PySem.W.Frag}{R:St->XK}{ta tb:DE}{tc:DA}{σ:St}{H G:Hp}{L:List Addr}{ρ:En}{M:Ms}{q:DQ}{x:DX}
theorem Ca{r:R2}{f:Dt->Dt->Ms->DQ->Prop}(od:n9 K r f)(rl:Rl K G L M H)(n:k_ K G L ρ σ)(h:kX f ta tb ρ M q x)(hx:ub K G L H R x):R7 r (yr K R ta) (yr K R tb) σ H (Fin K G L H q):=by refine ⟨G,L,ρ,M,_,x,rl,n,h,hx,λv H1 ⟨d1,G1,L1,M1,e1,r1,n1,h1⟩=>?_⟩;refine ⟨G1,L1,ρ,M1,_,x,r1,n.mono e1,h1,hx.on e1,λv2 H2 ⟨d2,G2,L2,M2,e2,r2,n2,h2⟩=>?_⟩;exact od G L H G2 L2 M2 H2 v v2 d1 d2 q (e1.trans e2) r2 (Den.mono e2.g e2.l _ _ n1) n2 h2
theorem SN{r:V->Hp->VK->Prop}{f:Dt->Ms->DQ->Prop}(od:Vl K r f)(rl:Rl K G L M H)(n:k_ K G L ρ σ)(h:Uu f ta ρ M q x)(hx:ub K G L H R x):YR r (yr K R ta) σ H (Fin K G L H q):=by refine ⟨G,L,ρ,M,_,x,rl,n,h,hx,λv H1 ⟨d1,G1,L1,M1,e1,r1,n1,h1⟩=>?_⟩;exact od G L H G1 L1 M1 H1 v d1 q e1 r1 n1 h1
theorem NQ{r:List V->Hp->VK->Prop}{f:List Dt->Ms->DQ->Prop}(od:BD K r f)(rl:Rl K G L M H)(n:k_ K G L ρ σ)(h:Av f tc ρ M q x)(hx:ub K G L H R x):X6 r (Ru K R tc) σ H (Fin K G L H q):=by refine ⟨G,L,ρ,M,_,x,rl,n,h,hx,λv H1 ⟨d1,G1,L1,M1,e1,r1,n1,h1⟩=>?_⟩;exact od G L H G1 L1 M1 H1 v d1 q e1 r1 n1 h1
end
section
variable{X:Cx}{R:St->XK}{a b c:Expr}{ta tb:DE}{pos:Pos}
theorem jv(i:Nat){x:Str}{pos:Pos}(hN:X.N[i]? =some x:=by rfl)(hv:W5 X.env.scope x:=by first|exact Or.inl rfl|exact Or.inr (Or.inl rfl)|exact Or.inr (Or.inr rfl))(hd:(x==("__debug__":Str))=false:=by decide)
  (C2:(x==("__classdict__":Str))=false:=by decide):JE X R (.Name x pos) (AG i):= .of (Qk hN hv hd C2) λσ H G L ρ M q x r n h hx=>by
 unfold AG at h;split at h
 ·rename_i d e;obtain ⟨v,e1,h1⟩:=n.fN i d e;exact ⟨v,e1,d,G,L,M,.refl _ _ _,r,h1,h⟩
 ·exact h.elim
theorem OK{d:Dt}{v:V}{e:Expr}(h:PE X e (tC v))(hd:∀G L,Den X.K G L d v):JE X R e (dC d):= .of h λσ H G L ρ M q x r n h hx=>⟨d,G,L,M,.refl _ _ _,r,hd G L,h⟩
theorem χ{i j pos}:JE X R (.Constant (.int i) j pos) (dC (.int i)):=OK O_ λ_ _=>rfl
theorem CB{b j pos}:JE X R (.Constant (.bool b) j pos) (dC (.bl b)):=OK Tq λ_ _=>rfl
theorem Me{j pos}:JE X R (.Constant .none j pos) (dC .bq):=OK Qa λ_ _=>rfl
theorem jx{x j pos}:JE X R (.Constant (.str x) j pos) (dC (.str x)):=OK I0 λ_ _=>rfl
theorem xx{op:Operator}{r:R2}{f:Dt->Dt->Ms->DQ->Prop}(ho:jF X (binaryOp op) r)(od:n9 X.K r f)(ja:JE X R a ta)(jb:JE X R b tb):JE X R (.BinOp a op b pos) (kX f ta tb):=
 .of (Ry ho ja jb) λσ H G L ρ M q x r n h hx=>Ca od r n h hx
theorem Vy{op:UnaryOp}{r:V->Hp->VK->Prop}{f:Dt->Ms->DQ->Prop}(ho:UP X (unaryOp op) r)(od:Vl X.K r f)(ja:JE X R a ta):JE X R (.UnaryOp op a pos) (Uu f ta):=
 .of (TB ho ja) λσ H G L ρ M q x r n h hx=>SN od r n h hx
theorem y6{op:CmpOp}{r:R2}{f:Dt->Dt->Ms->DQ->Prop}(ho:jF X (compareOp op) r)(od:n9 X.K r f)(ja:JE X R a ta)(jb:JE X R b tb)(hm:behindInMarks op b=false):JE X R (.Compare a [op] [b] pos) (kX f ta tb):=
 .of (MR ho ja jb hm) λσ H G L ρ M q x r n h hx=>Ca od r n h hx
theorem Sk{r:R2}{f:Dt->Dt->Ms->DQ->Prop}(hr:Ko X r)(od:n9 X.K r f)(ja:JE X R a ta)(jb:JE X R b tb)(hs:vI b):JE X R (.Subscript a b pos) (kX f ta tb):=
 .of (TF hr ja jb hs) λσ H G L ρ M q x r n h hx=>Ca od r n h hx
theorem dt{env:Env}{es:List Expr}{c j p}:starEach (.Constant c j p::es) env=(false,eval (.Constant c j p) env)::starEach es env:=rfl
theorem NA{env:Env}{es:List Expr}{c p}:starEach (.Name c p::es) env=(false,eval (.Name c p) env)::starEach es env:=rfl
theorem bY{env:Env}{es:List Expr}{a o b p}:starEach (.BinOp a o b p::es) env=(false,eval (.BinOp a o b p) env)::starEach es env:=rfl
theorem aG{env:Env}{es:List Expr}{a b c p}:starEach (.Call a b c p::es) env=(false,eval (.Call a b c p) env)::starEach es env:=rfl
theorem aQ{env:Env}{es:List Expr}{a b p}:starEach (.Subscript a b p::es) env=(false,eval (.Subscript a b p) env)::starEach es env:=rfl
theorem DJ{env:Env}{es:List Expr}{a b p}:starEach (.Tuple a b p::es) env=(false,eval (.Tuple a b p) env)::starEach es env:=rfl
theorem CC{env:Env}{es:List Expr}{a o b p}:starEach (.Compare a o b p::es) env=(false,eval (.Compare a o b p) env)::starEach es env:=rfl
theorem η:JA X R [] Oj:= .of NV λσ H G L ρ M q x r n h hx=>⟨[],G,L,M,.refl _ _ _,r,rfl,h⟩
theorem ι{e:Expr}{es:List Expr}{te:DE}{t:DA}(ha:JE X R e te)(hr:JA X R es t)(hs:starEach (e::es) X.env=(false,eval e X.env)::starEach es X.env:=by first|exact dt|exact NA|exact bY|exact aG|exact aQ|exact DJ|exact CC|exact ZL|rfl):JA X R (e::es) (Jg te t):=
 .of (LL ha hr hs) λσ H G L ρ M q x rl n h hx=>by refine ⟨G,L,ρ,M,_,x,rl,n,h,hx,λv H1 ⟨d1,G1,L1,M1,e1,r1,n1,h1⟩=>?_⟩;refine ⟨G1,L1,ρ,M1,_,x,r1,n.mono e1,h1,hx.on e1,λv2 H2 ⟨d2,G2,L2,M2,e2,r2,n2,h2⟩=>?_⟩;exact ⟨d1::d2,G2,L2,M2,e1.trans e2,r2,⟨_,_,rfl,Den.mono e2.g e2.l _ _ n1,n2⟩,h2⟩
theorem Ρ{c:Str}{p:Pos}{es:List Expr}{te:DE}{t:DA}(ha:JE X R (.Name c p) te)(hr:JA X R es t):JA X R (.Name c p::es) (Jg te t):=ι ha hr NA
def QZ(t:DA):DE:=λρ M q x=>t ρ M (λds M1=>ds.length<=sizeLine/\q (.tup ds) M1) x
def RI(t:DA):DE:=λρ M q x=>t ρ M (λds M1=>ds.length<=sizeLine/\q (.lst ds) M1) x
def Nz(t:DA):DE:=λρ M q x=>t ρ M (λds M1=>ds.length<=sizeLine/\q (.loc M1.length) (M1++[.lst ds])) x
theorem kS{K:PySem.W.Frag}{G0:Hp}{L0:List Addr}{H0 G:Hp}{L:List Addr}{M:Ms}{H:Hp}{p:Addr}{o:HO}{d:Dt}{q:DQ}(e:Ex G0 L0 H0 G L H)(r:Rl K G L M H)(hp:H p=none)(hd:Den K (upd G p o) L d (.ref p))(h:q d M):Fin K G0 L0 H0 q (.ref p) (upd H p o):=
 ⟨d,upd G p o,L,M,e.trans (r.QD hp),r.Lw hp,hd,h⟩
theorem qj{K:PySem.W.Frag}{G:Hp}{L:List Addr}{M:Ms}{H:Hp}{p:Addr}{ds:List Dt}{vs:List V}(r:Rl K G L M H)(hp:H p=none)(h:Χ K G L ds vs):Den K (upd G p (.tup vs)) L (.tup ds) (.ref p):=
 ⟨p,vs,rfl,Ω,Χ.mono (r.QD hp).g (.refl _) _ _ h⟩
theorem qd{K:PySem.W.Frag}{G:Hp}{L:List Addr}{M:Ms}{H:Hp}{p:Addr}{ds:List Dt}{vs:List V}(r:Rl K G L M H)(hp:H p=none)(h:Χ K G L ds vs):Den K (upd G p (.lst vs)) L (.lst ds) (.ref p):=
 ⟨p,vs,rfl,Ω,Χ.mono (r.QD hp).g (.refl _) _ _ h⟩
theorem jz{K:PySem.W.Frag}{G0:Hp}{L0:List Addr}{H0 G:Hp}{L:List Addr}{M:Ms}{H:Hp}{p:Addr}{q:DQ}{ds:List Dt}{vs:List V}(e:Ex G0 L0 H0 G L H)(r:Rl K G L M H)(hp:H p=none)(hd:Χ K G L ds vs)(h:q (.loc M.length) (M++[.lst ds])):Fin K G0 L0 H0 q (.ref p) (upd H p (.lst vs)):=
 ⟨.loc M.length,G,L++[p],M++[.lst ds],e.trans (r.Uj hp),r.MC (m:= .lst ds) hp ⟨vs,Ω,Χ.mono (.refl _) ⟨[p],rfl⟩ _ _ hd⟩,⟨p,rfl,by rw [<-r.len,List.getElem?_append_right (Nat.le_refl _)];simp⟩,h⟩
variable{es:List Expr}{t:DA}
theorem fv{x1}(h:JA X R es t):JE X R (.Tuple es x1 pos) (QZ t):= .of (Pb h) λσ H G L ρ M q x rl n h hx=>by refine ⟨G,L,ρ,M,_,x,rl,n,h,hx,λv H1 ⟨d1,G1,L1,M1,e1,r1,n1,h1⟩=>⟨by rw [<-n1.length];exact h1.1,λp hp=>?_⟩⟩;exact kS e1 r1 hp (qj r1 hp n1) h1.2
theorem lq(h:JA X R es t):JE X R (.List es pos) (RI t):= .of (Ha h) λσ H G L ρ M q x rl n h hx=>by refine ⟨G,L,ρ,M,_,x,rl,n,h,hx,λv H1 ⟨d1,G1,L1,M1,e1,r1,n1,h1⟩=>⟨by rw [<-n1.length];exact h1.1,λp hp=>?_⟩⟩;exact kS e1 r1 hp (qd r1 hp n1) h1.2
theorem kq(h:JA X R es t):JE X R (.List es pos) (Nz t):= .of (Ha h) λσ H G L ρ M q x rl n h hx=>by refine ⟨G,L,ρ,M,_,x,rl,n,h,hx,λv H1 ⟨d1,G1,L1,M1,e1,r1,n1,h1⟩=>⟨by rw [<-n1.length];exact h1.1,λp hp=>?_⟩⟩;exact jz e1 r1 hp n1 h1.2
def om(t:DE):DT:=λρ M q x=>t ρ M (λd M1=>match d with
 |.bl b=>q b M1
 |_=>False) x
def Zb(t u:DT):DT:=λρ M q x=>t ρ M (λc M1=>(c=true->q true M1)/\(c=false->u ρ M1 q x)) x
def RS(t:DT):DT:=λρ M q x=>t ρ M (λc M1=>q (!c) M1) x
theorem Ob{K:PySem.W.Frag}{t:DE}{σ:St}{H G:Hp}{L:List Addr}{ρ:En}{M:Ms}{q:Bool->Ms->Prop}{x:DX}(rl:Rl K G L M H)(n:k_ K G L ρ σ)(h:om t ρ M q x)(hx:ub K G L H R x):tB (yr K R t) σ H (vM K G L H q):=by
 refine ⟨G,L,ρ,M,_,x,rl,n,h,hx,λv H1 ⟨d1,G1,L1,M1,e1,r1,n1,h1⟩=>?_⟩
 (try dsimp only at h1)
 split at h1
 ·rename_i b;exact ⟨b,n1,G1,L1,M1,e1,r1,h1⟩
 ·exact h1.elim
theorem bB{e:Expr}{t:DE}(h:JE X R e t)(he:∀whole,isTrue e X.env whole=(do let v<-whole;standAt e.pos;holding [v] (truthy v)):=by intro _;rfl):JT X R e (om t):=
 .of (P8 h he) λσ H G L ρ M q x rl n h hx=>Ob rl n h hx
theorem jk{op:CmpOp}{r:R2}{f:Dt->Dt->Ms->DQ->Prop}(ho:jF X (compareOp op) r)(od:n9 X.K r f)(ja:JE X R a ta)(jb:JE X R b tb)(hm:behindInMarks op b=false):JT X R (.Compare a [op] [b] pos) (om (kX f ta tb)):=
 .of (K1 ho ja jb hm) λσ H G L ρ M q x rl n h hx=>by
  have h:kX f ta tb ρ M (λd M1=>match d with|.bl b=>q b M1|_=>False) x:=h;refine ⟨G,L,ρ,M,_,x,rl,n,h,hx,λv H1 ⟨d1,G1,L1,M1,e1,r1,n1,h1⟩=>?_⟩;refine ⟨G1,L1,ρ,M1,_,x,r1,n.mono e1,h1,hx.on e1,λv2 H2 ⟨d2,G2,L2,M2,e2,r2,n2,h2⟩=>?_⟩;have:=od G L H G2 L2 M2 H2 v v2 d1 d2 _ (e1.trans e2) r2 (Den.mono e2.g e2.l _ _ n1) n2 h2;have e:(λx H'=>∃k,x=V.bl k/\vM X.K G L H q k H')=Fin X.K G L H (λd M1=>match d with|.bl b=>q b M1|_=>False):=by
   funext y H'
   apply propext;constructor
   ·rintro ⟨k,rfl,G3,L3,M3,e3,r3,h3⟩;exact ⟨.bl k,G3,L3,M3,e3,r3,rfl,h3⟩
   ·rintro ⟨d,G3,L3,M3,e3,r3,n3,h3⟩;split at h3
    ·rename_i k;exact ⟨k,n3,G3,L3,M3,e3,r3,h3⟩
    ·exact h3.elim
  rw [e];exact this
theorem JW.jt{e:Expr}{t:DT}(h:JW X R e t):JT X R e t:=h _
variable{t1 t2:DT}{rest:List Expr}
theorem i9(ha:JT X R a t1):JW X R (.BoolOp .Or [a] pos) t1:=pw_or1 ha
theorem jB(ha:JT X R a t1)(hb:JW X R (.BoolOp .Or (b::rest) pos) t2):JW X R (.BoolOp .Or (a::b::rest) pos) (Zb t1 t2):= .of (pw_or ha hb) λσ H G L ρ M q x rl n h hx=>by
 refine ⟨G,L,ρ,M,_,x,rl,n,h,hx,λc H1 ⟨G1,L1,M1,e1,r1,h1⟩=>?_⟩;cases c with
 |true=>exact G9 ⟨G1,L1,M1,e1,r1,h1.1 rfl⟩
 |false=>exact Hn ⟨G1,L1,ρ,M1,_,x,r1,n.mono e1,h1.2 rfl,hx.on e1,λb H2 f=>vM.back e1 f⟩
theorem eR(ha:JT X R a t1):JT X R (.UnaryOp .Not a pos) (RS t1):= .of (Ot ha) λσ H G L ρ M q x rl n h hx=>
 ⟨G,L,ρ,M,_,x,rl,n,h,hx,λ_ _ ⟨G,L,M,e,r,h⟩=>⟨G,L,M,e,r,h⟩⟩
def Td(t u:DE):DE:=λρ M q x=>t ρ M (λd M1=>match d with
 |.bl c=>(c=true->u ρ M1 q x)/\(c=false->q (.bl false) M1)
 |_=>False) x
def Q5(t:DE):DE:=λρ M q x=>t ρ M (λd M1=>match d with
 |.bl c=>q (.bl (!c)) M1
 |_=>False) x
def Zr(t:DT)(u v:DE):DE:=λρ M q x=>t ρ M (λc M1=>(c=true->u ρ M1 q x)/\(c=false->v ρ M1 q x)) x
theorem lE{op}{t:DE}(h:JE X R a t):JE X R (.BoolOp op [a] pos) t:=O0 h
theorem iy(ha:JE X R a ta)(hb:JE X R (.BoolOp .And (b::rest) pos) tb):JE X R (.BoolOp .And (a::b::rest) pos) (Td ta tb):= .of (N3 ha hb) λσ H G L ρ M q x rl n h hx=>by
 refine ⟨G,L,ρ,M,_,x,rl,n,h,hx,λv H1 ⟨d1,G1,L1,M1,e1,r1,n1,h1⟩=>?_⟩
 (try dsimp only at h1)
 split at h1
 ·rename_i c;refine ⟨c,n1,?_⟩;cases c with
  |true=>exact G9 ⟨G1,L1,ρ,M1,_,x,r1,n.mono e1,h1.1 rfl,hx.on e1,λb H2 f=>Fin.back e1 f⟩
  |false=>exact Hn ⟨.bl false,G1,L1,M1,e1,r1,rfl,h1.2 rfl⟩
 ·exact h1.elim
theorem P6(ha:JE X R a ta):JE X R (.UnaryOp .Not a pos) (Q5 ta):= .of (Oq ha) λσ H G L ρ M q x rl n h hx=>by
 refine ⟨G,L,ρ,M,_,x,rl,n,h,hx,λv H1 ⟨d1,G1,L1,M1,e1,r1,n1,h1⟩=>?_⟩
 (try dsimp only at h1)
 split at h1
 ·rename_i c;exact ⟨c,n1,.bl (!c),G1,L1,M1,e1,r1,rfl,h1⟩
 ·exact h1.elim
theorem r6{c:Expr}(hc:JT X R c t1)(ha:JE X R a ta)(hb:JE X R b tb):JE X R (.IfExp c a b pos) (Zr t1 ta tb):= .of (Iz hc ha hb) λσ H G L ρ M q x rl n h hx=>by
 refine ⟨G,L,ρ,M,_,x,rl,n,h,hx,λc H1 ⟨G1,L1,M1,e1,r1,h1⟩=>?_⟩;cases c with
 |true=>exact G9 ⟨G1,L1,ρ,M1,_,x,r1,n.mono e1,h1.1 rfl,hx.on e1,λb H2 f=>Fin.back e1 f⟩
 |false=>exact Hn ⟨G1,L1,ρ,M1,_,x,r1,n.mono e1,h1.2 rfl,hx.on e1,λb H2 f=>Fin.back e1 f⟩
end
def Nu:DS:=λDn ρ M=>Dn.nx ρ M
def S4(t u:DS):DS:=λDn ρ M=>t {Dn with nx:=u Dn} ρ M
def Zz(c:DT)(t u:DS):DS:=λDn ρ M=>c ρ M (λb M1=>(b=true->t Dn ρ M1)/\(b=false->u Dn ρ M1)) Dn.x
def QU(t:DE):DS:=λDn ρ M=>t ρ M Dn.rt Dn.x
def KY(i:Nat)(t:DE):DS:=λDn ρ M=>t ρ M (λd M1=>Dn.nx (ρ.set i (some d)) M1) Dn.x
def Hk(t:DE):DS:=λDn ρ M=>t ρ M (λ_ M1=>Dn.nx ρ M1) Dn.x
def VP(t:DS):DS:=λDn ρ M=>∃J:En->Ms->Prop,t {Dn with nx:=J} ρ M/\∀ρ' M',J ρ' M'->Dn.nx ρ' M'
section
variable{X:Cx}{R:St->XK}{st:Stmt}{rest:List Stmt}{t u:DS}{e:Expr}{te:DE}{pos:Pos}
theorem Υ:Bg X R [] Nu:= .of LV λσ H G L ρ M Dn rl n h hx=>⟨ρ,G,L,M,.refl _ _ _,rl,n,h⟩
theorem μ(h1:JS X R st t):Bg X R [st] t:=LG h1
theorem θ(h1:JS X R st t)(h2:Bg X R rest u):Bg X R (st::rest) (S4 t u):= .of (Ji h1 h2) λσ H G L ρ M Dn rl n h hx=>by refine ⟨G,L,ρ,M,_,rl,n,h,hx,⟨λσ1 H1 ⟨ρ1,G1,L1,M1,e1,r1,n1,h1⟩=>?_,λ_ _ f=>f,λ_ _ f=>f,λ_ _ f=>f⟩⟩;exact ⟨G1,L1,ρ1,M1,Dn,r1,n1,h1,hx.on e1,tE.back e1⟩
theorem pH:JS X R (.Continue pos) (λDn ρ M=>Dn.ct ρ M):= .of yG λσ H G L ρ M Dn rl n h hx=>⟨ρ,G,L,M,.refl _ _ _,rl,n,h⟩
theorem Ζ(he:JE X R e te):JS X R (.Return (some e) pos) (QU te):= .of (Ox he) λσ H G L ρ M Dn rl n h hx=>⟨G,L,ρ,M,_,_,rl,n,h,hx,λ_ _ f=>f⟩
theorem eh(he:JE X R e te)(hs:swapsWith e none pos.line X.env=pure false:=by rfl):JS X R (.Expr e pos) (Hk te):= .of (KC he hs) λσ H G L ρ M Dn rl n h hx=>by refine ⟨G,L,ρ,M,_,_,rl,n,h,hx,λv H1 ⟨d1,G1,L1,M1,e1,r1,n1,h1⟩=>⟨ρ,G1,L1,M1,e1,r1,n.mono e1,h1⟩⟩
theorem aD{c:Expr}{a b:List Stmt}{tc:DT}(hc:JT X R c tc)(ha:Bg X R a t)(hb:Bg X R b u):JS X R (.If c a b pos) (Zz tc t u):= .of (SX hc ha hb) λσ H G L ρ M Dn rl n h hx=>by
 refine ⟨G,L,ρ,M,_,_,rl,n,h,hx,λc H1 ⟨G1,L1,M1,e1,r1,h1⟩=>?_⟩;cases c with
 |true=>exact G9 ⟨G1,L1,ρ,M1,Dn,r1,n.mono e1,h1.1 rfl,hx.on e1,tE.back e1⟩
 |false=>exact Hn ⟨G1,L1,ρ,M1,Dn,r1,n.mono e1,h1.2 rfl,hx.on e1,tE.back e1⟩
theorem Γ(i:Nat){x:Str}{pos':Pos}(hN:X.N.Nodup)(he:JE X R e te)(hi:X.N[i]? =some x:=by rfl)(hx:Loc X.env.scope x:=by first|exact .inl rfl|exact .inr rfl)(hs:swapsWith e (some (.Name x pos')) pos.line X.env=pure false:=by rfl)(hf:X.fn x=true\/X.env.scope.names.lookup x=some .local:=by first|exact .inl rfl|exact .inr rfl|assumption):
  JS X R (.Assign [.Name x pos'] e pos) (KY i te):= .of (Ol hN hi hx he hs hf) λσ H G L ρ M Dn rl n h hx=>by
 refine ⟨G,L,ρ,M,_,_,rl,n,h,hx,λv H1 ⟨d1,G1,L1,M1,e1,r1,n1,h1⟩=>⟨_,G1,L1,M1,e1,r1,(n.mono e1).set i n1,h1⟩⟩
theorem h9(h:JS X R st t):JS X R st (VP t):= .of h λσ H G L ρ M Dn rl n h hx=>by obtain ⟨J,h1,h2⟩:=h;refine ⟨G,L,ρ,M,_,rl,n,h1,hx,⟨λσ1 H1 ⟨ρ1,G1,L1,M1,e1,r1,n1,h1⟩=>⟨ρ1,G1,L1,M1,e1,r1,n1,h2 _ _ h1⟩,λ_ _ f=>f,λ_ _ f=>f,λ_ _ f=>f⟩⟩
end
abbrev YO:=Addr->List (Str×Dt)->Ms->Prop
abbrev DF:=List Dt->Ms->DQ->YO->Prop
inductive cC(K:PySem.W.Frag)(T:DF)(vs:List V)(H:Hp)(Q:VK)(E:XK):Prop
 |mk (G:Hp) (L:List Addr) (ds:List Dt) (M:Ms) (q:DQ) (x:YO) (r:Rl K G L M H) (n:Χ K G L ds vs) (h:T ds M q x) (hQ:∀v H1,Fin K G L H q v H1->Q v H1) (hE:∀C fs M1 G1 L1 H1 od,x C fs M1->Ex G L H G1 L1 H1->Rl K G1 L1 M1 H1->Th K G1 L1 H1 fs od->E (.ref C) od H1)
def jW(N:List Str)(ds:List Dt):En:=ds.map some++List.replicate (N.length-ds.length) none
theorem Ai{K:PySem.W.Frag}{G:Hp}{L:List Addr}{N:List Str}{ds:List Dt}{vs:List V}(h:Χ K G L ds vs):k_ K G L (jW N ds) (start N vs):=by
 have hl:=h.length;refine ⟨by unfold jW start;simp [hl],λi d e=>?_⟩;unfold jW at e;unfold start;by_cases hi:i<ds.length
 ·rw [List.getElem?_append_left (by simpa using hi),List.getElem?_map] at e;rw [List.getElem?_append_left (by simpa [<-hl] using hi),List.getElem?_map];cases q:ds[i]? with
  |none=>rw [q] at e;cases e
  |some d'=>
   rw [q] at e;cases e;obtain ⟨v,e1,h1⟩:=h.get q;exact ⟨v,by rw [e1];rfl,h1⟩
 ·rw [List.getElem?_append_right (by simpa using Nat.le_of_not_lt hi),List.getElem?_replicate] at e;split at e <;> cases e
section
variable{P:Program}{w:World}{K:PySem.W.Frag}{mg:Str->Option Value}{base:Heap}
theorem cI.de{x qual:Str}{st:Stmt}{f:Addr}{fd:FuncData}{N ps:List Str}{k:Nat}{T:DF}(F:cI K x qual st f fd)(S:Ε N ps (τ st))(len:∀ds M q x,T ds M q x->ds.length=ps.length)
  (rF:∀(aV:Value) (A:Around) (outer:List Env) (s:Shared) (H:Hp) (E:XK),bM k (A.deeper (envOfC qual (τ st) s.heap.objs.size f aV))->
   ∃t,Bg (tL (bV P w) P w K mg base N qual (τ st) f aV A outer s H E) (λ_=>E) (dD st) t/\∀ds M q x,T ds M q x->t {nx:=λ_ M'=>q .bq M',rt:=q,x:=λ_=>x} (jW N ds) M):
  aq P w K mg base (bV P w) (k+1) f fd ps (cC K T):=by
 refine F.okX S (λvs H Q E h=>?_) (λaV A outer s H vs Q E hr h=>?_)
 ·obtain ⟨G,L,ds,M,q,x,rl,n,hT,_⟩:=h;rw [<-n.length];exact len _ _ _ _ hT
 ·obtain ⟨t,j,ht⟩:=rF aV A outer s H E hr;obtain ⟨G,L,ds,M,q,x,rl,n,hT,hQ,hE⟩:=h;refine ⟨_,j,G,L,jW N ds,M,_,rl,Ai n,ht ds M q x hT,λσ ρ C fs M' G' L' H' od hx e r _ y=>hE C fs M' G' L' H' od hx e r y,⟨λσ' H' ⟨ρ',G',L',M',e,r,_,h⟩=>hQ _ _ ⟨.bq,G',L',M',e,r,rfl,h⟩,λv H' f=>hQ v H' f,λ_ _ ⟨_,_,_,_,_,_,_,h⟩=>h.elim,λ_ _ ⟨_,_,_,_,_,_,_,h⟩=>h.elim⟩⟩
structure av(P:Program)(w:World)(K:PySem.W.Frag)(mg:Str->Option Value)(base:Heap)(k:Nat)(x:Str)(ps:List Str)(T:DF)(f:Addr)(fd:FuncData):Prop where
 ok:aq P w K mg base (bV P w) k f fd ps (cC K T)
 b:h7 K fd ps []
 m:mg x=some (.ref f)
 kp:PySem.W.keepIn K (.ref f)=true
end
def NU(T:DF)(t:DA):DE:=λρ M q x=>t ρ M (λds M1=>T ds M1 q (λC fs M'=>x ρ C fs M')) x
section
variable{X:Cx}{R:St->XK}{T:DF}{k k':Nat}{f:Addr}{fd:FuncData}{ps:List Str}{x:Str}{p pos:Pos}{e:Expr}{es:List Expr}{t:DA}
theorem ae(C:av X.prog X.w X.K X.mg X.base k x ps T f fd)(hr:bM k' X.A)(hx:cZ (bV X.prog X.w) X R)(ha:JA X R (e::es) t)(hk:k<=k':=by decide)(hg:Gl X x:=by rfl)(tS:(x==("__debug__":Str))=false:=by decide)
  (he:starEach (e::es) X.env=(false,eval e X.env)::starEach es X.env:=by rfl) (fJ:(backTo pos (starEach es X.env)).any (·.1)=false:=by rfl):JE X R (.Call (.Name x p) (e::es) [] pos) (NU T t):=
 .of (zo C.ok (hr.mono hk) hg C.m C.kp C.b .nil hx ha tS he fJ) λσ H G L ρ M q x rl n h hx=>by refine ⟨G,L,ρ,M,_,x,rl,n,h,hx,λvs H1 ⟨ds,G1,L1,M1,e1,r1,n1,h1⟩=>?_⟩;show cC X.K T (vs++[]) H1 _ _;rw [aaV];exact ⟨G1,L1,ds,M1,q,_,r1,n1,h1,λv H' f=>Fin.back e1 f,λC fs M' G' L' H' od hq e' r' y=>hx σ ρ C fs M' G' L' H' od hq (e1.trans e') r' (n.mono (e1.trans e')) y⟩
end
structure Yl(K:PySem.W.Frag)(J:It)(xs:List Dt)(G0:Hp)(L0:List Addr):Prop where
 go:∀(i:Nat) G L M H (d:Dt),dX G0 G->Pre L0 L->Rl K G L M H->xs[i]? =some d->J.go i H/\∀v H',J.T1 i H v H'->∃G',Ex G L H G' L H'/\Rl K G' L M H'/\Den K G' L d v
 stop:∀(i:Nat) G L M H,dX G0 G->Pre L0 L->Rl K G L M H->xs.length<=i->J.stop i H
inductive QR(K:PySem.W.Frag)(G0:Hp)(L0:List Addr)(H0:Hp)(q:List Dt->Ms->Prop)(J:It)(H:Hp):Prop
 |mk (xs:List Dt) (G:Hp) (L:List Addr) (M:Ms) (e:Ex G0 L0 H0 G L H) (r:Rl K G L M H) (y:Yl K J xs G L) (h:q xs M)
inductive Xm(K:PySem.W.Frag)(R:St->XK)(t:DA)(σ:St)(H:Hp)(Q:It->Hp->Prop):Prop
 |mk (G:Hp) (L:List Addr) (ρ:En) (M:Ms) (q:List Dt->Ms->Prop) (x:DX) (r:Rl K G L M H) (n:k_ K G L ρ σ) (h:t ρ M q x) (hx:ub K G L H R x) (hQ:∀J H1,QR K G L H q J H1->Q J H1)
def JI(X:Cx)(R:St->XK)(tg iter:Expr)(t:DA):Prop:=PI X tg iter (Xm X.K R t)
theorem Kq.imp{X:Cx}{ζ:List (Addr×Obj)}{σ:St}{tg:Expr}{R R':It->Hp->Prop}(hR:∀J H,R J H->R' J H){v:Value}{s:Shared}(h:Kq X ζ σ tg R v s):Kq X ζ σ tg R' v s:=by obtain ⟨it,fp,tn,J,H',a,b,c,d,e,f⟩:=h;exact ⟨it,fp,tn,J,H',a,b,c,d,e,hR J H' f⟩
theorem CM{K:PySem.W.Frag}{G:Hp}{L:List Addr}{a:Addr}{ds:List Dt}{vs:List V}(h:∀G':Hp,dX G G'->gy K G' a vs)(n:Χ K G L ds vs):Yl K (Uy K a) ds G L where
 go:=λi G1 L1 M1 H1 d g l r e=>by
  obtain ⟨v,e1,n1⟩:=n.get e;have hs:=h H1 (g.trans r.sub)
  exact ⟨⟨vs,v,hs,e1⟩,λv' H' ⟨eH,y⟩=>by
   subst eH;have e2:=y vs hs;rw [e1] at e2;cases e2
   exact ⟨G1,.refl _ _ _,r,Den.mono g l _ _ n1⟩⟩
 stop:=λi G1 L1 M1 H1 g l r e=>⟨vs,h H1 (g.trans r.sub),by rw [<-n.length];exact e⟩
theorem Ja{K:PySem.W.Frag}{G:Hp}{L:List Addr}{a:Addr}{ds:List Dt}{vs:List V}(h:∀G':Hp,dX G G'->nv K G' a vs)(n:Χ K G L ds vs):Yl K (Ve K a) ds G L where
 go:=λi G1 L1 M1 H1 d g l r e=>by
  obtain ⟨v,e1,n1⟩:=n.get e;have hs:=h H1 (g.trans r.sub)
  exact ⟨⟨vs,v,hs,e1⟩,λv' H' ⟨eH,y⟩=>by
   subst eH;have e2:=y vs hs;rw [e1] at e2;cases e2
   exact ⟨G1,.refl _ _ _,r,Den.mono g l _ _ n1⟩⟩
 stop:=λi G1 L1 M1 H1 g l r e=>⟨vs,h H1 (g.trans r.sub),by rw [<-n.length];exact e⟩
def dU(lo:Int)(n:Nat):List Dt:=(List.range n).map λk:Nat=>Dt.int (lo+(k:Int))
theorem JJ{K:PySem.W.Frag}{G:Hp}{L:List Addr}{lo:Int}{n:Nat}:Yl K (Rb lo n) (dU lo n) G L where
 go :=λi G1 L1 M1 H1 d g l r e=>by
  unfold dU at e;rw [aam] at e;have hi:i<n:=by
   cases q:(List.range n)[i]? with
   |none=>rw [q] at e;cases e
   |some j=>
    have:=(aaf.mp q).1;rwa [aaM] at this
  rw [aaF hi] at e;cases e;exact ⟨hi,λv' H' ⟨eH,y⟩=>by subst eH y;exact ⟨G1,.refl _ _ _,r,rfl⟩⟩
 stop:=λi G1 L1 M1 H1 g l r e=>by show n<=i;unfold dU at e;simpa using e
section
variable{X:Cx}{R:St->XK}{tg iter:Expr}
theorem JI.of{wi:TI}{t:DA}(h:PI X tg iter wi)(hw:∀σ H G L ρ M q x,Rl X.K G L M H->k_ X.K G L ρ σ->t ρ M q x->ub X.K G L H R x->wi σ H (QR X.K G L H q)):JI X R tg iter t:=by intro ζ s σ H Q I ⟨G,L,ρ,M,q,x,r,n,ht,hx,hQ⟩;exact bC (h ζ s σ H _ I (hw σ H G L ρ M q x r n ht hx)) λu s1 f=>bC f λu2 s2 f2=>Kq.imp hQ f2
def Q7(t:DA):DA:=λρ M q x=>t ρ M (λds M1=>match ds with
 |[.int j]=>(-(2^62)<=j/\j<2^62)/\q (dU 0 j.toNat) M1
 |_=>False) x
theorem cR{a:Expr}{t:DA}{p pos:Pos}(hm:X.mg "range"=none)(ha:JA X R [a] t)(hg:Gl X "range":=by rfl)(hs:starEach [a] X.env=[(false,eval a X.env)]:=by rfl):JI X R tg (.Call (.Name "range" p) [a] [] pos) (Q7 t):=
 .of (Gm hg hm ha hs) λσ H G L ρ M q x rl n h hx=>by
  refine ⟨G,L,ρ,M,_,x,rl,n,h,hx,λvs H1 ⟨ds,G1,L1,M1,e1,r1,n1,h1⟩=>?_⟩
  (try dsimp only at h1)
  split at h1
  ·rename_i j;obtain ⟨v,rfl,n2⟩:=br n1;have n2:v= .int j:=n2;subst n2;exact ⟨j,rfl,h1.1.1,h1.1.2,_,G1,L1,M1,e1,r1,JJ,h1.2⟩
  ·exact h1.elim
def A8(t:DA):DA:=λρ M q x=>t ρ M (λds M1=>match ds with
 |[.int i,.int j]=>(-(2^62)<=i/\i<2^62/\ -(2^62)<=j/\j<2^62)/\q (dU i (j-i).toNat) M1
 |_=>False) x
theorem va{a b:Expr}{t:DA}{p pos:Pos}(hm:X.mg "range"=none)(ha:JA X R [a,b] t)(hg:Gl X "range":=by rfl)(hs:starEach [a,b] X.env=[(false,eval a X.env),(false,eval b X.env)]:=by rfl)(Oz:starEach [b] X.env=[(false,eval b X.env)]:=by rfl):
  JI X R tg (.Call (.Name "range" p) [a,b] [] pos) (A8 t):=
 .of (EK hg hm ha hs Oz) λσ H G L ρ M q x rl n h hx=>by
  refine ⟨G,L,ρ,M,_,x,rl,n,h,hx,λvs H1 ⟨ds,G1,L1,M1,e1,r1,n1,h1⟩=>?_⟩
  (try dsimp only at h1)
  split at h1
  ·rename_i i j;obtain ⟨v,u,rfl,n3,n2⟩:=fA n1;have n3:v= .int i:=n3;have n2:u= .int j:=n2;subst n3 n2;exact ⟨i,j,rfl,h1.1,_,G1,L1,M1,e1,r1,JJ,h1.2⟩
  ·exact h1.elim
end
def GD(K:PySem.W.Frag)(gg:TG)(g:Dt->En->(En->Prop)->Prop):Prop:=
 ∀G L M H d v ρ σ (k:En->Prop) (Q:St->Hp->Prop),Rl K G L M H->Den K G L d v->k_ K G L ρ σ->g d ρ k->(∀ρ' σ',k_ K G L ρ' σ'->k ρ'->Q σ' H)->gg v σ H Q
def gN(i:Nat):Dt->En->(En->Prop)->Prop:=λd ρ k=>k (ρ.set i (some d))
theorem aS{K:PySem.W.Frag}{i:Nat}:GD K (iH i) (gN i):=λG L M H d v ρ σ k Q rl n en h hQ=>hQ _ _ (en.set i n) h
def g2(i j:Nat):Dt->En->(En->Prop)->Prop:=λd ρ k=>match d with
 |.tup [a,b]=>k ((ρ.set i (some a)).set j (some b))
 |_=>False
theorem oi{K:PySem.W.Frag}{i j:Nat}:GD K (GP K 2 (mT (iH i) (mT (iH j) HC))) (g2 i j):=λG L M H d v ρ σ k Q rl n en h hQ=>by
 unfold g2 at h;split at h
 ·rename_i a b;obtain ⟨p,vs,rfl,e,n⟩:=n;obtain ⟨v1,v2,rfl,n1,n2⟩:=fA n;exact ⟨p,_,rfl,.inl (.inl (rl.sub _ _ e)),rfl,v1,_,rfl,v2,_,rfl,rfl,hQ _ _ ((en.set i n1).set j n2) h⟩
 ·exact h.elim
def vR(g:Dt->En->(En->Prop)->Prop)(tb:DS)(Dn:k9):List Dt->En->Ms->Prop
 |[],ρ,M=>Dn.nx ρ M
 |x::xs,ρ,M=>g x ρ λρ'=>tb {Dn with nx:=vR g tb Dn xs,ct:=vR g tb Dn xs,bk:=Dn.nx} ρ' M
def Tu(ti:DA)(g:Dt->En->(En->Prop)->Prop)(tb:DS):DS:=λDn ρ M=>ti ρ M (λxs M1=>vR g tb Dn xs ρ M1) Dn.x
section
variable{X:Cx}{R:St->XK}{tg iter:Expr}{body:List Stmt}{ti:DA}{gg:TG}{g:Dt->En->(En->Prop)->Prop}{tb:DS}{pos:Pos}
theorem ie(hi:JI X R tg iter ti)(hg:PG X tg gg)(gd:GD X.K gg g)(hb:Bg X R body tb)(hp:PassesOwn (model X.prog X.w) X.A X.env X.xe:=by first|exact PassesOwn.never|exact PassesOwn.leaving)(hc:X.calm=true:=by rfl)(hs:∀x,foldedSetIterable iter X.env x=pure x:=by intro _;rfl):
  JS X R (.For tg iter body [] pos) (Tu ti g tb):= .of (Bw hp hc hi hg hb hs) λσ H G L ρ M Dn rl n h hx=>by
 refine ⟨G,L,ρ,M,_,_,rl,n,h,hx,λJ H1 ⟨xs,G1,L1,M1,e1,r1,y,h1⟩=>?_⟩;refine ⟨λi m σ' H'=>m+i=xs.length/\eK X.K G1 L1 H1 (λρ' M'=>vR g tb Dn (xs.drop i) ρ' M') σ' H',⟨xs.length,rfl,ρ,G1,L1,M1,.refl _ _ _,r1,n.mono e1,by rw [aca];exact h1⟩,?_⟩;rintro i m σ' H' ⟨hm,ρ',G',L',M',e',r',n',h'⟩;by_cases hi:i<xs.length
 ·right;have hd:xs[i]? =some xs[i]:=aaa hi;obtain ⟨go,yl⟩:=y.go i G' L' M' H' _ e'.g e'.l r' hd;rw [aa7 hi] at h';refine ⟨go,eK X.K G1 L1 H1 (λρ' M'=>vR g tb Dn (xs.drop (i+1)) ρ' M'),λσ2 H2 f=>⟨m-1,by omega,by omega,f⟩,λv H2 hy=>?_⟩;obtain ⟨G2,e2,r2,n2⟩:=yl v H2 hy;refine gd G2 L' M' H2 _ v ρ' σ' _ _ r2 n2 (n'.mono e2) h' λρ3 σ3 n3 h3=>?_;refine ⟨G2,L',ρ3,M',_,r2,n3,h3,hx.on (e1.trans (e'.trans e2)),⟨λ_ _ f=>eK.back (e'.trans e2) f,λ_ _ f=>Fin.back (e1.trans (e'.trans e2)) f,λ_ _ f=>eK.back (e1.trans (e'.trans e2)) f,λ_ _ f=>eK.back (e'.trans e2) f⟩⟩
 ·left;refine ⟨y.stop i G' L' M' H' e'.g e'.l r' (by omega),ρ',G',L',M',e1.trans e',r',n',?_⟩;rw [abJ (by omega)] at h';exact h'
end
abbrev DK:=En->Ms->(List Dt->(Ms->Prop)->Ms->Prop)->DX->Prop
structure Pc(K:PySem.W.Frag)(J:It)(xs:List Dt)(ok:Ms->Prop)(G0:Hp)(L0:List Addr):Prop where
 go:∀(i:Nat) G L M H (d:Dt),dX G0 G->Pre L0 L->Rl K G L M H->ok M->xs[i]? =some d->J.go i H/\∀v H',J.T1 i H v H'->∃G',Ex G L H G' L H'/\Rl K G' L M H'/\Den K G' L d v
 stop:∀(i:Nat) G L M H,dX G0 G->Pre L0 L->Rl K G L M H->ok M->xs.length<=i->J.stop i H
inductive Yo(K:PySem.W.Frag)(G0:Hp)(L0:List Addr)(H0:Hp)(q:List Dt->(Ms->Prop)->Ms->Prop)(J:It)(H:Hp):Prop
 |mk (xs:List Dt) (ok:Ms->Prop) (G:Hp) (L:List Addr) (M:Ms) (e:Ex G0 L0 H0 G L H) (r:Rl K G L M H) (y:Pc K J xs ok G L) (h:q xs ok M)
inductive VM(K:PySem.W.Frag)(R:St->XK)(t:DK)(σ:St)(H:Hp)(Q:It->Hp->Prop):Prop
 |mk (G:Hp) (L:List Addr) (ρ:En) (M:Ms) (q:List Dt->(Ms->Prop)->Ms->Prop) (x:DX) (r:Rl K G L M H) (n:k_ K G L ρ σ) (h:t ρ M q x) (hx:ub K G L H R x) (hQ:∀J H1,Yo K G L H q J H1->Q J H1)
def JK(X:Cx)(R:St->XK)(tg iter:Expr)(t:DK):Prop:=PI X tg iter (VM X.K R t)
def ZO(t:DA):DK:=λρ M q x=>t ρ M (λxs M1=>q xs (λ_=>True) M1) x
theorem NG{X:Cx}{R:St->XK}{tg iter:Expr}{t:DA}(h:JI X R tg iter t):JK X R tg iter (ZO t):=by intro ζ s σ H Q I ⟨G,L,ρ,M,q,x,r,n,ht,hx,hQ⟩;refine h ζ s σ H Q I ⟨G,L,ρ,M,_,x,r,n,ht,hx,λJ H1 ⟨xs,G1,L1,M1,e1,r1,y,hq⟩=>hQ J H1 ⟨xs,_,G1,L1,M1,e1,r1,⟨λi G L M H d g l r _ e=>y.go i G L M H d g l r e,λi G L M H g l r _ e=>y.stop i G L M H g l r e⟩,hq⟩⟩
def pV(ak:List Nat)(ρ:En):En:=ak.map λi=>(ρ[i]?).join
def iR(g:Dt->En->(En->Prop)->Prop)(tc:DT)(te:DE)(ρ0:En)(ok:Ms->Prop):List Dt->List Dt->Ms->(List Dt->Ms->Prop)->Prop
 |[],Ι,M,k=>ok M/\k Ι M
 |x::xs,Ι,M,k=>ok M/\g x ρ0 λρ'=>tc ρ' M (λb M1=>match b with
  |true=>te ρ' M1 (λd M2=>iR g tc te ρ0 ok xs (Ι++[d]) M2 k) k8
  |false=>iR g tc te ρ0 ok xs Ι M1 k) k8
def Bh(n:Nat)(ti:DK)(g:Dt->En->(En->Prop)->Prop)(tc:DT)(te:DE)(ak:List Nat):DE:=λρ M q x=>ti ρ M (λxs ok M1=>xs.length<=sizeLine/\iR g tc te (List.replicate n none++pV ak ρ) ok xs [] M1 (λys M2=>q (.lst ys) M2)) x
theorem ML{K:PySem.W.Frag}{G:Hp}{L:List Addr}{ρ:En}{σ os:St}{n:Nat}(h:k_ K G L ρ σ)(ak:List Nat)(hl:os.length=n):k_ K G L (List.replicate n none++pV ak ρ) (os++nW ak σ):=by
 have lc:(pV ak ρ).length=(nW ak σ).length:=by unfold pV nW;simp
 refine ⟨by rw [aag,aag,aaQ,hl,lc],λi d' e=>?_⟩;by_cases hi:i<n
 ·rw [aao (by rw [aaQ];exact hi),abG,if_pos hi] at e;cases e
 ·rw [aal (by rw [aaQ];omega),aaQ] at e;rw [aal (by omega),hl];unfold pV at e;unfold nW;rw [aam] at e⊢;cases q:ak[i-n]? with
  |none=>rw [q] at e;cases e
  |some j=>
   rw [q] at e;have e:(ρ[j]?).join=some d':=aas e;have e:ρ[j]? =some (some d'):=by
    cases z:ρ[j]? with
    |none=>rw [z] at e;cases e
    |some o=>rw [z] at e;exact congrArg some e
   obtain ⟨v,hv,dn⟩:=h.fN j d' e;exact ⟨v,by show some ((σ[j]?).join)=_;rw [hv];rfl,dn⟩
theorem z5{K:PySem.W.Frag}{J:It}{gg:TG}{g:Dt->En->(En->Prop)->Prop}{tc:DT}{te:DE}{ak:List Nat}{nn:Nat}{ρ:En}{σ:St}{G1:Hp}{L1:List Addr}{M1:Ms}{H1:Hp}{xs:List Dt}{ok:Ms->Prop}{Dl:Addr}{Q:VK}{k:List Dt->Ms->Prop}(gd:GD K gg g)(r1:Rl K G1 L1 M1 H1)(n:k_ K G1 L1 ρ σ)(y:Pc K J xs ok G1 L1)(hD:H1 Dl=none)(hz:xs.length<=sizeLine)
  (h:iR g tc te (List.replicate nn none++pV ak ρ) ok xs [] M1 k)
  (fin:∀G2 L2 M2 H2 ds vs,Ex G1 L1 H1 G2 L2 H2->Rl K G2 L2 M2 H2->G2 Dl=none->Dl∉L2->H2 Dl=some (.lst vs)->Χ K G2 L2 ds vs->k ds M2->Q (.ref Dl) H2):
  BH J nn gg (Eg K (λ_=>E0) tc) (yr K (λ_=>E0) te) (nW ak σ) Q H1 Dl:=by
 refine ⟨λi m ys H2=>m+i=xs.length/\H2 Dl=some (.lst ys)/\∃Ι G2 L2 M2,Ex G1 L1 H1 G2 L2 H2/\Rl K G2 L2 M2 H2/\G2 Dl=none/\Dl∉L2/\Χ K G2 L2 Ι ys/\Ι.length<=i/\iR g tc te (List.replicate nn none++pV ak ρ) ok (xs.drop i) Ι M2 k,⟨xs.length,rfl,Ω,[],G1,L1,M1,?_⟩,?_⟩
 ·have gn:G1 Dl=none:=r1.sub.free hD;refine ⟨⟨.refl _,.refl _,λ_ h _=>h,λb u h1 _=>by rw [Θ (λz=>by rw [z,hD] at h1;cases h1)];exact h1,λ_ h=> .inl h,λb h=>by rw [Θ (λz=>h (by rw [z];exact hD))];exact h⟩,⟨λb u e=>by rw [Θ (λz=>by rw [z,gn] at e;cases e)];exact r1.sub b u e,r1.len,r1.nd,λi a m h1 h2=>?_⟩,gn,r1.LN hD,rfl,aah _,by rw [aca];exact h⟩;obtain ⟨q1,q2⟩:=r1.fN i a m h1 h2;exact ⟨q1,q2.mono (.refl _) (.refl _) (Θ λz=>q2.there (by rw [z];exact hD))⟩
 ·rintro i m ys H2 ⟨hm,JB,Ι,G2,L2,M2,e2,r2,g2,l2,n2,la,h2⟩;refine ⟨JB,?_⟩;have ne1:∀{b:Addr} {u:HO},H1 b=some u->b≠Dl:=λe z=>by rw [z,hD] at e;cases e
  by_cases hi:i<xs.length
  ·right;have hd:xs[i]? =some xs[i]:=aaa hi;rw [aa7 hi] at h2;obtain ⟨ba,h2⟩:=h2;obtain ⟨go,yl⟩:=y.go i G2 L2 M2 H2 _ e2.g e2.l r2 ba hd;refine ⟨go,λv H3 hy os hos=>?_⟩;obtain ⟨G3,e3,r3,n3⟩:=yl v H3 hy;have h3:H3 Dl=some (.lst ys):=e3.out _ _ JB l2;have g3:G3 Dl=none:=e3.fr _ g2 (by rw [JB];simp);refine gd G3 L2 M2 H3 _ v _ _ _ _ r3 n3 (ML ((n.mono e2).mono e3) ak hos) h2 λρ' σ' n' h'=>?_;refine ⟨G3,L2,ρ',M2,_,k8,r3,n',h',I_,λb H4 ⟨G4,L4,M4,e4,r4,h4⟩=>?_⟩;have UM:H4 Dl=some (.lst ys):=e4.out _ _ h3 l2;have g4:G4 Dl=none:=e4.fr _ g3 (by rw [h3];simp);have l4:Dl∉L4:=λz=>(e4.new _ z).elim l2 λq=>by rw [h3] at q;cases q
   have UO:=e3.trans e4;cases b with
   |false=>
    exact ⟨m-1,by omega,by omega,UM,Ι,G4,L4,M4,e2.trans UO,r4,g4,l4,Χ.mono UO.g UO.l _ _ n2,by omega,h4⟩
   |true=>
    refine ⟨G4,L4,ρ',M4,_,k8,r4,n'.mono e4,h4,I_,λv5 H5 ⟨d5,G5,L5,M5,e5,r5,n5,h5⟩=>?_⟩;have h5':H5 Dl=some (.lst ys):=e5.out _ _ UM l4;have g5:G5 Dl=none:=e5.fr _ g4 (by rw [UM];simp);have l5:Dl∉L5:=λz=>(e5.new _ z).elim l4 λq=>by rw [UM] at q;cases q
    have V1:=UO.trans e5;have Y':ys.length=Ι.length:=by rw [<-n2.length]
    refine ⟨h5',by omega,m-1,by omega,by omega,Ω,Ι++[d5],G5,L5,M5,?_,?_,g5,l5,(Χ.mono V1.g V1.l _ _ n2).app ⟨_,_,rfl,n5,rfl⟩,by rw [aag];show Ι.length+1<=i+1;omega,h5⟩
    ·have QJ:=e2.trans V1
     exact ⟨QJ.g,QJ.l,QJ.fr,λb u h1 h2=>by rw [Θ (ne1 h1)];exact QJ.out b u h1 h2,QJ.new,λb h=>by
      by_cases hb:b=Dl
      ·rw [hb,Ω];simp
      ·rw [Θ hb];exact QJ.B7 b h⟩
    ·refine ⟨λb u e=>by rw [Θ (λz=>by rw [z,g5] at e;cases e)];exact r5.sub b u e,r5.len,r5.nd,λi a m h1 h2=>?_⟩;obtain ⟨q1,q2⟩:=r5.fN i a m h1 h2;exact ⟨q1,q2.mono (.refl _) (.refl _) (Θ λz=>l5 (by rw [<-z];exact aak h1))⟩
  ·left;rw [abJ (by omega)] at h2;exact ⟨y.stop i G2 L2 M2 H2 e2.g e2.l r2 h2.1 (by omega),fin G2 L2 M2 H2 Ι ys e2 r2 g2 l2 JB n2 h2.2⟩
section
variable{K:PySem.W.Frag}{G1:Hp}{L1:List Addr}{H1 G:Hp}{L:List Addr}{M:Ms}{H:Hp}{p:Addr}{ds:List Dt}{vs:List V}{q:DQ}
theorem MP(e:Ex G1 L1 H1 G L H)(r:Rl K G L M H)(Gv:H1 p=none)(hg:G p=none)(hl:p∉L)(h:H p=some (.lst vs))(n:Χ K G L ds vs)(k:q (.lst ds) M):Fin K G1 L1 H1 q (.ref p) H:=by
 have g1:dX G (upd G p (.lst vs)):=λb u e=>by rw [Θ (λz=>by rw [z,hg] at e;cases e)];exact e
 refine ⟨.lst ds,upd G p (.lst vs),L,M,⟨e.g.trans g1,e.l,λb h1 h2=>?_,e.out,e.new,e.B7⟩,⟨λb u e=>?_,r.len,r.nd,λk a m h1 h2=>?_⟩,⟨p,vs,rfl,Ω,Χ.mono g1 (.refl _) _ _ n⟩,k⟩
 ·rw [Θ (λz=>h2 (by rw [z];exact Gv))];exact e.fr b h1 h2
 ·by_cases hb:b=p
  ·rw [hb,Ω] at e;rw [hb];cases e;exact h
  ·rw [Θ hb] at e;exact r.sub b u e
 ·obtain ⟨q1,q2⟩:=r.fN k a m h1 h2;have hb:a≠p:=λz=>hl (by rw [<-z];exact aak h1);exact ⟨by rw [Θ hb];exact q1,q2.mono g1 (.refl _) rfl⟩
theorem MH(e:Ex G1 L1 H1 G L H)(r:Rl K G L M H)(Gv:H1 p=none)(hg:G p=none)(hl:p∉L)(h:H p=some (.lst vs))(n:Χ K G L ds vs)(k:q (.loc M.length) (M++[.lst ds])):Fin K G1 L1 H1 q (.ref p) H:=by
 refine ⟨.loc M.length,G,L++[p],M++[.lst ds],⟨e.g,e.l.trans ⟨[p],rfl⟩,e.fr,e.out,λb hb=>?_,e.B7⟩,⟨r.sub,by rw [List.length_append,List.length_append,r.len];rfl,List.nodup_append.mpr ⟨r.nd,by simp,λa ha b hb=>?_⟩,λk a m h1 h2=>?_⟩,⟨p,rfl,by rw [<-r.len,List.getElem?_append_right (Nat.le_refl _)];simp⟩,k⟩
 ·rcases aaN.mp hb with z|z
  ·exact e.new b z
  ·have e:b=p:=by simpa using z
   right;rw [e];exact Gv
 ·have e:b=p:=by simpa using hb
  rw [e];exact λz=>hl (z▸ha)
 ·by_cases hk:k<L.length
  ·rw [aao hk] at h1;rw [aao (by rw [<-r.len];exact hk)] at h2;obtain ⟨q1,q2⟩:=r.fN k a m h1 h2;exact ⟨q1,q2.mono (.refl _) ⟨[p],rfl⟩ rfl⟩
  ·have e:k=L.length:=by have:=(aaf.mp h1).1;rw [aag] at this;simp at this;omega
   rw [e,aal (aah _)] at h1;rw [e,r.len,aal (aah _)] at h2;simp at h1 h2;subst h1 h2;exact ⟨hg,vs,h,Χ.mono (.refl _) ⟨[p],rfl⟩ _ _ n⟩
def Ue(b:Bool)(q:DQ)(ys:List Dt)(M:Ms):Prop:=match b with
 |false=>q (.lst ys) M
 |true=>q (.loc M.length) (M++[.lst ys])
theorem Dd{b:Bool}(e:Ex G1 L1 H1 G L H)(r:Rl K G L M H)(Gv:H1 p=none)(hg:G p=none)(hl:p∉L)(h:H p=some (.lst vs))(n:Χ K G L ds vs)(k:Ue b q ds M):Fin K G1 L1 H1 q (.ref p) H:=by
 cases b
 ·exact MP e r Gv hg hl h n k
 ·exact MH e r Gv hg hl h n k
end
theorem jr{n i:Nat}(h:i<n):vk n (iH i):=λv os cs H Q hl hq=>⟨⟨os.set i (some v),by rw [aa2];exact hl,abD _ _ (by omega)⟩,hq⟩
theorem u7{K:PySem.W.Frag}{n i j:Nat}(h:i<n)(h':j<n):vk n (GP K 2 (mT (iH i) (mT (iH j) HC))):=
 λv os cs H Q hl ⟨a,xs,e,s,l,v1,r,e1,v2,r2,e2,e3,q⟩=>⟨a,xs,e,s,l,v1,r,e1,v2,r2,e2,e3,⟨(os.set i (some v1)).set j (some v2),by simp [hl],by
  rw [abD _ _ (by omega),abD _ _ (by rw [aa2];omega)]⟩,q⟩
section
variable{X:Cx}{elt iter tg:Expr}{xs:List Str}{scope:Scope}{pos:Pos}{ys:List Str}{ak:List Nat}
theorem iI{i:Nat}{x:Str}{px:Pos}(S:aF X scope xs ys ak)(h:xs[i]? =some x)(C:Addr)(s:Shared)(H:Hp)(fp:List Addr):PG (Cx.comp X (xs++ys) scope C s H fp) (.Name x px) (iH i):=by
 have hm:x∈xs:=aak h;have hi:(xs++ys)[i]? =some x:=by rw [aao (aaf.mp h).1];exact h
 exact ax S.nd hi (.inl (lookup_relabel_local (S.own x hm))) (.inr (lookup_relabel_local (S.own x hm)))
theorem DN{x y:Str}{px py:Pos}{k:Nat}(hc:X.calm=true)(S:aF X scope [x,y] ys ak)(C:Addr)(s:Shared)(H:Hp)(fp:List Addr):PG (Cx.comp X ([x,y]++ys) scope C s H fp) (.Tuple [.Name x px, .Name y py] k pos) (GP X.K 2 (mT (iH 0) (mT (iH 1) HC))):=
 nP (X:=Cx.comp X ([x,y]++ys) scope C s H fp) hc (cz (iI S (i:=0) rfl C s H fp) (cz (iI S (i:=1) rfl C s H fp) kK))
end
def sP:DT:=λ_ M q _=>q true M
def X8(X:Cx)(cs:List Expr)(t:DT):Prop:=UK X cs (Eg X.K (λ_=>E0) t)
theorem pZ{X:Cx}:X8 X [] sP:=⟨.inl rfl,λζ s σ H Q I ⟨G,L,ρ,M,q,x,r,n,h,hx,hQ⟩=>wpAny_pure ⟨H,I,hQ true H ⟨G,L,M,.refl _ _ _,r,h⟩⟩⟩
theorem D8{X:Cx}{c:Expr}{t:DT}(h:JT X (λ_=>E0) c t):X8 X [c] t:=⟨.inr ⟨c,rfl⟩,h⟩
def NM(b:Bool)(g:Dt->En->(En->Prop)->Prop)(tc:DT)(te:DE)(cs:En)(q:DQ):List Dt->(Ms->Prop)->Ms->Prop:=λzs ok M1=>zs.length<=sizeLine/\iR g tc te cs ok zs [] M1 (Ue b q)
section
variable{X:Cx}{R:St->XK}{elt iter tg:Expr}{cs:List Expr}{xs:List Str}{scope:Scope}{pos:Pos}{gg:TG}{g:Dt->En->(En->Prop)->Prop}{ti:DK}{tc:DT}{te:DE}{ys:List Str}{ak:List Nat}(b:Bool)(S:aF X scope xs ys ak)(hi:JK X R tg iter ti)(hg:∀C s H fp,PG (Cx.comp X (xs++ys) scope C s H fp) tg gg)(gd:GD X.K gg g)(hk:vk xs.length gg)(ht:∀C s H fp,X8 (Cx.comp X (xs++ys) scope C s H fp) cs tc)(he:∀C s H fp,JE (Cx.comp X (xs++ys) scope C s H fp) (λ_=>E0) elt te)(hc:X.calm=true)(hs:∀x,foldedSetIterable iter X.env x=pure x)
include S hi hg gd hk ht he hc hs
theorem Tf{t:DE}(e:∀ρ M q x,t ρ M q x->ti ρ M (NM b g tc te (List.replicate xs.length none++pV ak ρ) q) x):JE X R (.ListComp elt [⟨tg,iter,cs,0⟩] scope pos) t:=
 .of (IY (tc:=Eg X.K (λ_=>E0) tc) (te:=yr X.K (λ_=>E0) te) S hc hi hg hk ht he hs) λσ H G L ρ M q x rl n h hx=>⟨G,L,ρ,M,_,x,rl,n,e _ _ _ _ h,hx,λJ H1 ⟨xs,ok,G1,L1,M1,e1,r1,y,hz,h1⟩ D hD=>z5 gd r1 (n.mono e1) y hD hz h1 λG2 L2 M2 H2 ds vs e2 r2 g2 l2 h2 n2 k=>Fin.back e1 (Dd e2 r2 hD g2 l2 h2 n2 k)⟩
theorem Z'{i:Nat}{y:Str}{py zi:Pos}(hN:X.N.Nodup)(R9:X.N[i]? =some y)(hy:Loc X.env.scope y)(SW:swapsWith (.ListComp elt [⟨tg,iter,cs,0⟩] scope pos) (some (.Name y py)) zi.line X.env=pure true)(hf:X.fn y=true\/X.env.scope.names.lookup y=some .local){t:DE}(e:∀ρ M q x,t ρ M q x->ti ρ M (NM b g tc te (List.replicate xs.length none++pV ak ρ) q) x):
  JS X R (.Assign [.Name y py] (.ListComp elt [⟨tg,iter,cs,0⟩] scope pos) zi) (KY i t):= .of (zm (tc:=Eg X.K (λ_=>E0) tc) (te:=yr X.K (λ_=>E0) te) hN R9 hy S hc hi hg hk ht he SW hs hf) λσ H G L ρ M Dn rl n h hx=>by
 refine ⟨G,L,ρ,M,_,_,rl,n,e _ _ _ _ h,hx,λJ H1 ⟨xs,ok,G1,L1,M1,e1,r1,y,hz,h1⟩ D hD=>z5 gd r1 (n.mono e1) y hD hz h1 λG2 L2 M2 H2 ds vs e2 r2 g2 l2 h2 n2 k=>?_⟩;obtain ⟨d,G3,L3,M3,e3,r3,n3,h3⟩:=Dd (q:=λd M=>Dn.nx (ρ.set i (some d)) M) e2 r2 hD g2 l2 h2 n2 k;exact ⟨_,G3,L3,M3,e1.trans e3,r3,((n.mono e1).mono e3).set i n3,h3⟩
end
def zB(te:DE)(cs:En):List Dt->List Dt->Ms->(List Dt->Ms->Prop)->Prop
 |[],Ι,M,k=>k Ι M
 |x::xs,Ι,M,k=>te (some x::cs) M (λd M1=>zB te cs xs (Ι++[d]) M1 k) k8
def Jo(ti:DA)(te:DE)(ak:List Nat):DE:=λρ M q x=>ti ρ M (λxs M1=>xs.length<=sizeLine/\zB te (pV ak ρ) xs [] M1 (λys M2=>q (.lst ys) M2)) x
theorem C9{te:DE}{cs:En}:∀xs,zB te cs xs=iR (gN 0) sP te (none::cs) (λ_=>True) xs
 |[]=>funext λΙ=>funext λM=>funext λk=>(true_and _).symm
 |x::xs=>funext λΙ=>funext λM=>funext λk=>by show te (some x::cs) M (λd M1=>zB te cs xs (Ι++[d]) M1 k) k8=(True/\te (some x::cs) M (λd M1=>iR (gN 0) sP te (none::cs) (λ_=>True) xs (Ι++[d]) M1 k) k8);rw [C9 xs,true_and]
section
variable{X:Cx}{R:St->XK}{elt iter:Expr}{x:Str}{px:Pos}{scope:Scope}{pos:Pos}{ti:DA}{te:DE}{ys:List Str}{ak:List Nat}
theorem Ka(S:aF X scope [x] ys ak)(hi:JI X R (.Name x px) iter ti)(he:∀C s H fp,JE (Cx.comp X (x::ys) scope C s H fp) (λ_=>E0) elt te)(hc:X.calm=true:=by rfl)(hs:∀x,foldedSetIterable iter X.env x=pure x:=by intro _;rfl):JE X R (.ListComp elt [⟨.Name x px,iter,[],0⟩] scope pos) (Jo ti te ak):=Tf false S (NG hi) (iI S (i:=0) rfl) aS (jr (Nat.zero_lt_succ 0)) (λ_ _ _ _=>pZ) he hc hs λρ M q x h=>by unfold Jo at h;simp only [C9] at h;exact h
end
theorem fin_same{K:PySem.W.Frag}{G0:Hp}{L0:List Addr}{H0 G:Hp}{L:List Addr}{M:Ms}{H:Hp}{d:Dt}{v:V}{q:DQ}(e:Ex G0 L0 H0 G L H)(r:Rl K G L M H)(n:Den K G L d v)(h:q d M):Fin K G0 L0 H0 q v H:=⟨d,G,L,M,e,r,n,h⟩
theorem bA{K:PySem.W.Frag}{G0:Hp}{L0:List Addr}{H0 G:Hp}{L:List Addr}{M:Ms}{H:Hp}{d:Dt}{v:V}{q:DQ}(e:Ex G0 L0 H0 G L H)(r:Rl K G L M H)(h:q d M)(n:Den K G L d v:=by rfl):Fin K G0 L0 H0 q v H:=⟨d,G,L,M,e,r,n,h⟩
def yi:Dt->Dt->Ms->DQ->Prop
 |.int i,.int j,M,q=>q (.int (i+j)) M
 |.str a,.str b,M,q=>a.length+b.length<=sizeLine/\q (.str (a++b)) M
 |.lst a,.lst b,M,q=>a.length+b.length<=sizeLine/\q (.lst (a++b)) M
 |.tup a,.tup b,M,q=>(a≠[]/\a.length+b.length<=sizeLine)/\q (.tup (a++b)) M
 |_,_,_,_=>False
def A_:Dt->Dt->Ms->DQ->Prop
 |.int i,.int j,M,q=>q (.int (i-j)) M
 |_,_,_,_=>False
def Hq:Dt->Dt->Ms->DQ->Prop
 |.int i,.int j,M,q=>(iw i/\iw j)/\q (.int (i*j)) M
 |.lst a,.int k,M,q=>(-(2^63)<=k/\k<2^63/\a.length*k.toNat<=sizeLine)/\q (.lst (List.replicate k.toNat a).flatten) M
 |_,_,_,_=>False
def PJ:Dt->Dt->Ms->DQ->Prop
 |.int i,.int j,M,q=>(0<j/\iw j)/\q (.int (i/j)) M
 |_,_,_,_=>False
def DW:Dt->Dt->Ms->DQ->Prop
 |.int i,.int j,M,q=>(j≠0/\iw j)/\q (.int (i.fdiv j)) M
 |_,_,_,_=>False
def KN:Dt->Dt->Ms->DQ->Prop
 |.int i,.int j,M,q=>0<j/\q (.int (i%j)) M
 |_,_,_,_=>False
def OM:Dt->Dt->Ms->DQ->Prop
 |.int i,.int j,M,q=>Aq i j/\q (.int (i^j.toNat)) M
 |_,_,_,_=>False
def Pr:Dt->Ms->DQ->Prop
 |.int i,M,q=>q (.int (-i)) M
 |_,_,_=>False
section
variable{K:PySem.W.Frag}
theorem V0:n9 K (λx y H Q=>(∃i j,x=V.int i/\y= .int j/\Q (.int (i+j)) H)\/(∃i j,x=V.str i/\y= .str j/\i.length+j.length<=sizeLine/\Q (.str (i++j)) H)\/Qp x y H Q\/NJ K x y H Q) yi:=by
 intro G0 L0 H0 G L M H v1 v2 d1 d2 q e r n1 n2 h;unfold yi at h;split at h
 ·rename_i i j;exact .inl ⟨i,j,n1,n2,bA e r h⟩
 ·rename_i a b;exact .inr (.inl ⟨a,b,n1,n2,h.1,bA e r h.2⟩)
 ·rename_i a b;obtain ⟨p1,w1,rfl,e1,m1⟩:=n1;obtain ⟨p2,w2,rfl,e2,m2⟩:=n2;refine .inr (.inr (.inl ⟨p1,p2,w1,w2,rfl,rfl,r.sub _ _ e1,r.sub _ _ e2,by rw [<-m1.length,<-m2.length];exact h.1,λp hp=>?_⟩));exact kS e r hp (qd r hp (m1.app m2)) h.2
 ·rename_i a b;obtain ⟨p1,w1,rfl,e1,m1⟩:=n1;obtain ⟨p2,w2,rfl,e2,m2⟩:=n2;have ne:w1≠[]:=λz=>h.1.1 (by have:=m1.length;rw [z] at this;exact List.eq_nil_of_length_eq_zero this);refine .inr (.inr (.inr ⟨p1,p2,w1,w2,rfl,rfl,.inl (.inl (r.sub _ _ e1)),.inl (.inl (r.sub _ _ e2)),ne,by rw [<-m1.length,<-m2.length];exact h.1.2,λz=>?_,λ_ p hp=>?_⟩))
  ·have hb:b=[]:=by have:=m2.length;rw [z] at this;exact List.eq_nil_of_length_eq_zero this
   subst hb;rw [aaV] at h;exact fin_same (d:= .tup a) e r ⟨p1,w1,rfl,e1,m1⟩ h.2
  ·exact kS e r hp (qj r hp (m1.app m2)) h.2
 ·exact h.elim
theorem Yw:n9 K (Fz λi j=> .int (i-j)) A_:=by
 intro G0 L0 H0 G L M H v1 v2 d1 d2 q e r n1 n2 h;unfold A_ at h;split at h
 ·exact ⟨_,_,n1,n2,bA e r h⟩
 ·exact h.elim
theorem Vv:n9 K (λx y H Q=>(rI (λi j=>iw i/\iw j) λi j=> .int (i*j)) x y H Q\/OI x y H Q) Hq:=by
 intro G0 L0 H0 G L M H v1 v2 d1 d2 q e r n1 n2 h;unfold Hq at h;split at h
 ·exact .inl ⟨_,_,n1,n2,h.1,bA e r h.2⟩
 ·rename_i a k;obtain ⟨p1,w1,rfl,e1,m1⟩:=n1;refine .inr ⟨p1,k,w1,rfl,n2,r.sub _ _ e1,h.1.1,h.1.2.1,by rw [<-m1.length];exact h.1.2.2,λp hp=>?_⟩;exact kS e r hp (qd r hp (.of (vE m1.pair k.toNat))) h.2
 ·exact h.elim
theorem Xq:n9 K (rI (λ_ j=>j≠0/\iw j) λi j=> .int (i.fdiv j)) PJ:=by
 intro G0 L0 H0 G L M H v1 v2 d1 d2 q e r n1 n2 h;unfold PJ at h;split at h
 ·rename_i i j;have h0:=h.1.1;refine ⟨_,_,n1,n2,⟨by omega,h.1.2⟩,fin_same (d:= .int (i.fdiv j)) e r rfl ?_⟩;rw [abP i (aai h0)];exact h.2
 ·exact h.elim
theorem Ud:n9 K (rI (λ_ j=>j≠0/\iw j) λi j=> .int (i.fdiv j)) DW:=by
 intro G0 L0 H0 G L M H v1 v2 d1 d2 q e r n1 n2 h;unfold DW at h;split at h
 ·exact ⟨_,_,n1,n2,h.1,bA e r h.2⟩
 ·exact h.elim
theorem Ys:n9 K (rI (λ_ j=>0<j) λi j=> .int (i%j)) KN:=by
 intro G0 L0 H0 G L M H v1 v2 d1 d2 q e r n1 n2 h;unfold KN at h;split at h
 ·exact ⟨_,_,n1,n2,h.1,bA e r h.2⟩
 ·exact h.elim
theorem XW:n9 K (rI Aq λi j=> .int (i^j.toNat)) OM:=by
 intro G0 L0 H0 G L M H v1 v2 d1 d2 q e r n1 n2 h;unfold OM at h;split at h
 ·exact ⟨_,_,n1,n2,h.1,bA e r h.2⟩
 ·exact h.elim
theorem Yc:Vl K (rU λi=> .int (-i)) Pr:=by
 intro G0 L0 H0 G L M H v1 d1 q e r n1 h;unfold Pr at h;split at h
 ·exact ⟨_,n1,bA e r h⟩
 ·exact h.elim
end
section
variable{X:Cx}{R:St->XK}{a b c:Expr}{ta tb:DE}{pos:Pos}
theorem cG(ja:JE X R a ta)(jb:JE X R b tb):JE X R (.BinOp a .Add b pos) (kX yi ta tb):=xx (Qq.or (Cw.or (JL.or La))) V0 ja jb
theorem yx(ja:JE X R a ta)(jb:JE X R b tb):JE X R (.BinOp a .Sub b pos) (kX A_ ta tb):=xx Ph Yw ja jb
theorem aL(ja:JE X R a ta)(jb:JE X R b tb):JE X R (.BinOp a .Mult b pos) (kX Hq ta tb):=xx (KL.or Hw) Vv ja jb
theorem iG(ja:JE X R a ta)(jb:JE X R b tb):JE X R (.BinOp a .FloorDiv b pos) (kX PJ ta tb):=xx yE Xq ja jb
theorem Bi(ja:JE X R a ta)(jb:JE X R b tb):JE X R (.BinOp a .FloorDiv b pos) (kX DW ta tb):=xx yE Ud ja jb
theorem bL(ja:JE X R a ta)(jb:JE X R b tb):JE X R (.BinOp a .Mod b pos) (kX KN ta tb):=xx OC Ys ja jb
theorem iQ(ja:JE X R a ta)(jb:JE X R b tb):JE X R (.BinOp a .Pow b pos) (kX OM ta tb):=xx Ql XW ja jb
theorem TN(ja:JE X R a ta):JE X R (.UnaryOp .USub a pos) (Uu Pr ta):=Vy Qn Yc ja
end
def UE:Dt->Dt->Ms->DQ->Prop
 |.int i,.int j,M,q=>q (.bl (decide (i<j))) M
 |_,_,_,_=>False
def VY:Dt->Dt->Ms->DQ->Prop
 |.int i,.int j,M,q=>q (.bl (decide (i<=j))) M
 |_,_,_,_=>False
def WQ:Dt->Dt->Ms->DQ->Prop
 |.int i,.int j,M,q=>q (.bl (decide (j<i))) M
 |_,_,_,_=>False
def Yv:Dt->Dt->Ms->DQ->Prop
 |.int i,.int j,M,q=>q (.bl (decide (j<=i))) M
 |_,_,_,_=>False
def ux:Dt->Option V
 |.bq=>some .bq
 |.bl b=>some (.bl b)
 |.int i=>some (.int i)
 |.str x=>some (.str x)
 |_=>none
def gK:List Dt->Option (List V)
 |[]=>some []
 |d::ds=>match ux d,gK ds with
  |some v,some vs=>some (v::vs)
  |_,_=>none
section
variable{K:PySem.W.Frag}{G:Hp}{L:List Addr}
theorem j6{d:Dt}{v u:V}(h:ux d=some u)(n:Den K G L d v):v=u/\eC u=true:=by cases d <;> first|(cases h;exact ⟨n,rfl⟩)|cases h
theorem e7:∀{ds:List Dt}{vs us:List V},gK ds=some us->Χ K G L ds vs->vs=us/\us.all eC=true
 |[],vs,us,h,n=>by cases h;exact ⟨n,rfl⟩
 |d::ds,_,us,h,⟨v,r,e,n1,n2⟩=>by
  subst e;unfold gK at h;split at h
  ·rename_i u1 u2 h1 h2;cases h;obtain ⟨a1,a2⟩:=j6 h1 n1;obtain ⟨b1,b2⟩:=e7 h2 n2;subst a1 b1;exact ⟨rfl,by rw [abH,a2,b2];rfl⟩
  ·cases h
end
def Ci:Dt->Dt->Ms->DQ->Prop
 |.int i,.int j,M,q=>q (.bl (decide (i=j))) M
 |.str i,.str j,M,q=>q (.bl (decide (i=j))) M
 |.bl i,.bl j,M,q=>q (.bl (decide (i=j))) M
 |.tup a,.tup b,M,q=>match gK a,gK b with
  |some us,some vs=>q (.bl (mH us vs)) M
  |_,_=>False
 |_,_,_,_=>False
def Lr:Dt->Dt->Ms->DQ->Prop
 |.int i,.int j,M,q=>q (.bl (!decide (i=j))) M
 |.str i,.str j,M,q=>q (.bl (!decide (i=j))) M
 |.bl i,.bl j,M,q=>q (.bl (!decide (i=j))) M
 |.tup a,.tup b,M,q=>match gK a,gK b with
  |some us,some vs=>q (.bl (!mH us vs)) M
  |_,_=>False
 |_,_,_,_=>False
def OQ:Dt->Dt->Ms->DQ->Prop
 |.bq,.bq,M,q=>q (.bl true) M
 |.bl _,.bq,M,q=>q (.bl false) M
 |.int _,.bq,M,q=>q (.bl false) M
 |.str _,.bq,M,q=>q (.bl false) M
 |.tup _,.bq,M,q=>q (.bl false) M
 |.lst _,.bq,M,q=>q (.bl false) M
 |_,_,_,_=>False
section
variable{K:PySem.W.Frag}
theorem ZN:n9 K (Fz λi j=> .bl (decide (i<j))) UE:=by
 intro G0 L0 H0 G L M H v1 v2 d1 d2 q e r n1 n2 h;unfold UE at h;split at h
 ·exact ⟨_,_,n1,n2,bA e r h⟩
 ·exact h.elim
theorem leD:n9 K (Fz λi j=> .bl (decide (i<=j))) VY:=by
 intro G0 L0 H0 G L M H v1 v2 d1 d2 q e r n1 n2 h;unfold VY at h;split at h
 ·exact ⟨_,_,n1,n2,bA e r h⟩
 ·exact h.elim
theorem gtD:n9 K (Fz λi j=> .bl (decide (j<i))) WQ:=by
 intro G0 L0 H0 G L M H v1 v2 d1 d2 q e r n1 n2 h;unfold WQ at h;split at h
 ·exact ⟨_,_,n1,n2,bA e r h⟩
 ·exact h.elim
theorem geD:n9 K (Fz λi j=> .bl (decide (j<=i))) Yv:=by
 intro G0 L0 H0 G L M H v1 v2 d1 d2 q e r n1 n2 h;unfold Yv at h;split at h
 ·exact ⟨_,_,n1,n2,bA e r h⟩
 ·exact h.elim
theorem kH{p q:Prop} [Decidable p] [Decidable q](h:p↔q):decide p=decide q:=decide_eq_decide.mpr h
theorem Rv:n9 K (λx y H Q=>Y_ x y H Q\/Tp K x y H Q) Ci:=by
 intro G0 L0 H0 G L M H v1 v2 d1 d2 q e r n1 n2 h;unfold Ci at h;split at h
 ·rename_i i j;cases n1;cases n2;exact .inl ⟨rfl,fin_same (d:= .bl _) e r (by show V.bl _=V.bl _;rw [kH (p:=V.int i=V.int j) (q:=i=j) ⟨λz=>V.int.inj z,λz=>by rw [z]⟩]) h⟩
 ·rename_i i j;cases n1;cases n2;exact .inl ⟨rfl,fin_same (d:= .bl _) e r (by show V.bl _=V.bl _;rw [kH (p:=V.str i=V.str j) (q:=i=j) ⟨λz=>V.str.inj z,λz=>by rw [z]⟩]) h⟩
 ·rename_i i j;cases n1;cases n2;exact .inl ⟨rfl,fin_same (d:= .bl _) e r (by show V.bl _=V.bl _;rw [kH (p:=V.bl i=V.bl j) (q:=i=j) ⟨λz=>V.bl.inj z,λz=>by rw [z]⟩]) h⟩
 ·rename_i a b;obtain ⟨p1,w1,rfl,e1,m1⟩:=n1;obtain ⟨p2,w2,rfl,e2,m2⟩:=n2;split at h
  ·rename_i us vs h1 h2;obtain ⟨rfl,a2⟩:=e7 h1 m1;obtain ⟨rfl,b2⟩:=e7 h2 m2;exact .inr ⟨p1,p2,_,_,rfl,rfl,.inl (.inl (r.sub _ _ e1)),.inl (.inl (r.sub _ _ e2)),a2,b2,bA e r h⟩
  ·exact h.elim
 ·exact h.elim
theorem Vb:n9 K (λx y H Q=>YY x y H Q\/R1 K x y H Q) Lr:=by
 intro G0 L0 H0 G L M H v1 v2 d1 d2 q e r n1 n2 h;unfold Lr at h;split at h
 ·rename_i i j;cases n1;cases n2;exact .inl ⟨rfl,fin_same (d:= .bl _) e r (by show V.bl _=V.bl _;rw [kH (p:=V.int i=V.int j) (q:=i=j) ⟨λz=>V.int.inj z,λz=>by rw [z]⟩]) h⟩
 ·rename_i i j;cases n1;cases n2;exact .inl ⟨rfl,fin_same (d:= .bl _) e r (by show V.bl _=V.bl _;rw [kH (p:=V.str i=V.str j) (q:=i=j) ⟨λz=>V.str.inj z,λz=>by rw [z]⟩]) h⟩
 ·rename_i i j;cases n1;cases n2;exact .inl ⟨rfl,fin_same (d:= .bl _) e r (by show V.bl _=V.bl _;rw [kH (p:=V.bl i=V.bl j) (q:=i=j) ⟨λz=>V.bl.inj z,λz=>by rw [z]⟩]) h⟩
 ·rename_i a b;obtain ⟨p1,w1,rfl,e1,m1⟩:=n1;obtain ⟨p2,w2,rfl,e2,m2⟩:=n2;split at h
  ·rename_i us vs h1 h2;obtain ⟨rfl,a2⟩:=e7 h1 m1;obtain ⟨rfl,b2⟩:=e7 h2 m2;exact .inr ⟨p1,p2,_,_,rfl,rfl,.inl (.inl (r.sub _ _ e1)),.inl (.inl (r.sub _ _ e2)),a2,b2,bA e r h⟩
  ·exact h.elim
 ·exact h.elim
theorem VD:n9 K (λx y H Q=>y= .bq/\Q (.bl (decide (x= .bq))) H) OQ:=by
 intro G0 L0 H0 G L M H v1 v2 d1 d2 q e r n1 n2 h;unfold OQ at h;split at h
 ·cases n1;exact ⟨n2,fin_same (d:= .bl true) e r (by show V.bl _=V.bl _;rw [decide_eq_true rfl]) h⟩
 ·cases n1;exact ⟨n2,fin_same (d:= .bl false) e r (by show V.bl _=V.bl _;rw [decide_eq_false (λz=>nomatch z)]) h⟩
 ·cases n1;exact ⟨n2,fin_same (d:= .bl false) e r (by show V.bl _=V.bl _;rw [decide_eq_false (λz=>nomatch z)]) h⟩
 ·cases n1;exact ⟨n2,fin_same (d:= .bl false) e r (by show V.bl _=V.bl _;rw [decide_eq_false (λz=>nomatch z)]) h⟩
 ·obtain ⟨p1,w1,rfl,_⟩:=n1;exact ⟨n2,fin_same (d:= .bl false) e r (by show V.bl _=V.bl _;rw [decide_eq_false (λz=>nomatch z)]) h⟩
 ·obtain ⟨p1,w1,rfl,_⟩:=n1;exact ⟨n2,fin_same (d:= .bl false) e r (by show V.bl _=V.bl _;rw [decide_eq_false (λz=>nomatch z)]) h⟩
 ·exact h.elim
end
section
variable{X:Cx}{R:St->XK}{a b c:Expr}{ta tb:DE}{pos:Pos}
theorem Mx(ja:JE X R a ta)(jb:JE X R b tb):JE X R (.Compare a [.Lt] [b] pos) (kX UE ta tb):=y6 Nd ZN ja jb (jn _)
theorem zt(ja:JE X R a ta)(jb:JE X R b tb):JE X R (.Compare a [.LtE] [b] pos) (kX VY ta tb):=y6 RU leD ja jb (jn _)
theorem VF(ja:JE X R a ta)(jb:JE X R b tb):JE X R (.Compare a [.GtE] [b] pos) (kX Yv ta tb):=y6 Sy geD ja jb (jn _)
theorem KD{k:Nat}(hr:bM k X.A)(ja:JE X R a ta)(jb:JE X R b tb):JE X R (.Compare a [.Eq] [b] pos) (kX Ci ta tb):=y6 (Nj.or (Ib hr.Cp)) Rv ja jb (jn _)
theorem sj(ja:JE X R a ta)(jb:JE X R b tb):JT X R (.Compare a [.Lt] [b] pos) (om (kX UE ta tb)):=jk Nd ZN ja jb (jn _)
theorem CJ(ja:JE X R a ta)(jb:JE X R b tb):JT X R (.Compare a [.Gt] [b] pos) (om (kX WQ ta tb)):=jk Ub gtD ja jb (jn _)
theorem d9{k:Nat}(hr:bM k X.A)(ja:JE X R a ta)(jb:JE X R b tb):JT X R (.Compare a [.Eq] [b] pos) (om (kX Ci ta tb)):=jk (Nj.or (Ib hr.Cp)) Rv ja jb (jn _)
theorem qt{k:Nat}(hr:bM k X.A)(ja:JE X R a ta)(jb:JE X R b tb):JT X R (.Compare a [.NotEq] [b] pos) (om (kX Lr ta tb)):=jk (RW.or (Of hr.Cp)) Vb ja jb (jn _)
theorem JC(ja:JE X R a ta)(jb:JE X R b tb):JT X R (.Compare a [.Is] [b] pos) (om (kX OQ ta tb)):=jk Qb VD ja jb (jn _)
end
def jU(M:Ms):Dt->Option (List Dt)
 |.lst xs=>some xs
 |.tup xs=>some xs
 |.iY ns=>some (ns.map .int)
 |.kt xs=>some xs
 |.loc k=>match M[k]? with
  |some (.lst xs)=>some xs
  |_=>none
 |_=>none
theorem nB{K:PySem.W.Frag}{G:Hp}{L:List Addr}{M:Ms}{H:Hp}{d:Dt}{v:V}{xs:List Dt}(r:Rl K G L M H)(n:Den K G L d v)(h:jU M d=some xs):∃a vs,v= .ref a/\(gy K H a vs\/nv K H a vs)/\Χ K G L xs vs:=by
 cases d with
 |lst ds=>cases h;obtain ⟨a,vs,rfl,e,m⟩:=n;exact ⟨a,vs,rfl,.inl (.of (r.sub _ _ e)),m⟩
 |tup ds=>cases h;obtain ⟨a,vs,rfl,e,m⟩:=n;exact ⟨a,vs,rfl,.inr (.of (r.sub _ _ e)),m⟩
 |kt ds=>cases h;obtain ⟨a,vs,rfl,e,m⟩:=n;exact ⟨a,vs,rfl,.inr (r.sub.SU e),m⟩
 |iY ns=>cases h;obtain ⟨a,rfl,e⟩:=n;exact ⟨a,_,rfl,.inl (r.sub.seq e),iP⟩
 |loc k=>
  obtain ⟨a,rfl,e⟩:=n;have h:(match M[k]? with|some (.lst xs)=>some xs|_=>none)=some xs:=h;split at h
  ·rename_i ys hm;cases h;obtain ⟨_,vs,e1,m1⟩:=r.fN k a _ e hm;exact ⟨a,vs,rfl,.inl (.of e1),m1⟩
  ·cases h
 |_=>cases h
theorem Lp{K:PySem.W.Frag}{G:Hp}{L:List Addr}{ds:List Dt}{vs:List V}{i:Int}{d:Dt}(n:Χ K G L ds vs)(h:nE ds i=some d):∃v,nE vs i=some v/\Den K G L d v:=by
 unfold nE at h⊢;rw [<-n.length];cases q:Jp ds.length i with
 |none=>rw [q] at h;cases h
 |some j=>
  rw [q] at h;obtain ⟨v,e,m⟩:=n.get h;exact ⟨v,e,m⟩
def dF:Dt->Dt->Ms->DQ->Prop
 |.str z,.int i,M,q=>z.length<=sizeLine/\match nE z.cps.toList i with
  |some c=>q (.str ⟨#[c]⟩) M
  |none=>False
 |d,.int i,M,q=>match jU M d with
  |some xs=>(match nE xs i with
   |some y=>q y M
   |none=>False)
  |none=>False
 |_,_,_,_=>False
def eZ:List Dt->Ms->DQ->Prop
 |[.str z],M,q=>z.length<=sizeLine/\q (.int z.length) M
 |[d],M,q=>match jU M d with
  |some xs=>q (.int xs.length) M
  |none=>False
 |_,_,_=>False
section
variable{K:PySem.W.Frag}
theorem ixD:n9 K (ZE K) dF:=by
 intro G0 L0 H0 G L M H v1 v2 d1 d2 q e r n1 n2 h;unfold dF at h;split at h
 ·rename_i z i;split at h
  ·rename_i c hc;exact .inr (.inr ⟨z,i,c,n1,n2,h.1,hc,bA e r h.2⟩)
  ·exact h.2.elim
 ·rename_i d i _;split at h
  ·rename_i xs hx;split at h
   ·rename_i y hy;obtain ⟨a,vs,rfl,hs,m⟩:=nB r n1 hx;obtain ⟨v,e1,m1⟩:=Lp m hy;rcases hs with hs|hs
    ·exact .inl ⟨a,vs,i,v,rfl,n2,hs,e1,fin_same e r m1 h⟩
    ·exact .inr (.inl ⟨a,vs,i,v,rfl,n2,hs,e1,fin_same e r m1 h⟩)
   ·exact h.elim
  ·exact h.elim
 ·exact h.elim
theorem Wu:BD K (λxs H Q=>(∃z,xs=[V.str z]/\z.length<=sizeLine/\Q (.int z.length) H)\/(∃p ys,xs=[V.ref p]/\(gy K H p ys\/nv K H p ys)/\Q (.int ys.length) H)) eZ:=by
 intro G0 L0 H0 G L M H vs ds q e r n h;unfold eZ at h;split at h
 ·rename_i z;obtain ⟨v,rfl,n1⟩:=br n;cases n1;exact .inl ⟨z,rfl,h.1,bA e r h.2⟩
 ·rename_i d _;obtain ⟨v,rfl,n1⟩:=br n;split at h
  ·rename_i xs hx;obtain ⟨a,ws,rfl,hs,m⟩:=nB r n1 hx;exact .inr ⟨a,ws,rfl,hs,fin_same (d:= .int xs.length) e r (by show V.int _=V.int _;rw [m.length]) h⟩
  ·exact h.elim
 ·exact h.elim
end
section
variable{X:Cx}{R:St->XK}{a b c:Expr}{ta tb:DE}{pos:Pos}
theorem Μ(ja:JE X R a ta)(jb:JE X R b tb)(hs:vI b:=by exact λ_ _=>rfl):JE X R (.Subscript a b pos) (kX dF ta tb):=Sk Qm ixD ja jb hs
variable{x:Str}{p:Pos}{e:Expr}{es:List Expr}{t:DA}{id T:String}{r:List V->Hp->VK->Prop}{f:List Dt->Ms->DQ->Prop}
theorem fU(hc:c8 X (.builtin id) r)(cd:BD X.K r f)(hm:X.mg x=none)(hv:bootBuiltins x=some (.builtin id))(ha:JA X R (e::es) t)(hg:Gl X x:=by rfl)(hn:x≠"__name__":=by decide)(tS:(x==("__debug__":Str))=false:=by decide)
  (he:starEach (e::es) X.env=(false,eval e X.env)::starEach es X.env:=by rfl) (fJ:(backTo pos (starEach es X.env)).any (·.1)=false:=by rfl):JE X R (.Call (.Name x p) (e::es) [] pos) (Av f t):=
 .of (HK hc hg hm hv ha hn tS he fJ) λσ H G L ρ M q x r n h hx=>NQ cd r n h hx
theorem sM(hc:c8 X (.type T) r)(cd:BD X.K r f)(hm:X.mg x=none)(hv:bootBuiltins x=some (.type T))(ha:JA X R (e::es) t)(hg:Gl X x:=by rfl)(hn:x≠"__name__":=by decide)(tS:(x==("__debug__":Str))=false:=by decide)
  (he:starEach (e::es) X.env=(false,eval e X.env)::starEach es X.env:=by rfl) (fJ:(backTo pos (starEach es X.env)).any (·.1)=false:=by rfl):JE X R (.Call (.Name x p) (e::es) [] pos) (Av f t):=
 .of (EF hc hg hm hv ha hn tS he fJ) λσ H G L ρ M q x r n h hx=>NQ cd r n h hx
theorem bU(hm:X.mg "len"=none)(ha:JA X R [e] t)(he:starEach [e] X.env=(false,eval e X.env)::starEach [] X.env:=by rfl)(fJ:(backTo pos (starEach [] X.env)).any (·.1)=false:=by rfl)(hg:Gl X "len":=by rfl):JE X R (.Call (.Name "len" p) [e] [] pos) (Av eZ t):=
 fU (xP.or xi) Wu hm PySem.boot_len ha hg (by decide) (by decide) he fJ
end
section
variable{X:Cx}
theorem xN:c8 X (.type "int") (λxs H Q=>∃x n,xs=[.str x]/\PySem.intText? x=some n/\x.length<=640/\Q (.int n) H):=by intro ζ s σ H xs us Q I rs h;obtain ⟨x,n,rfl,hn,hl,q⟩:=h;obtain ⟨w,rfl,u,rfl⟩:=kF rs;exact PySem.W.KIN.call_text hn hl ⟨.int n,H,I.tok _,⟨_,rfl⟩,q⟩
end
def zZ:List Dt->Ms->DQ->Prop
 |[.int i],M,q=>q (.int i) M
 |[.bl b],M,q=>q (.int (if b then 1 else 0)) M
 |[.str x],M,q=>x.length<=640/\match PySem.intText? x with
  |some n=>q (.int n) M
  |none=>False
 |_,_,_=>False
def ON:List Dt->Ms->DQ->Prop
 |[.int i],M,q=>q (.int (if i<0 then -i else i)) M
 |_,_,_=>False
def L7:List Dt->Ms->DQ->Prop
 |[.int i,.int j],M,q=>q (.int (if j > i then j else i)) M
 |_,_,_=>False
def Ei:List Dt->Ms->DQ->Prop
 |[.int i,.int j],M,q=>q (.int (if j<i then j else i)) M
 |_,_,_=>False
def PH:List Dt->Ms->DQ->Prop
 |[d],M,q=>∃bs:List Bool,jU M d=some (bs.map Dt.bl)/\(∀k,d≠ .kt k)/\(∀k,d≠ .tup k)/\q (.bl (bs.any id)) M
 |_,_,_=>False
def NC:Dt->Option Value
 |.bq=>some (.type "NoneType")
 |.bl _=>some (.type "bool")
 |.int _=>some (.type "int")
 |.str _=>some (.type "str")
 |.lst _=>some (.type "list")
 |.tup _=>some (.type "tuple")
 |_=>none
def R8:Dt->Option Value
 |.ty T=>some (.type T)
 |.ref C=>some (.ref C)
 |_=>none
section
variable{K:PySem.W.Frag}
theorem uZ{G:Hp}{L:List Addr}:∀{l:List Str},Χ K G L (l.map Dt.str) (l.map V.str)
 |[]=>rfl
 |_::_=>⟨_,_,rfl,rfl,uZ⟩
theorem nj{G:Hp}{L:List Addr}:∀{bs:List Bool}{vs:List V},Χ K G L (bs.map Dt.bl) vs->vs=bs.map V.bl
 |[],_,h=>h
 |b::bs,_,⟨v,r,e,h1,h2⟩=>by subst e;rw [nj h2,show v=V.bl b from h1];rfl
theorem YB:BD K (λxs H Q=>((∃i,xs=[V.int i]/\Q (.int i) H)\/∃k,xs=[V.bl k]/\Q (.int (if k then 1 else 0)) H)\/∃x n,xs=[V.str x]/\PySem.intText? x=some n/\x.length<=640/\Q (.int n) H) zZ:=by
 intro G0 L0 H0 G L M H vs ds q e r n h;unfold zZ at h;split at h
 ·rename_i i;obtain ⟨v,rfl,n1⟩:=br n;cases n1;exact .inl (.inl ⟨i,rfl,bA e r h⟩)
 ·rename_i i;obtain ⟨v,rfl,n1⟩:=br n;cases n1;exact .inl (.inr ⟨i,rfl,bA e r h⟩)
 ·rename_i x;obtain ⟨v,rfl,n1⟩:=br n;cases n1;split at h
  ·rename_i m hm;exact .inr ⟨x,m,rfl,hm,h.1,bA e r h.2⟩
  ·exact h.2.elim
 ·exact h.elim
theorem WD:BD K (λxs H Q=>∃i,xs=[V.int i]/\Q (.int (if i<0 then -i else i)) H) ON:=by
 intro G0 L0 H0 G L M H vs ds q e r n h;unfold ON at h;split at h
 ·rename_i i;obtain ⟨v,rfl,n1⟩:=br n;cases n1;exact ⟨i,rfl,bA e r h⟩
 ·exact h.elim
theorem YC:BD K (λxs H Q=>∃i j,xs=[V.int i,.int j]/\Q (.int (if j > i then j else i)) H) L7:=by
 intro G0 L0 H0 G L M H vs ds q e r n h;unfold L7 at h;split at h
 ·rename_i i j;obtain ⟨v,u,rfl,n1,n2⟩:=fA n;cases n1;cases n2;exact ⟨i,j,rfl,bA e r h⟩
 ·exact h.elim
theorem YD:BD K (λxs H Q=>∃i j,xs=[V.int i,.int j]/\Q (.int (if j<i then j else i)) H) Ei:=by
 intro G0 L0 H0 G L M H vs ds q e r n h;unfold Ei at h;split at h
 ·rename_i i j;obtain ⟨v,u,rfl,n1,n2⟩:=fA n;cases n1;cases n2;exact ⟨i,j,rfl,bA e r h⟩
 ·exact h.elim
theorem W0:BD K (Sw K) PH:=by
 intro G0 L0 H0 G L M H vs ds q e r n h;unfold PH at h;split at h
 ·rename_i d;obtain ⟨bs,hs,nk,nt,h⟩:=h;obtain ⟨v,rfl,n1⟩:=br n;cases d with
  |lst xs=>
   cases hs;obtain ⟨a,ws,rfl,e1,m⟩:=n1;exact ⟨a,bs,rfl,by rw [<-nj m];exact .of (r.sub _ _ e1),bA e r h⟩
  |loc k=>
   obtain ⟨a,rfl,e1⟩:=n1;have hs:(match M[k]? with|some (.lst xs)=>some xs|_=>none)=some (bs.map Dt.bl):=hs;split at hs
   ·rename_i ys hm;cases hs;obtain ⟨_,ws,e2,m⟩:=r.fN k a _ e1 hm;exact ⟨a,bs,rfl,by rw [<-nj m];exact .of e2,bA e r h⟩
   ·cases hs
  |tup xs=>exact absurd rfl (nt xs)
  |kt xs=>exact absurd rfl (nk xs)
  |iY ns=>
   have e0:ns.map Dt.int=bs.map Dt.bl:=aas hs;cases ns with
   |nil=>
    cases bs with
    |nil=>obtain ⟨a,rfl,e1⟩:=n1;exact ⟨a,[],rfl,r.sub.seq e1,bA e r h⟩
    |cons _ _=>cases e0
   |cons _ _=>
    cases bs with
    |nil=>cases e0
    |cons _ _=>cases e0
  |_=>cases hs
 ·exact h.elim
theorem Ga{G:Hp}{L:List Addr}{M:Ms}{H:Hp}{d:Dt}{v:V}{t:Value}(r:Rl K G L M H)(n:Den K G L d v)(h:NC d=some t):kT K H v t:=by
 cases d with
 |bq=>cases h;cases n;exact .bq
 |bl b=>cases h;cases n;exact .bl _
 |int i=>cases h;cases n;exact .int _
 |str x=>cases h;cases n;exact .str _
 |lst xs=>cases h;obtain ⟨a,ws,rfl,e,_⟩:=n;exact .lst (r.sub _ _ e)
 |tup xs=>cases h;obtain ⟨a,ws,rfl,e,_⟩:=n;exact .tup (r.sub _ _ e)
 |_=>cases h
theorem L8{G:Hp}{L:List Addr}{d:Dt}{v:V}{t:Value}(n:Den K G L d v)(h:R8 d=some t):LA v=some t:=by
 cases d with
 |ty T=>cases n;exact h
 |ref C=>cases n;exact h
 |_=>cases h
end
section
variable{X:Cx}{R:St->XK}{o a e e1 e2:Expr}{es:List Expr}{to ta te:DE}{t:DA}{name:Str}{apos cJ pos p p2:Pos}{T id:String}
theorem uL:bootBuiltins "int"=some (.type "int"):=by decide+kernel
theorem ES:bootBuiltins "abs"=some (.builtin "abs"):=by decide+kernel
theorem E5:bootBuiltins "any"=some (.builtin "any"):=by decide+kernel
theorem Ge:bootBuiltins "max"=some (.builtin "max"):=by decide+kernel
theorem Gb:bootBuiltins "min"=some (.builtin "min"):=by decide+kernel
theorem oI:bootBuiltins "isinstance"=some (.builtin "isinstance"):=by decide+kernel
theorem Cj:bootBuiltins "bool"=some (.type "bool"):=by decide+kernel
theorem yX:bootBuiltins "tuple"=some (.type "tuple"):=by decide+kernel
theorem rL:bootBuiltins "list"=some (.type "list"):=by decide+kernel
theorem KP{x:Str}{T:String}(hm:X.mg x=none)(hv:bootBuiltins x=some (.type T))(hg:Gl X x:=by rfl)(hn:x≠"__name__":=by decide)(hd:(x==("__debug__":Str))=false:=by decide):JE X R (.Name x p) (dC (.ty T)):=OK (MF (v:= .ty T) hg hm hv rfl hn hd) λ_ _=>rfl
theorem rq{x:Str}{z:Int}(hm:∃tk,X.mg x=some (.int z tk))(hg:Gl X x:=by rfl)(hd:(x==("__debug__":Str))=false:=by decide):JE X R (.Name x p) (dC (.int z)):=let ⟨tk,hm⟩:=hm;OK (CV (v:= .int z) hg hm ⟨tk,rfl⟩ hd) λ_ _=>rfl
end
def UL(x:Str):It:=⟨λi _=>i<x.cps.size,λi H v H'=>H'=H/\∃c,x.cps[i]? =some c/\v= .str ⟨#[c]⟩,λi _=>x.cps.size<=i⟩
theorem Es{P:Program}{w:World}{K:PySem.W.Frag}{tg:Expr}(x:Str)(t:Tok)(it:Addr):Turn P w K tg (UL x) [it] it (λi h=>h.IsStrIter it "str_ascii_iterator" x t i) where
 mem:=by simp
 obj:=λi h st b hb=>by
  have e:b=it:=by simpa using hb
  subst e;obtain ⟨o,e,c,d⟩:=st;exact ⟨o,e,λv z=>by rw [d] at z;cases z⟩
 keep:=λi h h' st k=>let ⟨o,ho,r⟩:=st;⟨o,k it (by simp) o ho,r⟩
 item:=by intro X hP hw hK hc i ζ s σ H E I hf st hg;subst hP hw hK;obtain ⟨f0,f1,f2,f3,f4,f5⟩:=hf it (by simp);have hg:i<x.cps.size:=hg;refine wpAny_pyNext_ascii_item st (c:=x.cps[i]) (by simp [hg]) λh' wq sb=>?_;have I1:Inv X ζ σ H {s with heap:=h',toks:=s.toks+1}:=I.turned (λb o hb e=>(sb.2 b hb).trans e) f0 f1 f3 f4 f5;obtain ⟨o,e,c,d⟩:=id wq;exact ⟨_,rfl,vd (s:={s with heap:=h',toks:=s.toks+1}) e c d (by decide) ⟨.str ⟨#[x.cps[i]]⟩,H,I1,⟨_,rfl⟩,⟨rfl,_,by simp [hg],rfl⟩,wq,λb hb=>(hf b hb).1⟩⟩
 done:=by intro X hP hw hK hc i ζ s σ H E I hf st hg;subst hP hw hK;obtain ⟨f0,f1,f2,f3,f4,f5⟩:=hf it (by simp);have hg:x.cps.size<=i:=hg;exact wpAny_pyNext_ascii_end (I.ok.hd hc) st (by simp;omega) λh' eb=>⟨rfl,I.turned (t':=s.toks) (λb o hb e=>eb b o hb e) f0 f1 f3 f4 f5⟩
 self:=λ_ _ _ _ _ st h=>wpAny_pyIter_striter_ascii st h
theorem FQ{P:Program}{w:World}{K:PySem.W.Frag}{tg:Expr}(x:Str)(t:Tok)(it:Addr):Turn P w K tg (UL x) [it] it (λi h=>h.IsStrIter it "str_iterator" x t i) where
 mem:=by simp
 obj:=λi h st b hb=>by
  have e:b=it:=by simpa using hb
  subst e;obtain ⟨o,e,c,d⟩:=st;exact ⟨o,e,λv z=>by rw [d] at z;cases z⟩
 keep:=λi h h' st k=>let ⟨o,ho,r⟩:=st;⟨o,k it (by simp) o ho,r⟩
 item:=by intro X hP hw hK hc i ζ s σ H E I hf st hg;subst hP hw hK;obtain ⟨f0,f1,f2,f3,f4,f5⟩:=hf it (by simp);have hg:i<x.cps.size:=hg;refine wpAny_pyNext_wide_item st (c:=x.cps[i]) (by simp [hg]) λh' wq sb=>?_;have I1:Inv X ζ σ H {s with heap:=h',toks:=s.toks+1}:=I.turned (λb o hb e=>(sb.2 b hb).trans e) f0 f1 f3 f4 f5;obtain ⟨o,e,c,d⟩:=id wq;exact ⟨_,rfl,vd (s:={s with heap:=h',toks:=s.toks+1}) e c d (by decide) ⟨.str ⟨#[x.cps[i]]⟩,H,I1,⟨_,rfl⟩,⟨rfl,_,by simp [hg],rfl⟩,wq,λb hb=>(hf b hb).1⟩⟩
 done:=by intro X hP hw hK hc i ζ s σ H E I hf st hg;subst hP hw hK;obtain ⟨f0,f1,f2,f3,f4,f5⟩:=hf it (by simp);have hg:x.cps.size<=i:=hg;exact wpAny_pyNext_wide_end (I.ok.hd hc) st (by simp;omega) λh' eb=>⟨rfl,I.turned (t':=s.toks) (λb o hb e=>eb b o hb e) f0 f1 f3 f4 f5⟩
 self:=λ_ _ _ _ _ st h=>wpAny_pyIter_striter_wide st h
def wW(z:Str):List Dt:=z.cps.toList.map λc=>Dt.str ⟨#[c]⟩
theorem OO{K:PySem.W.Frag}{G:Hp}{L:List Addr}{z:Str}:Yl K (UL z) (wW z) G L where
 go :=λi G1 L1 M1 H1 d g l r e=>by
  unfold wW at e;rw [aam] at e;cases q:z.cps.toList[i]? with
  |none=>rw [q] at e;cases e
  |some c=>
   rw [q] at e;cases e;have hi:i<z.cps.size:=by have:=(aaf.mp q).1;simpa using this
   refine ⟨hi,λv' H' ⟨eH,c',e',y⟩=>?_⟩;subst eH y;have:c'=c:=by rw [<-Array.getElem?_toList,q] at e';exact (aas e').symm
   subst this;exact ⟨G1,.refl _ _ _,r,rfl⟩
 stop:=λi G1 L1 M1 H1 g l r e=>by unfold wW at e;show z.cps.size<=i;simpa using e
def RG(M:Ms):Dt->Option (List Dt)
 |.lst xs=>some xs
 |.tup xs=>some xs
 |.iY ns=>some (ns.map .int)
 |.kt xs=>some xs
 |.str z=>some (wW z)
 |_=>none
section
variable{X:Cx}{R:St->XK}{tg e:Expr}{te:DE}
theorem xD{ζ:List (Addr×Obj)}{σ:St}{H:Hp}{s:Shared}{a:Addr}{vs:List V}{Q:It->Hp->Prop}{E:Value->Shared->Prop}(I:Inv X ζ σ H s)(hq:gy X.K H a vs)(q:Q (Uy X.K a) H):wpAny (model X.prog X.w) X.A (pyIter (.ref a)) (Kq X ζ σ tg Q) E s:=by
 obtain ⟨its,rv,p,hz⟩:=I.list hq;refine wpAny_pyIter_list p.isList ?_;refine ⟨s.heap.objs.size,[s.heap.objs.size],_,_,H,rfl,I.kept (t':=s.toks) λb o e=>Heap.get?_push_of_some _ e,FA a _,⟨_,Heap.get?_push_size _ rfl,rfl,rfl⟩,λb hb=>?_,q⟩;have e:b=s.heap.objs.size:=by simpa using hb
 subst e;exact I.BB (aah _) (I.ba.fresh (aah _))
theorem Ke{ζ:List (Addr×Obj)}{σ:St}{H:Hp}{s:Shared}{a:Addr}{vs:List V}{Q:It->Hp->Prop}{E:Value->Shared->Prop}(I:Inv X ζ σ H s)(hq:nv X.K H a vs)(q:Q (Ve X.K a) H):wpAny (model X.prog X.w) X.A (pyIter (.ref a)) (Kq X ζ σ tg Q) E s:=by
 obtain ⟨its,rv,p,hz⟩:=I.tuple hq;refine wpAny_pyIter_tuple (show s.heap.IsTuple a its.toArray from p) ?_;refine ⟨s.heap.objs.size,[s.heap.objs.size],_,_,H,rfl,I.kept (t':=s.toks) λb o e=>Heap.get?_push_of_some _ e,Cu a _,⟨_,Heap.get?_push_size _ rfl,rfl,rfl⟩,λb hb=>?_,q⟩;have e:b=s.heap.objs.size:=by simpa using hb
 subst e;exact I.BB (aah _) (I.ba.fresh (aah _))
theorem OL{ζ:List (Addr×Obj)}{σ:St}{H:Hp}{s:Shared}{z:Str}{t:Tok}{Q:It->Hp->Prop}{E:Value->Shared->Prop}(I:Inv X ζ σ H s)(q:Q (UL z) H):wpAny (model X.prog X.w) X.A (pyIter (.str z t)) (Kq X ζ σ tg Q) E s:=by
 have fp:∀b∈[s.heap.objs.size],rQ X ζ H b:=λb hb=>by
  have e:b=s.heap.objs.size:=by simpa using hb
  subst e;exact I.BB (aah _) (I.ba.fresh (aah _))
 cases ha:z.cps.all (· < 128)
 ·exact wpAny_pyIter_wide ha ⟨s.heap.objs.size,[s.heap.objs.size],_,_,H,rfl,I.kept (t':=s.toks) λb o e=>Heap.get?_push_of_some _ e,FQ z t _,⟨_,Heap.get?_push_size _ rfl,rfl,rfl⟩,fp,q⟩
 ·exact wpAny_pyIter_ascii ha ⟨s.heap.objs.size,[s.heap.objs.size],_,_,H,rfl,I.kept (t':=s.toks) λb o e=>Heap.get?_push_of_some _ e,Es z t _,⟨_,Heap.get?_push_size _ rfl,rfl,rfl⟩,fp,q⟩
end
def PZ:DF:=λds _ q _=>∃ns:List Int,ds=[.iY ns]/\ns.length<=63/\∀M',q (.bl true) M'
def zO(K:PySem.W.Frag):Sp:=λvs H Q _=>∃(a:Addr) (ns:List Int),vs=[.ref a]/\gy K H a (ns.map V.int)/\ns.length<=63/\∀H',Q (.bl true) H'
theorem NW{P:Program}{w:World}{K:PySem.W.Frag}{mg:Str->Option Value}{base:Heap}{k:Nat}{f:Addr}{fd:FuncData}{x:Str}(F:aq P w K mg base (bV P w) k f fd [x] (cC K PZ)):aq P w K mg base UY k f fd [x] (zO K):=by
 have sp:∀vs H Q E,zO K vs H Q E->cC K PZ vs H Q E0:=by rintro vs H Q E ⟨a,ns,rfl,hS,hl,hQ⟩;refine ⟨H,[],[.iY ns],[],λd _=>d= .bl true,λ_ _ _=>False,⟨.refl _,rfl,List.nodup_nil,λk a m h=>by simp at h⟩,⟨_,_,rfl,⟨a,rfl,hS⟩,rfl⟩,⟨ns,rfl,hl,λ_=>rfl⟩,λv H' ⟨d,G',L',M',_,_,n,e⟩=>?_,λ_ _ _ _ _ _ _ h=>h.elim⟩;subst e;rw [show v=V.bl true from n];exact hQ H'
 refine ⟨λvs H Q E h=>F.len vs H Q E0 (sp vs H Q E h),λA outer s H args us vs Q E hr he hb hv h=>codeAny_mono (F.run A outer s H args us vs Q E0 hr he hb hv (sp vs H Q E h)) λr s' hq=>?_⟩;cases r with
 |error e=>
  obtain ⟨_,_,_,_,_,_,_,_,hE⟩:=hq;exact hE.elim
 |ok fl=>cases fl <;> exact hq
def Oi(c:DT)(tb:DS):DS:=λDn ρ M=>∃W:Nat->En->Ms->Prop,(∃m,W m ρ M)/\∀m ρ M,W m ρ M->
 c ρ M (λb M1=>(b=true->∃N:En->Ms->Prop,(∀ρ' M',N ρ' M'->∃m',m'<m/\W m' ρ' M')/\tb {Dn with nx:=N,ct:=N,bk:=Dn.nx} ρ M1)/\(b=false->Dn.nx ρ M1)) Dn.x
def VO(i j:Nat)(t:DA):DS:=λDn ρ M=>t ρ M (λds M1=>match ds with
 |[a,b]=>Dn.nx ((ρ.set i (some a)).set j (some b)) M1
 |_=>False) Dn.x
section
variable{X:Cx}{R:St->XK}{c a b:Expr}{body:List Stmt}{tc:DT}{tb:DS}{pos:Pos}
theorem ng(hc:JT X R c tc)(hb:Bg X R body tb)(hp:PassesOwn (model X.prog X.w) X.A X.env X.xe:=by first|exact PassesOwn.never|exact PassesOwn.leaving):JS X R (.While c body [] pos) (Oi tc tb):= .of (GN hp hc hb) λσ H G L ρ M Dn rl n h hx=>by
 obtain ⟨W,⟨m0,w0⟩,turn⟩:=h;refine ⟨λm σ' H'=>eK X.K G L H (W m) σ' H',⟨m0,ρ,G,L,M,.refl _ _ _,rl,n,w0⟩,λm σ' H' ⟨ρ',G',L',M',e',r',n',w'⟩=>?_⟩;refine ⟨G',L',ρ',M',_,_,r',n',turn m ρ' M' w',hx.on e',λv H1 ⟨G1,L1,M1,e1,r1,h1⟩=>?_⟩;cases v with
 |true=>
  obtain ⟨N,hN,hb⟩:=h1.1 rfl;refine G9 ⟨eK X.K G L H N,λσ2 H2 ⟨ρ2,G2,L2,M2,e2,r2,n2,h2⟩=>?_,?_⟩
  ·obtain ⟨m',hm,w2⟩:=hN ρ2 M2 h2;exact ⟨m',hm,ρ2,G2,L2,M2,e2,r2,n2,w2⟩
  ·have TR:=e'.trans e1;exact ⟨G1,L1,ρ',M1,_,r1,n'.mono e1,hb,hx.on TR,⟨λ_ _ f=>eK.back TR f,λ_ _ f=>Fin.back TR f,λ_ _ f=>eK.back TR f,λ_ _ f=>eK.back TR f⟩⟩
 |false=>exact Hn ⟨ρ',G1,L1,M1,e'.trans e1,r1,n'.mono e1,h1.2 rfl⟩
theorem HJ{i j:Nat}{x y:Str}{t:DA}{px py pt:Pos}{kt k2 B6}(hN:X.N.Nodup)(hi:X.N[i]? =some x)(hj:X.N[j]? =some y)(ha:JA X R [a,b] t)(Mn:i≠j:=by decide)
  (hx:X.env.scope.names.lookup x=some .local:=by rfl) (hy:X.env.scope.names.lookup y=some .local:=by rfl)
  (hw:swappedStores [.Tuple [.Name x px, .Name y py] kt pt] (.Tuple [a,b] k2 B6) X.env=pure (some [x,y]):=by rfl) (hc:X.calm=true:=by rfl)
  (hs:swapsWithSole [.Tuple [.Name x px, .Name y py] kt pt] (.Tuple [a,b] k2 B6) pos.line X.env=pure false:=by rfl):
  JS X R (.Assign [.Tuple [.Name x px, .Name y py] kt pt] (.Tuple [a,b] k2 B6) pos) (VO i j t):= .of (PK hc hN hi hj Mn hx hy ha hw hs) λσ H G L ρ M Dn rl n h hx=>by
 refine ⟨G,L,ρ,M,_,_,rl,n,h,hx,λvs H1 ⟨ds,G1,L1,M1,e1,r1,n1,h1⟩=>?_⟩
 (try dsimp only at h1)
 split at h1
 ·obtain ⟨v,u,rfl,m1,m2⟩:=fA n1;exact ⟨v,u,rfl,_,G1,L1,M1,e1,r1,((n.mono e1).set i m1).set j m2,h1⟩
 ·exact h1.elim
end
section
variable{X:Cx}{R:St->XK}{e e2 o:Expr}{es:List Expr}{t:DA}{to ta tb:DE}{a b:Expr}{p pos apos cJ:Pos}
theorem D5(hm:X.mg "abs"=none)(ha:JA X R [e] t)(he:starEach [e] X.env=(false,eval e X.env)::starEach [] X.env:=by rfl)(fJ:(backTo pos (starEach [] X.env)).any (·.1)=false:=by rfl)(hg:Gl X "abs":=by rfl):JE X R (.Call (.Name "abs" p) [e] [] pos) (Av ON t):=
 fU JG WD hm ES ha hg (by decide) (by decide) he fJ
theorem SO(hm:X.mg "max"=none)(ha:JA X R [e,e2] t)(hc:X.calm=true:=by rfl)(he:starEach [e,e2] X.env=(false,eval e X.env)::starEach [e2] X.env:=by rfl)(fJ:(backTo pos (starEach [e2] X.env)).any (·.1)=false:=by rfl)(hg:Gl X "max":=by rfl):JE X R (.Call (.Name "max" p) [e,e2] [] pos) (Av L7 t):=
 fU (Fc hc) YC hm Ge ha hg (by decide) (by decide) he fJ
theorem Nh(hm:X.mg "min"=none)(ha:JA X R [e,e2] t)(hc:X.calm=true:=by rfl)(he:starEach [e,e2] X.env=(false,eval e X.env)::starEach [e2] X.env:=by rfl)(fJ:(backTo pos (starEach [e2] X.env)).any (·.1)=false:=by rfl)(hg:Gl X "min":=by rfl):JE X R (.Call (.Name "min" p) [e,e2] [] pos) (Av Ei t):=
 fU (Fs hc) YD hm Gb ha hg (by decide) (by decide) he fJ
theorem Rh(hm:X.mg "any"=none)(ha:JA X R [e] t)(hc:X.calm=true:=by rfl)(he:starEach [e] X.env=(false,eval e X.env)::starEach [] X.env:=by rfl)(fJ:(backTo pos (starEach [] X.env)).any (·.1)=false:=by rfl)(hg:Gl X "any":=by rfl):JE X R (.Call (.Name "any" p) [e] [] pos) (Av PH t):=
 fU (GW hc) W0 hm E5 ha hg (by decide) (by decide) he fJ
theorem ND(hm:X.mg "int"=none)(ha:JA X R [e] t)(he:starEach [e] X.env=(false,eval e X.env)::starEach [] X.env:=by rfl)(fJ:(backTo pos (starEach [] X.env)).any (·.1)=false:=by rfl)(hg:Gl X "int":=by rfl):JE X R (.Call (.Name "int" p) [e] [] pos) (Av zZ t):=
 sM (Ek.or xN) YB hm uL ha hg (by decide) (by decide) he fJ
end
theorem nM{te:DE}{cs:En}{f:Dt->Dt}{M:Ms}{k:List Dt->Ms->Prop}:∀(xs Ι:List Dt),(∀x∈xs,∀q:DQ,q (f x) M->te (some x::cs) M q k8)->k (Ι++xs.map f) M->zB te cs xs Ι M k
 |[],Ι,_,h=>by rw [List.map_nil,aaV] at h;exact h
 |x::xs,Ι,ht,h=>ht x List.mem_cons_self _ (nM xs (Ι++[f x]) (λy hy=>ht y (List.mem_cons_of_mem _ hy)) (by simpa using h))
theorem Η{d y:Dt}{xs:List Dt}{i:Int}{M:Ms}{q:DQ}(hs:jU M d=some xs)(h:nE xs i=some y)(k:q y M):dF d (.int i) M q:=by
 cases d with
 |str z=>cases hs
 |_=>
  unfold dF;simp only [hs,h];exact k
theorem au{d:Dt}{xs:List Dt}{M:Ms}{q:DQ}(hs:jU M d=some xs)(k:q (.int xs.length) M):eZ [d] M q:=by
 cases d with
 |str z=>cases hs
 |_=>
  unfold eZ;simp only [hs];exact k
theorem a_{α:Type}{x:α}{xs:List α}:nE (x::xs) 0=some x:=Κ (j:=0) rfl
theorem Gp(bs:List Bool):(List.range bs.length).all (λi=>bs.getD i false)=bs.all id:=by
 induction bs with
 |nil=>rfl
 |cons b bs ih=>
  rw [aau,abv,abH,List.all_map,abH,<-ih];rfl
def RA(K:PySem.W.Frag):List V->Hp->VK->Prop:=λxs H Q=>∃(p:Addr) (bs:List Bool),xs=[.ref p]/\gy K H p (bs.map V.bl)/\Q (.bl (bs.all id)) H
section
variable{X:Cx}
theorem Ip (hc : X.calm = true) : c8 X (.builtin "all") (RA X.K) := by
  intro ζ s σ H xs us Q I r h;obtain ⟨p, bs, rfl, hq, q⟩ := h;obtain ⟨u, rfl, r1⟩ := kF r;cases r1;obtain ⟨its, rv, pl, hz⟩ := I.list hq;have O8 := xy rv;subst O8;refine call_all_walk (wpAny_pyIter_list pl.isList ?_);have lp : p<s.heap.objs.size := by obtain ⟨o, e, _⟩ := pl.isList; exact Heap.lt_size e
  refine ⟨s.heap.objs.size, _, _, _, _, _, λi => bs.getD i false, rfl, Walks.list (show X.A.in1.handled = none from I.ok.hd hc) s.heap.objs.size p (aaE lp) (bs.map Value.bool).toArray, ⟨⟨_, Heap.get?_push_size _ rfl, rfl, rfl⟩, pl.isList.at λo e => Heap.get?_push_of_some _ e⟩, zv, λh' tk hk =>?_⟩;refine ⟨.bl (bs.all id), H, I.kept λb o e => hk b o (λz => by have : b = s.heap.objs.size := (by simpa using z); exact Nat.lt_irrefl _ (this ▸ Heap.lt_size e)) (Heap.get?_push_of_some _ e),?_, q⟩;rw [aaz, aad, Gp];rfl
end
def Qd:List Dt->Ms->DQ->Prop
 |[.lst xs],M,q=>∃bs:List Bool,xs=bs.map Dt.bl/\q (.bl (bs.all id)) M
 |_,_,_=>False
theorem VX{K:PySem.W.Frag}:BD K (RA K) Qd:=by
 intro G0 L0 H0 G L M H vs ds q e r n h;unfold Qd at h;split at h
 ·rename_i xs;obtain ⟨bs,rfl,h⟩:=h;obtain ⟨v,rfl,n1⟩:=br n;obtain ⟨a,ws,rfl,e1,m⟩:=n1;exact ⟨a,bs,rfl,by rw [<-nj m];exact .of (r.sub _ _ e1),bA e r h⟩
 ·exact h.elim
def RQ(i j:Nat)(t:DE):DS:=λDn ρ M=>t ρ M (λd M1=>match d with
 |.tup [a,b]=>Dn.nx ((ρ.set i (some a)).set j (some b)) M1
 |_=>False) Dn.x
section
variable{X:Cx}{R:St->XK}{e o:Expr}{es:List Expr}{t:DA}{to te:DE}{p pos apos cJ:Pos}
theorem E8:bootBuiltins "all"=some (.builtin "all"):=by decide+kernel
theorem Sm(hm:X.mg "all"=none)(ha:JA X R [e] t)(hc:X.calm=true:=by rfl)(he:starEach [e] X.env=(false,eval e X.env)::starEach [] X.env:=by rfl)(fJ:(backTo pos (starEach [] X.env)).any (·.1)=false:=by rfl)(hg:Gl X "all":=by rfl):JE X R (.Call (.Name "all" p) [e] [] pos) (Av Qd t):=
 fU (Ip hc) VX hm E8 ha hg (by decide) (by decide) he fJ
variable{i j k:Nat}{tg:Expr}
theorem MT(he:JE X R e te)(hg:PG X tg (GP X.K 2 (mT (iH i) (mT (iH j) HC))))(hs:swapsWithSole [tg] e pos.line X.env=pure false:=by rfl)(hw:swappedStores [tg] e X.env=pure none:=by rfl)
  (h1:(assignEach [tg] X.env).map (·.2)=[assign tg X.env]:=by rfl):JS X R (.Assign [tg] e pos) (RQ i j te):= .of (JY he hg hs hw h1) λσ H G L ρ M Dn rl n h hx=>by
 refine ⟨G,L,ρ,M,_,_,rl,n,h,hx,λv H1 ⟨d1,G1,L1,M1,e1,r1,n1,h1⟩=>?_⟩
 (try dsimp only at h1)
 split at h1
 ·rename_i a b;obtain ⟨p,vs,rfl,e,m⟩:=n1;obtain ⟨v1,v2,rfl,m1,m2⟩:=fA m;exact ⟨p,_,rfl,.inl (.inl (r1.sub _ _ e)),rfl,v1,_,rfl,v2,_,rfl,rfl,_,G1,L1,M1,e1,r1,((n.mono e1).set i m1).set j m2,h1⟩
 ·exact h1.elim
end
mutual
def Dt.under(n:Nat):Dt->Prop
 |.bq=>True
 |.bl _=>True
 |.int _=>True
 |.str _=>True
 |.tup ds=>Dt.bF n ds
 |.lst ds=>Dt.bF n ds
 |.obj _ _ ds=>Dt.bF n ds
 |.loc k=>k<n
 |.ref _=>True
 |.ty _=>True
 |.iY _=>True
 |.kt ds=>Dt.bF n ds
 |.exc _ _ ds=>Dt.bF n ds
 |.RV _ _ _ _ ds=>Dt.bF n ds
def Dt.bF(n:Nat):List Dt->Prop
 |[]=>True
 |d::ds=>Dt.under n d/\Dt.bF n ds
end
def MO.under(n:Nat):MO->Prop
 |.lst ds=>Dt.bF n ds
 |.ins _ _ ds=>Dt.bF n ds
 |.ef _ ds=>Dt.bF n ds
 |.raw _=>True
mutual
inductive Gy(n:Nat)(E:Ms):Dt->Dt->Prop
 |old {d:Dt} (h:d.under n):Gy n E d d
 |tup {ds es:List Dt} (h:iN n E ds es):Gy n E (.tup ds) (.tup es)
 |lst {ds es:List Dt} (h:iN n E ds es):Gy n E (.lst ds) (.lst es)
 |obj {C:Addr} {ns:List Str} {ds es:List Dt} (h:iN n E ds es):Gy n E (.obj C ns ds) (.obj C ns es)
 |Eh {k:Nat} {ds es:List Dt} (hk:n<=k) (e:E[k-n]? =some (.lst ds)) (h:iN n E ds es):Gy n E (.loc k) (.lst es)
 |WM {k:Nat} {C:Addr} {ns:List Str} {ds es:List Dt} (hk:n<=k) (e:E[k-n]? =some (.ins C ns ds)) (h:iN n E ds es):Gy n E (.loc k) (.obj C ns es)
inductive iN(n:Nat)(E:Ms):List Dt->List Dt->Prop
 |nil:iN n E [] []
 |cons {d e:Dt} {ds es:List Dt} (h:Gy n E d e) (t:iN n E ds es):iN n E (d::ds) (e::es)
end
theorem iN.length{n:Nat}{E:Ms}:∀{ds es:List Dt},iN n E ds es->ds.length=es.length
 |[],es,h=>by cases h;rfl
 |d::ds,es,h=>by
  cases h with
  |cons h t=>rw [aau,aau,iN.length t]
theorem iN.old{n:Nat}{E:Ms}:∀{ds:List Dt},Dt.bF n ds->iN n E ds ds
 |[],_=> .nil
 |_::_,h=> .cons (.old h.1) (iN.old h.2)
section
variable{K:PySem.W.Frag}{G G':Hp}{L0 t:List Addr}{n:Nat}
mutual
theorem uv(hn:L0.length=n)(g:dX G G'):∀(d:Dt) (v:V),d.under n->Den K G (L0++t) d v->Den K G' L0 d v
 |.bq,_,_,h=>h
 |.bl _,_,_,h=>h
 |.int _,_,_,h=>h
 |.str _,_,_,h=>h
 |.tup ds,_,u,⟨a,vs,e,h1,h2⟩=>⟨a,vs,e,g _ _ h1,bO hn g ds vs u h2⟩
 |.lst ds,_,u,⟨a,vs,e,h1,h2⟩=>⟨a,vs,e,g _ _ h1,bO hn g ds vs u h2⟩
 |.obj C ns ds,_,u,⟨a,dx,vs,e,h1,hl,h2⟩=>⟨a,dx,vs,e,g _ _ h1,hl,bO hn g ds vs u h2⟩
 | .loc k,_,u,⟨a,e,h1⟩=>⟨a,e,by
   have u:k<n:=u
   rwa [aao (by rw [hn];exact u)] at h1⟩
 |.ref _,_,_,h=>h
 |.ty _,_,_,h=>h
 |.iY _,_,_,⟨a,e,h1⟩=>⟨a,e,g.seq h1⟩
 |.kt ds,_,u,⟨a,vs,e,h1,h2⟩=>⟨a,vs,e,g.SU h1,bO hn g ds vs u h2⟩
 |.exc _ _ ds,_,u,⟨a,od,vs,e,h1,h2,h3,h4⟩=>⟨a,od,vs,e,g _ _ h1,h2.imp (λz=>z) (λ⟨dx,z1,z2⟩=>⟨dx,z1,g _ _ z2⟩),h3,bO hn g ds vs u h4⟩
 |.RV _ _ _ _ ds,_,u,⟨vs,e,h2,h3,h4⟩=>⟨vs,e,h2.imp (λz=>z) (λ⟨dx,z1,z2⟩=>⟨dx,z1,g _ _ z2⟩),h3,bO hn g ds vs u h4⟩
theorem bO(hn:L0.length=n)(g:dX G G'):∀(ds:List Dt) (vs:List V),Dt.bF n ds->Χ K G (L0++t) ds vs->Χ K G' L0 ds vs
 |[],_,_,h=>h
 |d::ds,_,u,⟨v,r,e,h1,h2⟩=>⟨v,r,e,uv hn g d v u.1 h1,bO hn g ds r u.2 h2⟩
end
theorem EI{H:Hp}{a:Addr}(hn:L0.length=n)(g:dX G G'){m:MO}(u:m.under n)(h:GB K G (L0++t) H a m):GB K G' L0 H a m:=by
 cases m with
 |lst ds=>obtain ⟨vs,e,h⟩:=h;exact ⟨vs,e,bO hn g _ _ u h⟩
 |ins C ns ds=>obtain ⟨dx,vs,e,hl,h⟩:=h;exact ⟨dx,vs,e,hl,bO hn g _ _ u h⟩
 |ef ks ds=>obtain ⟨vs,e,hl,h⟩:=h;exact ⟨vs,e,hl,bO hn g _ _ u h⟩
 |raw u=>exact h
end
open Classical in
noncomputable def pY(G H:Hp)(t:List Addr):Hp:=λb=>if b∈t then H b else G b
theorem D1{G H:Hp}{t:List Addr}{b:Addr}(h:b∈t):pY G H t b=H b:=by unfold pY;rw [if_pos h]
theorem mU{G H:Hp}{t:List Addr}{b:Addr}(h:b∉t):pY G H t b=G b:=by unfold pY;rw [if_neg h]
section
variable{K:PySem.W.Frag}{G:Hp}{L0 t:List Addr}{M0 E:Ms}{H:Hp}
theorem iW(r:Rl K G (L0++t) (M0++E) H):dX G (pY G H t):=λb u e=>by
 by_cases hb:b∈t
 ·obtain ⟨_,_,_,_,g,_⟩:=r.vt (a:=b) (aav _ hb);rw [g] at e;cases e
 ·rw [mU hb];exact e
theorem Il(r:Rl K G (L0++t) (M0++E) H)(hn:L0.length=M0.length){k:Nat}{a:Addr}{m:MO}(hk:M0.length<=k)(e:(L0++t)[k]? =some a)(em:E[k-M0.length]? =some m):pY G H t a=H a/\GB K G (L0++t) H a m:=by
 have e2:(M0++E)[k]? =some m:=by rw [aal hk];exact em
 obtain ⟨_,q⟩:=r.fN k a m e e2;rw [aal (by rw [hn];exact hk)] at e;exact ⟨D1 (aak e),q⟩
theorem Ld(r:Rl K G (L0++t) (M0++E) H)(hn:L0.length=M0.length){d d':Dt}(f:Gy M0.length E d d'):∀v,Den K G (L0++t) d v->Den K (pY G H t) L0 d' v:=by
 refine Gy.rec (motive_1:=λd d' _=>∀v,Den K G (L0++t) d v->Den K (pY G H t) L0 d' v) (motive_2:=λds es _=>∀vs,Χ K G (L0++t) ds vs->Χ K (pY G H t) L0 es vs) ?_ ?_ ?_ ?_ ?_ ?_ ?_ ?_ f
 ·exact λ{d} u v h=>uv hn (iW r) d v u h
 ·exact λ{ds es} f ih v ⟨a,vs,e,h1,h2⟩=>⟨a,vs,e,iW r _ _ h1,ih vs h2⟩
 ·exact λ{ds es} f ih v ⟨a,vs,e,h1,h2⟩=>⟨a,vs,e,iW r _ _ h1,ih vs h2⟩
 ·exact λ{C ns ds es} f ih v ⟨a,dx,vs,e,h1,hl,h2⟩=>⟨a,dx,vs,e,iW r _ _ h1,hl.trans f.length,ih vs h2⟩
 ·intro k ds es hk em f ih v ⟨a,e,h1⟩;obtain ⟨o,vs,e1,h2⟩:=Il r hn hk h1 em;exact ⟨a,vs,e,o.trans e1,ih vs h2⟩
 ·intro k C ns ds es hk em f ih v ⟨a,e,h1⟩;obtain ⟨o,dx,vs,e1,hl,h2⟩:=Il r hn hk h1 em;exact ⟨a,dx,vs,e,o.trans e1,hl.trans f.length,ih vs h2⟩
 ·exact λvs h=>h
 ·exact λ{d e ds es} f t ih1 ih2 vs ⟨v,r,e,h1,h2⟩=>⟨v,r,e,ih1 v h1,ih2 r h2⟩
end
def Wt(n:Nat)(q:DQ):DQ:=λd M=>∃M' E d',M=M'++E/\M'.length=n/\(∀m∈M',MO.under n m)/\Gy n E d d'/\q d' M'
theorem Fin.xX{K:PySem.W.Frag}{G0:Hp}{L0:List Addr}{M0:Ms}{H0:Hp}{q:DQ}{v:V}{H:Hp}(r0:Rl K G0 L0 M0 H0)(f:Fin K G0 L0 H0 (Wt M0.length q) v H):Fin K G0 L0 H0 q v H:=by
 obtain ⟨d,G,L,M,ex,r,dn,M',E,d',rfl,hl,hu,fz,hq⟩:=f;obtain ⟨t,rfl⟩:=ex.l;have hn:L0.length=M'.length:=by rw [hl];exact r0.len
 have Zy:∀b,b∈L0->b∉t:=λb h1 h2=>(ab8.mp r.nd).2.2 b h1 b h2 rfl;have sm:=iW r;refine ⟨d',pY G H t,L0,M',⟨ex.g.trans sm,.refl _,λb h1 h2=>?_,ex.out,λb h=> .inl h,ex.B7⟩,⟨λb u e=>?_,hn,(ab8.mp r.nd).1,λk a m h1 h2=>?_⟩,Ld r hn (hl▸fz) v dn,hq⟩
 ·have hb:b∉t:=λz=>(ex.new b (aav _ z)).elim (λy=>Zy b y z) h2;rw [mU hb];exact ex.fr b h1 h2
 ·by_cases hb:b∈t
  ·rw [D1 hb] at e;exact e
  ·rw [mU hb] at e;exact r.sub b u e
 ·have k1:k<L0.length:=(aaf.mp h1).1;have e1:(L0++t)[k]? =some a:=by rw [aao k1];exact h1
  have e2:(M'++E)[k]? =some m:=by rw [aao (by rw [<-hn];exact k1)];exact h2
  obtain ⟨g,q⟩:=r.fN k a m e1 e2;exact ⟨by rw [mU (Zy a (aak h1))];exact g,EI (n:=M'.length) hn sm (by rw [hl];exact hu m (aak h2)) q⟩
section
variable{X:Cx}{R:St->XK}{e:Expr}{t:DE}
theorem fq{st:Stmt}:JS X R st (λ_ _ _=>False):=λ_ _ _ _ _ _ ⟨_,_,_,_,_,_,_,h,_,_⟩=>h.elim
end
def HU(C:Addr)(m:Str)(sp:Sp)(nF:List V)(R:St->XK)(ta:TE)(t:TA):TE:=λσ H Q=>ta σ H λx H1=>∃a dx fs,x= .ref a/\H1 a=some (.ins C dx fs)/\fs.lookup m=none/\
 t σ H1 λvs H2=>sp (x::(vs++nF)) H2 Q (R σ)
def Po(C:Addr)(sp:Sp)(nF:List V)(R:St->XK)(t:TA):TE:=λσ H Q=>t σ H λvs H1=>∀x dx,H1 x=none->H1 dx=none->dx≠x->
 sp (.ref x::(vs++nF)) (upd (upd H1 dx (.own x)) x (.ins C dx [])) (λv H2=>v= .bq/\Q (.ref x) H2) (R σ)
section
variable{X:Cx}{CX:AA}{k:Nat}{f C:Addr}{fd:FuncData}{ps:List Str}{sp:Sp}{nF:List V}{ds:List Value}{R:St->XK}{x m:Str}{p pos apos:Pos}{e o:Expr}{es:List Expr}{ta:TE}{t:TA}
theorem JR{pl:Sem Bool}(he:PE X o ta)(c:Dp X.K C)(hm:MU X.K C m f)(F:aq X.prog X.w X.K X.mg X.base CX k f fd ps sp)(hr:bM k X.A)(hb:h7 X.K fd ps ds)(hd:ay nF ds)(hx:cZ CX X R)(ha:PA X (e::es) t)
  (O5:starEach (e::es) X.env=(false,eval e X.env)::starEach es X.env:=by rfl) (fJ:(backTo pos (starEach es X.env)).any (·.1)=false:=by rfl)
  (ht:eval (.Call (.Attribute o m apos) (e::es) [] pos) X.env=(do
   let ov<-eval o X.env
   standAt apos.atName
   let (f,first)<-holding [ov] (getMethod ov m pl)
   callWith pos f first (backTo pos (starEach (e::es) X.env)) (backToKw pos (keywordEach [] X.env))):=by rfl):
  PE X (.Call (.Attribute o m apos) (e::es) [] pos) (HU C m sp nF R ta t):=by
 intro ζ s σ H Q I h;refine PySem.W.methodCall_KW (pl:=pl) (bC (he ζ s σ H _ I h) λu s1 ⟨x,H1,I1,rx,a,dx,fs,ex,ea,l,q⟩=>?_) ht;subst ex;obtain rfl:u=Value.ref a:=rx;refine r_ I1 ea c hm l ?_;refine PySem.W.callWith_K (first:=[.ref a]) (h₀:=X.base) I.ok.mod.RM hm.kp (bC (ha pos ζ s1 σ H1 _ I1 q) λus s2 ⟨vs,H2,I2,r,q2⟩=>⟨I2.pK,?_⟩) O5 fJ;exact wg (us:= .ref a::us) (vs:= .ref a::vs) F hr hb hd hx I2 (.cons rfl r) q2
theorem Fp{pl:Sem Bool}(he:PE X o ta)(c:Dp X.K C)(hm:MU X.K C m f)(F:aq X.prog X.w X.K X.mg X.base CX k f fd ps sp)(hr:bM k X.A)(hb:h7 X.K fd ps ds)(hd:ay nF ds)(hx:cZ CX X R)
  (ht:eval (.Call (.Attribute o m apos) [] [] pos) X.env=(do
   let ov<-eval o X.env
   standAt apos.atName
   let (f,first)<-holding [ov] (getMethod ov m pl)
   callWith pos f first (backTo pos (starEach [] X.env)) (backToKw pos (keywordEach [] X.env))):=by rfl):
  PE X (.Call (.Attribute o m apos) [] [] pos) (HU C m sp nF R ta T8):=by
 intro ζ s σ H Q I h;refine PySem.W.methodCall_KW (pl:=pl) (bC (he ζ s σ H _ I h) λu s1 ⟨x,H1,I1,rx,a,dx,fs,ex,ea,l,q⟩=>?_) ht;subst ex;obtain rfl:u=Value.ref a:=rx;refine r_ I1 ea c hm l ?_;exact PySem.W.callWith_K0 (first:=[.ref a]) I1.pK hm.kp (wg (us:=[.ref a]) (vs:=[.ref a]) F hr hb hd hx I1 (.cons rfl .nil) q)
theorem E6{ζ:List (Addr×Obj)}{σ:St}{H:Hp}{s:Shared}{Q:VK}{us:List Value}{vs:List V}(M:Mk X.K C f)(F:aq X.prog X.w X.K X.mg X.base CX k f fd ps sp)(hr:bM (k+1) X.A)(hb:h7 X.K fd ps ds)(hd:ay nF ds)
  (hx:cZ CX X R) (I:Inv X ζ σ H s) (r:ay vs us)
  (h:∀x dx,H x=none->H dx=none->dx≠x->sp (.ref x::(vs++nF)) (upd (upd H dx (.own x)) x (.ins C dx [])) (λv H2=>v= .bq/\Q (.ref x) H2) (R σ)):
  wpAny (model X.prog X.w) X.A (call (.ref C) us) (EP X ζ σ Q) X.xe s:=by
 have hq:=h (s.heap.objs.size+1) s.heap.objs.size (I.ba.fresh (Nat.le_succ _)) (I.ba.fresh (aah _)) (aaE (aa8 _));have I2:=Inv.made (C:=C) I;have r2:ay (V.ref (s.heap.objs.size+1)::(vs++nF)) (Value.ref (s.heap.objs.size+1)::(us++ds)):= .cons rfl (r.append hd);have hl:(Value.ref (s.heap.objs.size+1)::us++ds).length=ps.length:=by have e:=r2.length;rw [F.len _ _ _ _ hq] at e;exact e.symm
 refine wpAny_call (GU (f:=f) I.pK M.makes M.init (beq_iff_eq.mp M.fn) (codeAny_mono (F.run _ X.stack _ _ ⟨Value.ref (s.heap.objs.size+1)::us,[]⟩ (Value.ref (s.heap.objs.size+1)::(us++ds)) _ _ (R σ) (hr.make C us [])
  (I2.Rg.make C us []) (hb _ (Value.ref (s.heap.objs.size+1)::us) I2.pK hl) r2 hq) λr s' xW=>?_))
 cases r with
 |error e=>exact hx ζ σ _ _ e s' I2 xW
 |ok fl=>
  cases fl with
  |ret u=>
   obtain ⟨v,H',I3,rv,ev,q3⟩:=I2.after xW;subst ev;exact ⟨rv,⟨V.ref (s.heap.objs.size+1),H',I3,rfl,q3⟩⟩
  |next=>exact False.elim xW
  |brk=>exact False.elim xW
  |cont=>exact False.elim xW
theorem Iy(M:Mk X.K C f)(F:aq X.prog X.w X.K X.mg X.base CX k f fd ps sp)(hr:bM (k+1) X.A)(hg:Gl X x)(hm:X.mg x=some (.ref C))(hb:h7 X.K fd ps ds)(hd:ay nF ds)(hx:cZ CX X R)
  (ha:PA X (e::es) t) (tS:(x==("__debug__":Str))=false:=by decide) (he:starEach (e::es) X.env=(false,eval e X.env)::starEach es X.env:=by rfl) (fJ:(backTo pos (starEach es X.env)).any (·.1)=false:=by rfl):
  PE X (.Call (.Name x p) (e::es) [] pos) (Po C sp nF R t):=by
 intro ζ s σ H Q I h;refine wpAny_Call_Name_kw (qi I hg hm ?_ tS);refine PySem.W.callWith_K (h₀:=X.base) I.ok.mod.RM M.kp (bC (ha pos ζ s σ H _ I h) λus s1 ⟨vs,H1,I1,r,q⟩=>⟨I1.pK,?_⟩) he fJ;exact E6 M F hr hb hd hx I1 r q
end
def Qo(C:Addr)(M:Ms)(d:Dt)(ns:List Str)(ds:List Dt):Prop:=d= .obj C ns ds\/∃k,d= .loc k/\M[k]? =some (.ins C ns ds)
section
variable{K:PySem.W.Frag}{G:Hp}{L:List Addr}{M:Ms}{H:Hp}{C:Addr}{d:Dt}{v:V}{ns:List Str}{ds:List Dt}
theorem HN(r:Rl K G L M H)(n:Den K G L d v)(o:Qo C M d ns ds):∃a dx vs,v= .ref a/\H a=some (.ins C dx (ns.zip vs))/\ns.length=ds.length/\Χ K G L ds vs:=by
 rcases o with rfl|⟨k,rfl,hm⟩
 ·obtain ⟨a,dx,vs,e,h1,hl,h2⟩:=n;exact ⟨a,dx,vs,e,r.sub _ _ h1,hl,h2⟩
 ·obtain ⟨a,e,h1⟩:=n;obtain ⟨_,dx,vs,h2,hl,h3⟩:=r.fN k a _ h1 hm;exact ⟨a,dx,vs,e,h2,hl,h3⟩
theorem yz{f:Str}:∀{ns:List Str}{ds:List Dt}{vs:List V}{d:Dt},Χ K G L ds vs->(ns.zip ds).lookup f=some d->∃v,(ns.zip vs).lookup f=some v/\Den K G L d v
 |[],_,_,_,_,h=>by simp at h
 |_::_,[],_,_,_,h=>by simp at h
 |g::ns,d::ds,_,d',⟨v,r,rfl,h1,h2⟩,h=>by
  rw [abd,aa9] at h;rw [abd,aa9];cases q:f==g with
  |true=>rw [q] at h;cases h;exact ⟨v,rfl,h1⟩
  |false=>rw [q] at h;exact yz h2 h
theorem sy{f:Str}:∀{ns:List Str}{ds:List Dt}{vs:List V},Χ K G L ds vs->(ns.zip ds).lookup f=none->(ns.zip vs).lookup f=none
 |[],_,_,_,_=>by simp
 |_::_,[],_,h,_=>by have h:_=_:=h;subst h;simp
 |g::ns,d::ds,_,⟨v,r,rfl,h1,h2⟩,h=>by
  rw [abd,aa9] at h;rw [abd,aa9];cases q:f==g with
  |true=>rw [q] at h;cases h
  |false=>rw [q] at h;exact sy h2 h
theorem ze{f:Str}{v:V}:∀{ns:List Str}{vs:List V},ns.length=vs.length->f∉ns->jG f v (ns.zip vs)=(ns++[f]).zip (vs++[v])
 |[],[],_,_=>rfl
 |g::ns,x::vs,hl,h=>by have hg:¬g=f:=λz=>h (by rw [z];exact aae);show (if g=f then (g,v)::ns.zip vs else (g,x)::jG f v (ns.zip vs))=(g,x)::(ns++[f]).zip (vs++[v]);rw [if_neg hg,ze (by simpa using hl) λz=>h (List.mem_cons_of_mem _ z)]
 |[],_::_,hl,_=>by simp at hl
 |_::_,[],hl,_=>by simp at hl
end
def VW(C:Addr)(f:Str)(t:DE):DE:=λρ M q x=>t ρ M (λd M1=>∃ns ds v,Qo C M1 d ns ds/\(ns.zip ds).lookup f=some v/\q v M1) x
def NI(C:Addr)(m:Str)(T:DF)(to:DE)(ta:DA):DE:=λρ M q x=>to ρ M (λd M1=>(∃ns ds,Qo C M1 d ns ds/\(ns.zip ds).lookup m=none)/\ta ρ M1 (λds M2=>T (d::ds) M2 q (λC fs M'=>x ρ C fs M')) x) x
def RN(C:Addr)(T:DF)(ta:DA):DE:=λρ M q x=>ta ρ M (λds M1=>T (.loc M1.length::ds) (M1++[.ins C [] []]) (λd M2=>d= .bq/\q (.loc M1.length) M2) (λC fs M'=>x ρ C fs M')) x
def NP(C:Addr)(f:Str)(to tv:DE):DS:=λDn ρ M=>tv ρ M (λy M1=>to ρ M1 (λd M2=>∃k ns ds,d= .loc k/\M2[k]? =some (.ins C ns ds)/\f∉ns/\ns.length<1000/\Dn.nx ρ (M2.set k (.ins C (ns++[f]) (ds++[y])))) Dn.x) Dn.x
structure cU(P:Program)(w:World)(K:PySem.W.Frag)(mg:Str->Option Value)(base:Heap)(k:Nat)(C:Addr)(m:Str)(ps:List Str)(T:DF)(f:Addr)(fd:FuncData):Prop where
 ok:aq P w K mg base (bV P w) k f fd ps (cC K T)
 b:h7 K fd ps []
 c:Dp K C
 m:MU K C m f
structure OW(P:Program)(w:World)(K:PySem.W.Frag)(mg:Str->Option Value)(base:Heap)(k:Nat)(x:Str)(C:Addr)(ps:List Str)(T:DF)(f:Addr)(fd:FuncData):Prop where
 ok:aq P w K mg base (bV P w) k f fd ps (cC K T)
 b:h7 K fd ps []
 k:Mk K C f
 m:mg x=some (.ref C)
section
variable{X:Cx}{R:St->XK}{C:Addr}{f m x:Str}{T:DF}{k k':Nat}{a:Addr}{fd:FuncData}{ps:List Str}{e o value:Expr}{es:List Expr}{pos pos' apos p:Pos}{to te tv:DE}{ta:DA}
theorem rM(c:Dp X.K C)(n:ik X.K C f)(he:JE X R e te)(hb:attributeBase e f X.env (eval e X.env)=eval e X.env:=by rfl):JE X R (.Attribute e f pos) (VW C f te):=
 .of (N1 he hb) λσ H G L ρ M q x rl en h hx=>by refine ⟨G,L,ρ,M,_,x,rl,en,h,hx,λv H1 ⟨d1,G1,L1,M1,e1,r1,n1,ns,ds,y,ob,hl,h1⟩=>?_⟩;obtain ⟨p,dx,vs,rfl,hp,_,dn⟩:=HN r1 n1 ob;obtain ⟨u,hu,du⟩:=yz dn hl;exact ⟨p,C,dx,_,u,rfl,hp,c,n,hu,y,G1,L1,M1,e1,r1,du,h1⟩
theorem bQ{pl:Sem Bool}(D:cU X.prog X.w X.K X.mg X.base k C m ps T a fd)(hr:bM k' X.A)(hx:cZ (bV X.prog X.w) X R)(ho:JE X R o to)(ha:JA X R (e::es) ta)(hk:k<=k':=by decide)
  (O5:starEach (e::es) X.env=(false,eval e X.env)::starEach es X.env:=by rfl) (fJ:(backTo pos (starEach es X.env)).any (·.1)=false:=by rfl)
  (ht:eval (.Call (.Attribute o m apos) (e::es) [] pos) X.env=(do
   let ov<-eval o X.env
   standAt apos.atName
   let (f,first)<-holding [ov] (getMethod ov m pl)
   callWith pos f first (backTo pos (starEach (e::es) X.env)) (backToKw pos (keywordEach [] X.env))):=by rfl):
  JE X R (.Call (.Attribute o m apos) (e::es) [] pos) (NI C m T to ta):=
 .of (JR (pl:=pl) ho D.c D.m D.ok (hr.mono hk) D.b .nil hx ha O5 fJ ht) λσ H G L ρ M q x rl en h hx=>by refine ⟨G,L,ρ,M,_,x,rl,en,h,hx,λv H1 ⟨d1,G1,L1,M1,e1,r1,n1,⟨ns,ds,ob,hl⟩,h1⟩=>?_⟩;obtain ⟨p,dx,vs,rfl,hp,_,dn⟩:=HN r1 n1 ob;refine ⟨p,dx,_,rfl,hp,sy dn hl,G1,L1,ρ,M1,_,x,r1,en.mono e1,h1,hx.on e1,λus H2 ⟨yw,G2,L2,M2,e2,r2,n2,h2⟩=>?_⟩;show cC X.K T (V.ref p::(us++[])) H2 _ _;rw [aaV];have GJ:=e1.trans e2;exact ⟨G2,L2,d1::yw,M2,q,_,r2,⟨_,_,rfl,Den.mono e2.g e2.l _ _ n1,n2⟩,h2,λv H' f=>Fin.back GJ f,λC fs M' G' L' H' od hq e' r' y=>hx σ ρ C fs M' G' L' H' od hq (GJ.trans e') r' (en.mono (GJ.trans e')) y⟩
theorem kG{pl:Sem Bool}(D:cU X.prog X.w X.K X.mg X.base k C m ps T a fd)(hr:bM k' X.A)(hx:cZ (bV X.prog X.w) X R)(ho:JE X R o to)(hk:k<=k':=by decide)
  (ht:eval (.Call (.Attribute o m apos) [] [] pos) X.env=(do
   let ov<-eval o X.env
   standAt apos.atName
   let (f,first)<-holding [ov] (getMethod ov m pl)
   callWith pos f first (backTo pos (starEach [] X.env)) (backToKw pos (keywordEach [] X.env))):=by rfl):
  JE X R (.Call (.Attribute o m apos) [] [] pos) (NI C m T to Oj):=
 .of (Fp (pl:=pl) ho D.c D.m D.ok (hr.mono hk) D.b .nil hx ht) λσ H G L ρ M q x rl en h hx=>by refine ⟨G,L,ρ,M,_,x,rl,en,h,hx,λv H1 ⟨d1,G1,L1,M1,e1,r1,n1,⟨ns,ds,ob,hl⟩,h1⟩=>?_⟩;obtain ⟨p,dx,vs,rfl,hp,_,dn⟩:=HN r1 n1 ob;refine ⟨p,dx,_,rfl,hp,sy dn hl,?_⟩;show cC X.K T (V.ref p::([]++[])) H1 _ _;exact ⟨G1,L1,[d1],M1,q,_,r1,⟨_,_,rfl,n1,rfl⟩,h1,λv H' f=>Fin.back e1 f,λC fs M' G' L' H' od hq e' r' y=>hx σ ρ C fs M' G' L' H' od hq (e1.trans e') r' (en.mono (e1.trans e')) y⟩
theorem P4(D:OW X.prog X.w X.K X.mg X.base k x C ps T a fd)(hr:bM k' X.A)(hx:cZ (bV X.prog X.w) X R)(ha:JA X R (e::es) ta)(hk:k+1<=k':=by decide)(hg:Gl X x:=by rfl)(tS:(x==("__debug__":Str))=false:=by decide)
  (he:starEach (e::es) X.env=(false,eval e X.env)::starEach es X.env:=by rfl) (fJ:(backTo pos (starEach es X.env)).any (·.1)=false:=by rfl):JE X R (.Call (.Name x p) (e::es) [] pos) (RN C T ta):=
 .of (Iy D.k D.ok (hr.mono hk) hg D.m D.b .nil hx ha tS he fJ) λσ H G L ρ M q x rl en h hx=>by
  refine ⟨G,L,ρ,M,_,x,rl,en,h,hx,λvs H1 ⟨ds,G1,L1,M1,e1,r1,n1,h1⟩ y dx hy ZF kM=>?_⟩;show cC X.K T (V.ref y::(vs++[])) _ _ _;rw [aaV];have ra:=r1.Lw (o:= .own y) ZF;have ea:=r1.QD (o:= .own y) ZF;have YF:upd H1 dx (HO.own y) y=none:=by rw [Θ (Ne.symm kM)];exact hy
  have rb:=ra.MC (p:=y) (o:= .ins C dx []) (m:= .ins C [] []) YF ⟨dx,[],Ω,rfl,rfl⟩;have eb:=ra.Uj (p:=y) (o:= .ins C dx []) YF;have e2:=ea.trans eb;have GJ:=e1.trans e2;refine ⟨_,_,.loc M1.length::ds,_,_,_,rb,⟨_,_,rfl,⟨y,rfl,?_⟩,Χ.mono e2.g e2.l _ _ n1⟩,h1,λv H' ⟨d,G',L',M',e',r',dn,hd,hq⟩=>?_,λC fs M' G' L' H' od hq e' r' z=>hx σ ρ C fs M' G' L' H' od hq (GJ.trans e') r' (en.mono (GJ.trans e')) z⟩
  ·rw [<-r1.len,List.getElem?_append_right (Nat.le_refl _)];simp
  ·subst hd;refine ⟨dn,.loc M1.length,G',L',M',GJ.trans e',r',⟨y,rfl,e'.l.get ?_⟩,hq⟩;rw [<-r1.len,List.getElem?_append_right (Nat.le_refl _)];simp
theorem CN(c:Dp X.K C)(n:ik X.K C f)(ho:JE X R o to)(hv:JE X R value tv)(hs:swapsWith value (some (.Attribute o f pos')) pos.line X.env=pure false:=by rfl):JS X R (.Assign [.Attribute o f pos'] value pos) (NP C f to tv):=
 .of (Pa ho hv hs) λσ H G L ρ M Dn rl en h hx=>by refine ⟨G,L,ρ,M,_,_,rl,en,h,hx,λy H1 ⟨dy,G1,L1,M1,e1,r1,n1,h1⟩=>?_⟩;refine ⟨G1,L1,ρ,M1,_,_,r1,en.mono e1,h1,hx.on e1,λu H2 ⟨du,G2,L2,M2,e2,r2,n2,k,ns,ds,ed,hm,hf,hz,h2⟩=>?_⟩;subst ed;obtain ⟨p,rfl,hp⟩:=n2;obtain ⟨_,dx,vs,hH,hl,dn⟩:=r2.fN k p _ hp hm;have Y9:ns.length=vs.length:=hl.trans dn.length;refine ⟨p,C,dx,_,rfl,hH,c,n,by rw [abe,<-Y9,Nat.min_self];exact hz,?_⟩;rw [ze Y9 hf];exact ⟨ρ,G2,L2,_,(e1.trans e2).trans (r2.J1 hp),r2.setM (m:= .ins C (ns++[f]) (ds++[dy])) hp ⟨dx,_,Ω,by rw [aag,aag,hl];rfl,dn.app ⟨_,_,rfl,Den.mono e2.g e2.l _ _ n1,rfl⟩⟩,(en.mono (e1.trans e2)).mono (r2.J1 (o:= .own p) hp),h2⟩
end
def yY:List Dt->Ms->DQ->Prop
 |[d],M,q=>match jU M d with
  |some xs=>q (.loc M.length) (M++[.lst xs])
  |none=>False
 |_,_,_=>False
section
variable{K:PySem.W.Frag}
theorem Ra:BD K (λxs H Q=>∃p ys,xs=[V.ref p]/\(gy K H p ys\/nv K H p ys)/\∀l,H l=none->Q (.ref l) (upd H l (.lst ys))) yY:=by
 intro G0 L0 H0 G L M H vs ds q e r n h;unfold yY at h;split at h
 ·rename_i d;obtain ⟨v,rfl,n1⟩:=br n;split at h
  ·rename_i xs hs;obtain ⟨a,us,rfl,hq,dn⟩:=nB r n1 hs;exact ⟨a,us,rfl,hq,λl hl=>jz e r hl dn h⟩
  ·exact h.elim
 ·exact h.elim
end
section
variable{X:Cx}{R:St->XK}{e o i value:Expr}{t:DA}{to ti tv:DE}{p pos apos cJ tV:Pos}
theorem wb(hm:X.mg "list"=none)(ha:JA X R [e] t)(hg:Gl X "list":=by rfl)(he:starEach [e] X.env=(false,eval e X.env)::starEach [] X.env:=by rfl)(fJ:(backTo pos (starEach [] X.env)).any (·.1)=false:=by rfl):JE X R (.Call (.Name "list" p) [e] [] pos) (Av yY t):=
 sM vO Ra hm rL ha hg (by decide) (by decide) he fJ
def Rx(to:DE)(t:DA):DE:=λρ M q x=>to ρ M (λd M1=>(∃k xs,d= .loc k/\M1[k]? =some (.lst xs))/\t ρ M1 (λds M2=>∃k xs y,d= .loc k/\ds=[y]/\M2[k]? =some (.lst xs)/\xs.length<sizeLine/\q .bq (M2.set k (.lst (xs++[y])))) x) x
theorem fC(ho:JE X R o to)(ha:JA X R [e] t)(GX:attributeBase o "append" X.env (eval o X.env)=eval o X.env:=by rfl)
  (Py:((backTo cJ (starEach [e] X.env)).all (λx=> !x.1)&&(backToKw cJ (keywordEach [] X.env)).all (λx=>x.1.isSome)
   &&decide (([e]:List Expr).length+([]:List Keyword).length+(if ([]:List Keyword).isEmpty then 0 else 1)<30))=true:=by rfl)
  (Jk:(apos.endLine==cJ.line)=true:=by rfl) (hs:starEach [e] X.env=(false,eval e X.env)::starEach [] X.env:=by rfl) (Cd:(backTo cJ (starEach [] X.env)).any (·.1)=false:=by rfl):
  JE X R (.Call (.Attribute o "append" apos) [e] [] cJ) (Rx to t):=
 .of (Rm PySem.F.plainAttrs_list PySem.F.slot_list_append PySem.F.type_list_append (r:=D7) uk ho ha GX Py Jk hs Cd) λσ H G L ρ M q x rl n h hx=>by refine ⟨G,L,ρ,M,_,x,rl,n,h,hx,λv H1 ⟨d1,G1,L1,M1,e1,r1,n1,⟨k,xs,ed,hm⟩,h1⟩=>?_⟩;subst ed;obtain ⟨a,rfl,hk⟩:=n1;obtain ⟨_,vs,hH,_⟩:=r1.fN k a _ hk hm;refine ⟨.inl ⟨rfl,vs,.of hH⟩,G1,L1,ρ,M1,_,x,r1,n.mono e1,h1,hx.on e1,λus H2 ⟨ds,G2,L2,M2,e2,r2,n2,k',xs',y,ek,ed,Xd,hz,h2⟩=>?_⟩;cases ek;subst ed;obtain ⟨u,rfl,n3⟩:=br n2;have Ou:=e2.l.get hk;obtain ⟨_,Kv,Uk,QP⟩:=r2.fN k a _ Ou Xd;refine ⟨a,Kv,u,rfl,rfl,Uk,by rw [<-QP.length];exact hz,.bq,G2,L2,_,(e1.trans e2).trans (r2.J1 Ou),r2.setM (m:= .lst (xs'++[y])) Ou ⟨_,Ω,QP.app ⟨_,_,rfl,n3,rfl⟩⟩,rfl,h2⟩
def xG(to ti tv:DE):DS:=λDn ρ M=>tv ρ M (λy M1=>to ρ M1 (λd M2=>ti ρ M2 (λdi M3=>∃k i xs j,d= .loc k/\di= .int i/\M3[k]? =some (.lst xs)/\Jp xs.length i=some j/\Dn.nx ρ (M3.set k (.lst (xs.set j y)))) Dn.x) Dn.x) Dn.x
theorem mR(ho:JE X R o to)(hi:JE X R i ti)(hv:JE X R value tv)(hs:swapsWithSole [.Subscript o i tV] value pos.line X.env=pure false:=by rfl)(hw:swappedStores [.Subscript o i tV] value X.env=pure none:=by rfl)
  (h1:(assignEach [.Subscript o i tV] X.env).map (·.2)=[assign (.Subscript o i tV) X.env]:=by rfl)
  (ha:∀v,assign (.Subscript o i tV) X.env v=(do
   let ov<-holding [v] (eval o X.env)
   let iv<-holding [v,ov] (eval i X.env)
   standAt tV
   holding [v,ov,iv] (setItem ov iv v)
   release [v,ov,iv] []):=by intro _;rfl):JS X R (.Assign [.Subscript o i tV] value pos) (xG to ti tv):=
 .of (JY hv (Pt (t:=NR) ho hi Kj ha) hs hw h1) λσ H G L ρ M Dn rl n h hx=>by refine ⟨G,L,ρ,M,_,_,rl,n,h,hx,λv H1 ⟨dv,G1,L1,M1,e1,r1,n1,h1⟩=>?_⟩;refine ⟨G1,L1,ρ,M1,_,_,r1,n.mono e1,h1,hx.on e1,λov H2 ⟨d,G2,L2,M2,e2,r2,n2,h2⟩=>?_⟩;refine ⟨G2,L2,ρ,M2,_,_,r2,(n.mono e1).mono e2,h2,(hx.on e1).on e2,λiv H3 ⟨di,G3,L3,M3,e3,r3,n3,k,i,xs,j,ed,ei,hm,hj,h3⟩=>?_⟩;subst ed ei;obtain ⟨a,rfl,hk⟩:=n2;have n3:iv= .int i:=n3;subst n3;have AW:=e3.l.get hk;obtain ⟨_,vs,hH,dn⟩:=r3.fN k a _ AW hm;have FU:=e2.trans e3;have Ui:=Den.mono FU.g FU.l _ _ n1;refine ⟨a,vs,i,j,rfl,rfl,hH,by rw [<-dn.length];exact hj,ρ,G3,L3,_,((e1.trans e2).trans e3).trans (r3.J1 AW),r3.setM (m:= .lst (xs.set j dv)) AW ⟨_,Ω,.of (CH Ui j dn.pair)⟩,(((n.mono e1).mono e2).mono e3).mono (r3.J1 (o:= .own a) AW),h3⟩
end
structure Src(K:PySem.W.Frag)(a:Addr)(xs:List Dt)(ok:Ms->Prop)(G0:Hp)(L0:List Addr):Prop where
 at_:∀G L M H,dX G0 G->Pre L0 L->Rl K G L M H->ok M->∃vs,gy K H a vs/\Χ K G L xs vs
def k4(M:Ms):Dt->Option (List Dt×(Ms->Prop))
 |.lst xs=>some (xs,λ_=>True)
 |.iY ns=>some (ns.map .int,λ_=>True)
 |.loc k=>match M[k]? with
  |some (.lst xs)=>some (xs,λM'=>M'[k]? =some (.lst xs))
  |_=>none
 |_=>none
theorem rz{K:PySem.W.Frag}{G:Hp}{L:List Addr}{M:Ms}{H:Hp}{d:Dt}{v:V}{xs:List Dt}{ok:Ms->Prop}(r:Rl K G L M H)(n:Den K G L d v)(h:k4 M d=some (xs,ok)):∃a vs,v= .ref a/\gy K H a vs/\Src K a xs ok G L/\ok M:=by
 cases d with
 |lst ds=>
  cases h;obtain ⟨a,vs,rfl,e,m⟩:=n;exact ⟨a,vs,rfl,.of (r.sub _ _ e),⟨λG' L' M' H' g l r' _=>⟨vs,.of (r'.sub _ _ (g _ _ e)),Χ.mono g l _ _ m⟩⟩,trivial⟩
 |iY ns=>
  cases h;obtain ⟨a,rfl,e⟩:=n;exact ⟨a,_,rfl,r.sub.seq e,⟨λG' L' M' H' g l r' _=>⟨_,r'.sub.seq (g.seq e),iP⟩⟩,trivial⟩
 |loc k=>
  obtain ⟨a,rfl,e⟩:=n;have h:(match M[k]? with|some (.lst xs)=>some (xs,λM':Ms=>M'[k]? =some (.lst xs))|_=>none)=some (xs,ok):=h;split at h
  ·rename_i ys hm;cases h;obtain ⟨_,vs,e1,m1⟩:=r.fN k a _ e hm;refine ⟨a,vs,rfl,.of e1,⟨λG' L' M' H' g l r' hk=>?_⟩,hm⟩;obtain ⟨_,Kv,e2,m2⟩:=r'.fN k a _ (l.get e) hk;exact ⟨Kv,.of e2,m2⟩
  ·cases h
 |_=>cases h
theorem Iq{K:PySem.W.Frag}{G:Hp}{L:List Addr}{a:Addr}{xs:List Dt}{ok:Ms->Prop}(s:Src K a xs ok G L):Pc K (Uy K a) xs ok G L where
 go:=λi G1 L1 M1 H1 d g l r k e=>by
  obtain ⟨vs,hs,n⟩:=s.at_ G1 L1 M1 H1 g l r k;obtain ⟨v,e1,n1⟩:=n.get e
  exact ⟨⟨vs,v,hs,e1⟩,λv' H' ⟨eH,y⟩=>by
   subst eH;have e2:=y vs hs;rw [e1] at e2;cases e2
   exact ⟨G1,.refl _ _ _,r,n1⟩⟩
 stop:=λi G1 L1 M1 H1 g l r k e=>by obtain ⟨vs,hs,n⟩:=s.at_ G1 L1 M1 H1 g l r k;exact ⟨vs,hs,by rw [<-n.length];exact e⟩
def pI(M:Ms):Dt->Option (List Dt×(Ms->Prop))
 |.loc k=>k4 M (.loc k)
 |d=>(RG M d).map λxs=>(xs,λ_=>True)
def gC(t:DE):DK:=λρ M q x=>t ρ M (λd M1=>match pI M1 d with
 |some (xs,ok)=>q xs ok M1
 |none=>False) x
theorem bR{X:Cx}{R:St->XK}{tg e:Expr}{te:DE}(h:JE X R e te):JK X R tg e (gC te):=by
 intro ζ s σ H Q I ⟨G,L,ρ,M,q,x,rl,n,ht,hx,hQ⟩;refine bC (h ζ s σ H (Fin X.K G L H _) I ⟨G,L,ρ,M,_,x,rl,n,ht,hx,λ_ _ f=>f⟩) λu s1 ⟨v,H1,I1,rv,d,G1,L1,M1,e1,r1,n1,h1⟩=>?_
 (try dsimp only at h1)
 cases hi:pI M1 d with
 |none=>rw [hi] at h1;exact h1.elim
 |some p=>
  obtain ⟨xs,ok⟩:=p;rw [hi] at h1;have fin:∀J,Pc X.K J xs ok G1 L1->Q J H1:=λJ y=>hQ J H1 ⟨xs,ok,G1,L1,M1,e1,r1,y,h1⟩;have up:∀{J},ok=(λ_=>True)->Yl X.K J xs G1 L1->Pc X.K J xs ok G1 L1:=λeo y=>by subst eo;exact ⟨λi G L M H d g l r _ e=>y.go i G L M H d g l r e,λi G L M H g l r _ e=>y.stop i G L M H g l r e⟩
  cases d with
  |loc k=>
   obtain ⟨a,vs,rfl,hs,sr,_⟩:=rz r1 n1 hi;cases rv;exact xD I1 hs (fin _ (Iq sr))
  |lst ds=>
   cases hi;obtain ⟨a,vs,rfl,e,m⟩:=n1;cases rv;exact xD I1 (vs:=vs) (.of (r1.sub _ _ e)) (fin _ (up rfl (CM (λG' g=> .of (g _ _ e)) m)))
  |iY ns=>
   cases hi;obtain ⟨a,rfl,e⟩:=n1;cases rv;exact xD I1 (r1.sub.seq e) (fin _ (up rfl (CM (λG' g=>g.seq e) iP)))
  |tup ds=>
   cases hi;obtain ⟨a,vs,rfl,e,m⟩:=n1;cases rv;exact Ke I1 (vs:=vs) (.of (r1.sub _ _ e)) (fin _ (up rfl (Ja (λG' g=> .of (g _ _ e)) m)))
  |kt ds=>
   cases hi;obtain ⟨a,vs,rfl,e,m⟩:=n1;cases rv;exact Ke I1 (r1.sub.SU e) (fin _ (up rfl (Ja (λG' g=>g.SU e) m)))
  |str z=>
   cases hi;cases n1;obtain ⟨t,rfl⟩:=rv;exact OL I1 (fin _ (up rfl OO))
  |_=>cases hi
def vT(g:Dt->En->(En->Prop)->Prop)(tb:DS)(Dn:k9)(ok:Ms->Prop):List Dt->En->Ms->Prop
 |[],ρ,M=>ok M/\Dn.nx ρ M
 |x::xs,ρ,M=>ok M/\g x ρ λρ'=>tb {Dn with nx:=vT g tb Dn ok xs,ct:=vT g tb Dn ok xs,bk:=Dn.nx} ρ' M
def vc(ti:DK)(g:Dt->En->(En->Prop)->Prop)(tb:DS):DS:=λDn ρ M=>ti ρ M (λxs ok M1=>vT g tb Dn ok xs ρ M1) Dn.x
section
variable{X:Cx}{R:St->XK}{tg iter:Expr}{body:List Stmt}{ti:DK}{gg:TG}{g:Dt->En->(En->Prop)->Prop}{tb:DS}{pos:Pos}
theorem dw(hi:JK X R tg iter ti)(hg:PG X tg gg)(gd:GD X.K gg g)(hb:Bg X R body tb)(hp:PassesOwn (model X.prog X.w) X.A X.env X.xe:=by first|exact PassesOwn.never|exact PassesOwn.leaving)(hc:X.calm=true:=by rfl)(hs:∀x,foldedSetIterable iter X.env x=pure x:=by intro _;rfl):
  JS X R (.For tg iter body [] pos) (vc ti g tb):= .of (Bw hp hc hi hg hb hs) λσ H G L ρ M Dn rl n h hx=>by
 refine ⟨G,L,ρ,M,_,_,rl,n,h,hx,λJ H1 ⟨xs,ok,G1,L1,M1,e1,r1,y,h1⟩=>?_⟩;refine ⟨λi m σ' H'=>m+i=xs.length/\eK X.K G1 L1 H1 (λρ' M'=>vT g tb Dn ok (xs.drop i) ρ' M') σ' H',⟨xs.length,rfl,ρ,G1,L1,M1,.refl _ _ _,r1,n.mono e1,by rw [aca];exact h1⟩,?_⟩;rintro i m σ' H' ⟨hm,ρ',G',L',M',e',r',n',h'⟩;by_cases hi:i<xs.length
 ·right;have hd:xs[i]? =some xs[i]:=aaa hi;rw [aa7 hi] at h';obtain ⟨ba,h'⟩:=h';obtain ⟨go,yl⟩:=y.go i G' L' M' H' _ e'.g e'.l r' ba hd;refine ⟨go,eK X.K G1 L1 H1 (λρ' M'=>vT g tb Dn ok (xs.drop (i+1)) ρ' M'),λσ2 H2 f=>⟨m-1,by omega,by omega,f⟩,λv H2 hy=>?_⟩;obtain ⟨G2,e2,r2,n2⟩:=yl v H2 hy;refine gd G2 L' M' H2 _ v ρ' σ' _ _ r2 n2 (n'.mono e2) h' λρ3 σ3 n3 h3=>?_;refine ⟨G2,L',ρ3,M',_,r2,n3,h3,hx.on (e1.trans (e'.trans e2)),⟨λ_ _ f=>eK.back (e'.trans e2) f,λ_ _ f=>Fin.back (e1.trans (e'.trans e2)) f,λ_ _ f=>eK.back (e1.trans (e'.trans e2)) f,λ_ _ f=>eK.back (e'.trans e2) f⟩⟩
 ·left;rw [abJ (by omega)] at h';exact ⟨y.stop i G' L' M' H' e'.g e'.l r' h'.1 (by omega),ρ',G',L',M',e1.trans e',r',n',h'.2⟩
end
def uK(te:DE)(cs:En)(ok:Ms->Prop):List Dt->List Dt->Ms->(List Dt->Ms->Prop)->Prop
 |[],Ι,M,k=>ok M/\k Ι M
 |x::xs,Ι,M,k=>ok M/\te (some x::cs) M (λd M1=>uK te cs ok xs (Ι++[d]) M1 k) k8
def oY(ti:DK)(te:DE)(ak:List Nat):DE:=λρ M q x=>ti ρ M (λxs ok M1=>xs.length<=sizeLine/\uK te (pV ak ρ) ok xs [] M1 (λys M2=>q (.lst ys) M2)) x
theorem wU{te:DE}{cs:En}{ok:Ms->Prop}:∀xs,uK te cs ok xs=iR (gN 0) sP te (none::cs) ok xs
 |[]=>rfl
 |x::xs=>funext λΙ=>funext λM=>funext λk=>by show (ok M/\te (some x::cs) M (λd M1=>uK te cs ok xs (Ι++[d]) M1 k) k8)=(ok M/\te (some x::cs) M (λd M1=>iR (gN 0) sP te (none::cs) ok xs (Ι++[d]) M1 k) k8);rw [wU xs]
section
variable{X:Cx}{R:St->XK}{elt iter:Expr}{x:Str}{px:Pos}{scope:Scope}{pos:Pos}{ti:DK}{te:DE}{ys:List Str}{ak:List Nat}
theorem fS(S:aF X scope [x] ys ak)(hi:JK X R (.Name x px) iter ti)(he:∀C s H fp,JE (Cx.comp X (x::ys) scope C s H fp) (λ_=>E0) elt te)(hc:X.calm=true:=by rfl)(hs:∀x,foldedSetIterable iter X.env x=pure x:=by intro _;rfl):JE X R (.ListComp elt [⟨.Name x px,iter,[],0⟩] scope pos) (oY ti te ak):=Tf false S hi (iI S (i:=0) rfl) aS (jr (Nat.zero_lt_succ 0)) (λ_ _ _ _=>pZ) he hc hs λρ M q x h=>by unfold oY at h;simp only [wU] at h;exact h
theorem jY{i:Nat}{y:Str}{py zi:Pos}(hN:X.N.Nodup)(R9:X.N[i]? =some y)(hy:Loc X.env.scope y)(S:aF X scope [x] ys ak)(hi:JK X R (.Name x px) iter ti)(he:∀C s H fp,JE (Cx.comp X (x::ys) scope C s H fp) (λ_=>E0) elt te)(hc:X.calm=true:=by rfl)(SW:swapsWith (.ListComp elt [⟨.Name x px,iter,[],0⟩] scope pos) (some (.Name y py)) zi.line X.env=pure true:=by rfl)(hs:∀x,foldedSetIterable iter X.env x=pure x:=by intro _;rfl)(hf:X.fn y=true\/X.env.scope.names.lookup y=some .local:=by first|exact .inl rfl|exact .inr rfl|assumption):JS X R (.Assign [.Name y py] (.ListComp elt [⟨.Name x px,iter,[],0⟩] scope pos) zi) (KY i (oY ti te ak)):=Z' false S hi (iI S (i:=0) rfl) aS (jr (Nat.zero_lt_succ 0)) (λ_ _ _ _=>pZ) he hc hs hN R9 hy SW hf λρ M q x h=>by unfold oY at h;simp only [wU] at h;exact h
end
theorem uW:∀{ns:List Int}{us:List Value},ay (ns.map V.int) us->∃ts:List (Int×Tok),us=ts.map (λp=>Value.int p.1 p.2)/\ts.map (·.1)=ns
 |[],_,h=>by cases h;exact ⟨[],rfl,rfl⟩
 |n::ns,_,h=>by
  cases h with
  |cons r t=>
   obtain ⟨tk,rfl⟩:=r;obtain ⟨ts,rfl,rfl⟩:=uW t;exact ⟨(n,tk)::ts,rfl,rfl⟩
def Tt(K:PySem.W.Frag):List V->Hp->VK->Prop:=λxs H Q=>∃(p:Addr) (ns:List Int),xs=[.ref p]/\gy K H p (ns.map V.int)/\Q (.int ns.sum) H
theorem Jc{X:Cx}(hc:X.calm=true):c8 X (.builtin "sum") (Tt X.K):=by
 intro ζ s σ H xs us Q I r h;obtain ⟨p,ns,rfl,hq,q⟩:=h;obtain ⟨u,rfl,r1⟩:=kF r;cases r1;obtain ⟨its,rv,pl,hz⟩:=I.list hq;obtain ⟨ts,rfl,rfl⟩:=uW rv;have e:(ts.map λp=>Value.int p.1 p.2).toArray=intItems ts.toArray:=by simp [intItems]
 have hl:=pl.isList;rw [e] at hl;refine sum_intListG (I.ok.hd hc) hl λh' tk t' hk=>?_;refine ⟨.int (ts.map (·.1)).sum,H,I.kept hk,⟨t',?_⟩,q⟩;rw [preSum_eq,List.take_of_length_le (by simp)]
def N8:List Dt->Ms->DQ->Prop
 |[d],M,q=>∃ns:List Int,jU M d=some (ns.map .int)/\(∃xs ok,k4 M d=some (xs,ok))/\q (.int ns.sum) M
 |_,_,_=>False
theorem qC{K:PySem.W.Frag}{G:Hp}{L:List Addr}:∀{ns:List Int}{vs:List V},Χ K G L (ns.map Dt.int) vs->vs=ns.map V.int
 |[],_,h=>h
 |_::_,_,⟨v,r,e,h1,h2⟩=>by have h1:v=_:=h1;rw [e,h1,qC h2];rfl
theorem mM{M:Ms}{d:Dt}{xs:List Dt}{ok:Ms->Prop}(h:k4 M d=some (xs,ok)):jU M d=some xs:=by
 cases d with
 |lst ds=>cases h;rfl
 |iY ns=>cases h;rfl
 |loc k=>
  have h:(match M[k]? with|some (.lst xs)=>some (xs,λM':Ms=>M'[k]? =some (.lst xs))|_=>none)=some (xs,ok):=h;show (match M[k]? with|some (.lst xs)=>some xs|_=>none)=some xs;split at h
  ·rename_i ys hm;cases h;rfl
  ·cases h
 |_=>cases h
theorem Xu{K:PySem.W.Frag}:BD K (Tt K) N8:=by
 intro G0 L0 H0 G L M H vs ds q e r n h;unfold N8 at h;split at h
 ·rename_i d;obtain ⟨v,rfl,n1⟩:=br n;obtain ⟨ns,hs,⟨xs,ok,hl⟩,hq⟩:=h;obtain ⟨a,us,rfl,sq,sr,ba⟩:=rz r n1 hl;rw [mM hl] at hs;cases hs;obtain ⟨ws,ZM,dn⟩:=sr.at_ G L M H (.refl _) (.refl _) r ba;rw [qC dn] at ZM;exact ⟨a,ns,rfl,ZM,.int ns.sum,G,L,M,e,r,rfl,hq⟩
 ·exact h.elim
theorem Fi:bootBuiltins "sum"=some (.builtin "sum"):=by decide+kernel
theorem Cc:bootBuiltins "enumerate"=some (.type "enumerate"):=by decide+kernel
section
variable{X:Cx}{R:St->XK}{e a b:Expr}{t:DA}{ta tb:DE}{p pos:Pos}
theorem NH(hm:X.mg "sum"=none)(ha:JA X R [e] t)(hc:X.calm=true:=by rfl)(hg:Gl X "sum":=by rfl)(he:starEach [e] X.env=(false,eval e X.env)::starEach [] X.env:=by rfl)(fJ:(backTo pos (starEach [] X.env)).any (·.1)=false:=by rfl):JE X R (.Call (.Name "sum" p) [e] [] pos) (Av N8 t):=
 fU (Jc hc) Xu hm Fi ha hg (by decide) (by decide) he fJ
def Rt:Dt->Dt->Ms->DQ->Prop:=λd e M q=>∃u xs us,ux d=some u/\jU M e=some xs/\gK xs=some us/\q (.bl (Oy u us)) M
def Dz:Dt->Dt->Ms->DQ->Prop:=λd e M q=>∃u xs us,ux d=some u/\jU M e=some xs/\gK xs=some us/\q (.bl (!Oy u us)) M
theorem WN{K:PySem.W.Frag}:n9 K (UA K false) Rt:=by intro G0 L0 H0 G L M H v1 v2 d1 d2 q e r n1 n2 ⟨u,xs,us,h1,h2,h3,hq⟩;obtain ⟨rfl,fu⟩:=j6 h1 n1;obtain ⟨a,vs,rfl,sq,dn⟩:=nB r n2 h2;obtain ⟨rfl,fs⟩:=e7 h3 dn;exact ⟨a,vs,rfl,sq,fu,fs,.bl _,G,L,M,e,r,rfl,hq⟩
theorem Ly{K:PySem.W.Frag}:n9 K (UA K true) Dz:=by intro G0 L0 H0 G L M H v1 v2 d1 d2 q e r n1 n2 ⟨u,xs,us,h1,h2,h3,hq⟩;obtain ⟨rfl,fu⟩:=j6 h1 n1;obtain ⟨a,vs,rfl,sq,dn⟩:=nB r n2 h2;obtain ⟨rfl,fs⟩:=e7 h3 dn;exact ⟨a,vs,rfl,sq,fu,fs,.bl _,G,L,M,e,r,rfl,hq⟩
theorem HP(ja:JE X R a ta)(jb:JE X R b tb)(hm:behindInMarks .In b=false:=by rfl):JT X R (.Compare a [.In] [b] pos) (om (kX Rt ta tb)):=jk FG WN ja jb hm
theorem uO(ja:JE X R a ta)(jb:JE X R b tb)(hm:behindInMarks .NotIn b=false:=by rfl):JT X R (.Compare a [.NotIn] [b] pos) (om (kX Dz ta tb)):=jk wB Ly ja jb hm
end
theorem Inv.uT{X:Cx}{ζ:List (Addr×Obj)}{σ:St}{H:Hp}{s:Shared}{h':Heap}{its:List Addr}{T:Addr}{o:HO}{t':Nat}(I:Inv X ζ σ H s)(k:∀b u,b∉its->s.heap.get? b=some u->h'.get? b=some u)(f:∀b∈its,rQ X ζ H b)(hT:s.heap.objs.size<=T)(new:bT X.prog X.w (upd H T o) h' T o):
  Inv X ζ σ (upd H T o) {s with heap:=h',toks:=t'}:=by
 have hn:=I.ba.fresh hT;have QX:∀b u,H b=some u->b∉its:=λb u e z=>by rw [(f b z).1] at e;cases e
 refine I.call (ch:=its) (g':=s.gens) (d':=s.drawn) (t':=t') ⟨λb u q _ _ hb=>k b u hb q,λb u q _ _ hb=>⟨u.slots,k b u hb q⟩,λb u q n _=>?_,λb u q hb=>⟨u,k b u hb q⟩,λb xs q=>?_,λb u xs q=>?_,λb ps q=>⟨#[],?_⟩⟩ (λb u e=>?_) I.bare λb hb=>?_
 ·rw [Θ (aaE (aap (Heap.lt_size q) hT))];exact n
 ·rw [Θ (bP q hn)];exact q
 ·rw [Θ (bP q hn)];exact q
 ·rw [Θ (bP q hn),q];simp
 ·by_cases hb:b=T
  ·subst hb;rw [Ω] at e;cases e;exact new
  ·rw [Θ hb] at e;refine (I.ba b u e).Ck (λc v hc q=>k c v ?_ q) (λc q=>by rw [Θ (bP q hn)];exact q) λc xs q=>by rw [Θ (bP q hn)];exact q
   rcases hc with z|z
   ·rw [z];exact QX b u e
   ·exact QX c _ z
 ·obtain ⟨f0,f1,f2,f3,f4,f5⟩:=f b hb;exact ⟨f3,f1,f4,f5⟩
def Zg(K:PySem.W.Frag)(l:Addr):It:=
 ⟨λi H=>∃xs x,gy K H l xs/\xs[i]? =some x,λi H v H'=>∃p x,H p=none/\v= .ref p/\H'=upd H p (.tup [.int i,x])/\∀xs,gy K H l xs->xs[i]? =some x,λi H=>∃xs,gy K H l xs/\xs.length<=i⟩
theorem Fw{P:Program}{w:World}{K:PySem.W.Frag}{elts:List Expr}{x1:Nat}{tp:Pos}(l it e:Addr)(kM:e≠it):Turn P w K (.Tuple elts x1 tp) (Zg K l) [e,it] e (λi h=>(∃old,IsEnum h e it i old)/\h.IsListIter it l i) where
 mem:=by simp
 obj:=λi h st b hb=>by
  obtain ⟨⟨old,he⟩,hi⟩:=st;rcases aay.mp hb with rfl|hb
  ·exact ⟨_,he,λv z=>by
    have z':Data.fields _=Data.cell v:=z
    cases z'⟩
  ·have e:b=it:=by simpa using hb
   subst e;obtain ⟨o,e,c,d⟩:=hi;exact ⟨o,e,λv z=>by rw [d] at z;cases z⟩
 keep:=λi h h' st k=>by obtain ⟨⟨old,he⟩,hi⟩:=st;exact ⟨⟨old,k e (by simp) _ he⟩,hi.at λo q=>k it (by simp) o q⟩
 item:=by
  intro X hP hw hK hc i ζ s σ H E I hf st hg;subst hP hw hK;obtain ⟨⟨old,he⟩,hi⟩:=st;obtain ⟨xs,x,hq,hx⟩:=hg;obtain ⟨its,rv,p,hz⟩:=I.list hq;obtain ⟨u,hu,ru⟩:=rv.get hx;refine wpAny_pyNext_enum_item he hi p.isList (x:=u) (by simpa using hu) kM λh' ho tj hT hsz hk=>?_;refine ⟨_,rfl,wpAny_letOwnedTupleGo_enum (s:={s with heap:=h',toks:=s.toks+1}) ho λh2 he2 sb=>?_⟩;have sb:Heap.SameBut e h' h2:=sb;have elt:e<s.heap.objs.size:=Heap.lt_size he;have ilt:it<s.heap.objs.size:=by obtain ⟨o,q,_⟩:=hi;exact Heap.lt_size q
  have neT:s.heap.objs.size≠e:=acb elt;have hT2:h2.get? s.heap.objs.size=some {cls:= .type "tuple",data:= .seq #[.int i s.toks,u]}:=(sb.2 _ neT).trans hT;have I2:Inv X ζ σ (upd H s.heap.objs.size (.tup [.int i,x])) {s with heap:=h2,toks:=s.toks+1}:=by
   refine I.uT (its:=[e,it]) (λb o hb q=>?_) hf (aah _) ?_
   ·have h1:b≠e:=λz=>hb (by simp [z]);have h3:b≠it:=λz=>hb (by simp [z]);exact (sb.2 b h1).trans (hk b o h1 h3 q)
   ·refine ⟨by simp [sizeLine_eq],[.int i s.toks,u],.cons ⟨_,rfl⟩ (.cons ru .nil),?_⟩;exact ⟨_,hT2,rfl,0,rfl⟩
  have iter:h2.IsListIter it l (i+1):=tj.at λo q=>(sb.2 it (Ne.symm kM)).trans q;refine ⟨.ref s.heap.objs.size,_,I2,rfl,⟨s.heap.objs.size,x,I.ba.fresh (Nat.le_refl _),rfl,rfl,λys hy=>by rw [I.gS hy hq];exact hx⟩,⟨⟨u,by simpa using he2⟩,iter⟩,λb hb=>?_⟩;have nb:b≠s.heap.objs.size:=by
   rcases aay.mp hb with rfl|hb
   ·exact aaE elt
   ·have:b=it:=by simpa using hb
    subst this;exact aaE ilt
  rw [Θ nb];exact (hf b hb).1
 done:=by intro X hP hw hK hc i ζ s σ H E I hf st hg;subst hP hw hK;obtain ⟨⟨old,he⟩,hi⟩:=st;obtain ⟨xs,hq,hx⟩:=hg;obtain ⟨its,rv,p,hz⟩:=I.list hq;have hl:=rv.length;obtain ⟨f0,f1,f2,f3,f4,f5⟩:=hf it (by simp);refine wpAny_pyNext_enum_end (I.ok.hd hc) he hi p.isList (by simp;omega) λh' ext=>⟨rfl,I.turned (t':=s.toks) (λb o hb q=>ext b o hb q) f0 f1 f3 f4 f5⟩
 self:=λ_ _ _ _ _ st h=>by obtain ⟨⟨old,he⟩,_⟩:=st;exact wpAny_pyIter_enum he h
def iO:Nat->List Dt->List Dt
 |_,[]=>[]
 |n,x::xs=> .tup [.int n,x]::iO (n+1) xs
theorem jo:∀(n:Nat) (xs:List Dt),(iO n xs).length=xs.length
 |_,[]=>rfl
 |n,_::xs=>by unfold iO;rw [List.length_cons,List.length_cons,jo]
theorem oq:∀{n i:Nat}{xs:List Dt}{d:Dt},(iO n xs)[i]? =some d->∃x,xs[i]? =some x/\d= .tup [.int ((n+i:Nat):Int),x]
 |n,i,[],d,h=>by simp [iO] at h
 |n,0,x::xs,d,h=>by unfold iO at h;simp at h;exact ⟨x,rfl,by rw [<-h];simp⟩
 |n,i+1,x::xs,d,h=>by unfold iO at h;obtain ⟨y,h1,h2⟩:=oq (n:=n+1) (i:=i) (xs:=xs) (d:=d) (by simpa using h);exact ⟨y,by simpa using h1,by rw [h2,show n+1+i=n+(i+1) by omega]⟩
theorem G_{K:PySem.W.Frag}{G:Hp}{L:List Addr}{a:Addr}{xs:List Dt}{ok:Ms->Prop}(s:Src K a xs ok G L):Pc K (Zg K a) (iO 0 xs) ok G L where
 go:=λi G1 L1 M1 H1 d g l r k e=>by obtain ⟨vs,hs,n⟩:=s.at_ G1 L1 M1 H1 g l r k;obtain ⟨y,ey,rfl⟩:=oq e;obtain ⟨v,e1,n1⟩:=n.get ey;refine ⟨⟨vs,v,hs,e1⟩,λv' H' ⟨p,x,hp,ev,eH,hx⟩=>?_⟩;subst ev eH;have e2:=hx vs hs;rw [e1] at e2;cases e2;refine ⟨_,r.QD hp,r.Lw hp,qj (ds:=[.int ((0+i:Nat):Int),y]) r hp ⟨_,_,rfl,?_,_,_,rfl,n1,rfl⟩⟩;show V.int i=V.int _;rw [Nat.zero_add]
 stop:=λi G1 L1 M1 H1 g l r k e=>by obtain ⟨vs,hs,n⟩:=s.at_ G1 L1 M1 H1 g l r k;exact ⟨vs,hs,by rw [<-n.length,<-jo 0];exact e⟩
def Sn(t:DA):DK:=λρ M q x=>t ρ M (λds M1=>∃d xs ok,ds=[d]/\k4 M1 d=some (xs,ok)/\q (iO 0 xs) ok M1) x
theorem xc{X:Cx}{R:St->XK}{elts:List Expr}{x1:Nat}{tp:Pos}{a:Expr}{t:DA}{p pos:Pos}(hm:X.mg "enumerate"=none)(ha:JA X R [a] t)(hg:Gl X "enumerate":=by rfl)(hs:starEach [a] X.env=[(false,eval a X.env)]:=by rfl):JK X R (.Tuple elts x1 tp) (.Call (.Name "enumerate" p) [a] [] pos) (Sn t):=by
 intro ζ s σ H Q I ⟨G,L,ρ,M,q,x,rl,n,ht,hx,hQ⟩;refine Call_ (mq I hg hm Cc (PyProof.Rows.callWith_type1 (bC (ha pos ζ s σ H (MW X.K G L H _) I ⟨G,L,ρ,M,_,x,rl,n,ht,hx,λ_ _ f=>f⟩) λus s1 ⟨vs,H1,I1,rv,ds,G1,L1,M1,e1,r1,n1,d,xs,ok,ed,hl,h1⟩=>?_) hs rfl));subst ed;obtain ⟨v,rfl,n2⟩:=br n1;obtain ⟨b,ws,rfl,sq,sr,_⟩:=rz r1 n2 hl;obtain ⟨u,rfl,ru⟩:=ay.one rv;cases ru;obtain ⟨its,_,pl,_⟩:=I1.list sq;refine call_enumerate_list pl.isList λh' he hi hz hk=>?_;have I2:Inv X ζ σ H1 {s1 with heap:=h'}:=I1.kept (t':=s1.toks) hk;refine wpAny_pyIter_enum (s:={s1 with heap:=h'}) he ⟨s1.heap.objs.size+1,[s1.heap.objs.size+1,s1.heap.objs.size],_,_,H1,rfl,I2,Fw b s1.heap.objs.size (s1.heap.objs.size+1) (acb (aa8 _)),⟨⟨_,he⟩,hi⟩,λc hc=>?_,hQ _ _ ⟨_,ok,G1,L1,M1,e1,r1,G_ sr,h1⟩⟩;have hc:s1.heap.objs.size<=c:=by
  rcases aay.mp hc with rfl|hc
  ·exact Nat.le_succ _
  ·have:c=s1.heap.objs.size:=by simpa using hc
   rw [this];exact aah _
 have f:=I1.BB (H':=H1) hc (I1.ba.fresh hc);exact f
def CU(M:Ms):Dt->Option Value
 |.loc k=>match M[k]? with
  |some (.lst _)=>some (.type "list")
  |_=>none
 |d=>NC d
def NS(K:PySem.W.Frag):List Dt->Ms->DQ->Prop:=λds M q=>∃d c t t' b,ds=[d,c]/\CU M d=some t/\R8 c=some t'/\PySem.W.kitOne K t t'=some b/\q (.bl b) M
section
variable{K:PySem.W.Frag}
theorem B2{G:Hp}{L:List Addr}{M:Ms}{H:Hp}{d:Dt}{v:V}{t:Value}(r:Rl K G L M H)(n:Den K G L d v)(h:CU M d=some t):kT K H v t:=by
 by_cases hd:∃k,d= .loc k
 ·obtain ⟨k,rfl⟩:=hd;obtain ⟨a,rfl,e⟩:=n;have h:(match M[k]? with|some (.lst _)=>some (Value.type "list")|_=>none)=some t:=h;split at h
  ·rename_i xs hm;cases h;obtain ⟨_,vs,e1,_⟩:=r.fN k a _ e hm;exact .lst e1
  ·cases h
 ·refine Ga r n ?_;cases d with
  |loc k=>exact absurd ⟨k,rfl⟩ hd
  |_=>exact h
theorem T9:BD K (λxs H Q=>∃x c t t' b,xs=[x,c]/\kT K H x t/\LA c=some t'/\PySem.W.kitOne K t t'=some b/\Q (.bl b) H) (NS K):=by intro G0 L0 H0 G L M H vs ds q e r n ⟨d,c,t,t',b,ed,h1,h2,hb,h⟩;subst ed;obtain ⟨v,u,rfl,n1,n2⟩:=fA n;exact ⟨v,u,t,t',b,rfl,B2 r n1 h1,L8 n2 h2,hb,bA e r h⟩
end
section
variable{X:Cx}{R:St->XK}{e e2:Expr}{t:DA}{p pos:Pos}
theorem wx(K:PySem.W.Frag)(hm:X.mg "isinstance"=none)(ha:JA X R [e,e2] t)(he:starEach [e,e2] X.env=(false,eval e X.env)::starEach [e2] X.env:=by rfl)(fJ:(backTo pos (starEach [e2] X.env)).any (·.1)=false:=by rfl)(hg:Gl X "isinstance":=by rfl)(hK:X.K=K:=by rfl):JE X R (.Call (.Name "isinstance" p) [e,e2] [] pos) (Av (NS K) t):=by subst hK;exact fU y3 T9 hm oI ha hg (by decide) (by decide) he fJ
theorem ve:∀{zs:List Str}{us:List Value},Paired (λ(z:Str) (u:Value)=>∃tk,u= .str z tk) zs us->ay (zs.map V.str) us
 |_,_,.nil=> .nil
 |_,_,.cons h t=> .cons h (ve t)
theorem GZ{x:Str}{zs:List Str}(hm:∃a o its n,X.mg x=some (.ref a)/\X.K.lookup a=some o/\o.cls= .type "tuple"/\o.data= .seq its n/\its.size<=sizeLine/\Paired (λ(z:Str) (u:Value)=>∃tk,u= .str z tk) zs its.toList)(hg:Gl X x:=by rfl)(hd:(x==("__debug__":Str))=false:=by decide):JE X R (.Name x pos) (dC (.kt (zs.map .str))):=by obtain ⟨a,o,its,n,h1,h2,h3,h4,h5,h6⟩:=hm;exact OK (v:= .ref a) (CV hg h1 rfl hd) λG L=>⟨a,zs.map V.str,rfl,.inr ⟨o,its,n,h2,h3,h4,h5,ve h6⟩,uZ⟩
end
theorem gu{te:DE}{cs:En}{ok:Ms->Prop}{f:Dt->Dt}:∀{xs Ι:List Dt}{M:Ms}{k:List Dt->Ms->Prop},ok M->(∀x∈xs,∀q:DQ,q (f x) M->te (some x::cs) M q k8)->k (Ι++xs.map f) M->uK te cs ok xs Ι M k
 |[],Ι,M,k,ho,_,h=>⟨ho,by simpa using h⟩
 |x::xs,Ι,M,k,ho,hf,h=>⟨ho,hf x List.mem_cons_self _ (gu ho (λy hy=>hf y (List.mem_cons_of_mem _ hy)) (by simpa using h))⟩
theorem bZ{g:Dt->En->(En->Prop)->Prop}{tb:DS}{Dn:k9}{ok:Ms->Prop}(J:List Dt->En->Ms->Prop)(ba:∀xs ρ M,J xs ρ M->ok M)
  (step:∀x xs ρ M,J (x::xs) ρ M->(∀ρ M,J xs ρ M->vT g tb Dn ok xs ρ M)->g x ρ λρ'=>tb {Dn with nx:=vT g tb Dn ok xs,ct:=vT g tb Dn ok xs,bk:=Dn.nx} ρ' M)
  (fin:∀ρ M,J [] ρ M->Dn.nx ρ M):∀(xs:List Dt) (ρ:En) (M:Ms),J xs ρ M->vT g tb Dn ok xs ρ M
 |[],ρ,M,h=>⟨ba _ _ _ h,fin _ _ h⟩
 |x::xs,ρ,M,h=>⟨ba _ _ _ h,step x xs ρ M h λρ' M' h'=>bZ J ba step fin xs ρ' M' h'⟩
section
variable{K:PySem.W.Frag}{G:Hp}{L:List Addr}
mutual
theorem PM:∀(d:Dt) (v:V),Den K G L d v->d.under L.length
 |.bq,_,_=>trivial
 |.bl _,_,_=>trivial
 |.int _,_,_=>trivial
 |.str _,_,_=>trivial
 |.tup ds,_,⟨a,vs,e,h1,h2⟩=>fe ds vs h2
 |.lst ds,_,⟨a,vs,e,h1,h2⟩=>fe ds vs h2
 |.obj C ns ds,_,⟨a,dx,vs,e,h1,hl,h2⟩=>fe ds vs h2
 |.loc k,_,⟨a,e,h1⟩=>(aaf.mp h1).1
 |.ref _,_,_=>trivial
 |.ty _,_,_=>trivial
 |.iY _,_,_=>trivial
 |.kt ds,_,⟨a,vs,e,h1,h2⟩=>fe ds vs h2
 |.exc _ _ ds,_,⟨a,od,vs,e,h1,h2,h3,h4⟩=>fe ds vs h4
 |.RV _ _ _ _ ds,_,⟨vs,e,h2,h3,h4⟩=>fe ds vs h4
theorem fe:∀(ds:List Dt) (vs:List V),Χ K G L ds vs->Dt.bF L.length ds
 |[],_,_=>trivial
 |d::ds,_,⟨v,r,e,h1,h2⟩=>⟨PM d v h1,fe ds r h2⟩
end
theorem Rl.un{M:Ms}{H:Hp}(r:Rl K G L M H):∀m∈M,MO.under M.length m:=λm hm=>by
 obtain ⟨k,hk,e⟩:=aaX hm;have em:M[k]? =some m:=by rw [aaa hk,e]
 have el:L[k]? =some (L[k]'(by rw [r.len];exact hk)):=aaa _;obtain ⟨_,q⟩:=r.fN k _ m el em;rw [<-r.len];cases m with
 |lst ds=>obtain ⟨vs,_,h⟩:=q;exact fe _ _ h
 |ins C ns ds=>obtain ⟨dx,vs,_,_,h⟩:=q;exact fe _ _ h
 |ef ks ds=>obtain ⟨vs,_,_,h⟩:=q;exact fe _ _ h
 |raw u=>trivial
end
def rP(M0:Ms)(q:DQ):DQ:=λd M=>∃E d',M=M0++E/\Gy M0.length E d d'/\q d' M0
theorem Fin.rP{K:PySem.W.Frag}{G0:Hp}{L0:List Addr}{M0:Ms}{H0:Hp}{q:DQ}{v:V}{H:Hp}(r0:Rl K G0 L0 M0 H0)(f:Fin K G0 L0 H0 (rP M0 q) v H):Fin K G0 L0 H0 q v H:=by obtain ⟨d,G,L,M,ex,r,dn,E,d',e,fz,hq⟩:=f;exact Fin.xX r0 ⟨d,G,L,M,ex,r,dn,M0,E,d',e,rfl,r0.un,fz,hq⟩
def Tw(t:DE):DE:=λρ M q x=>t ρ M (rP M q) x
theorem cc{X:Cx}{R:St->XK}{e:Expr}{t:DE}(h:JE X R e t):JE X R e (Tw t):= .of h λσ H G L ρ M q x rl n ht hx=>⟨G,L,ρ,M,_,x,rl,n,ht,hx,λv H1 f=>Fin.rP rl f⟩
theorem Lj{M0:Ms}{q:DQ}{d:Dt}(hu:d.under M0.length)(h:q d M0):rP M0 q d M0:=⟨[],d,by simp,.old hu,h⟩
theorem j3{M0 E:Ms}{q:DQ}{d d':Dt}(f:Gy M0.length E d d')(h:q d' M0):rP M0 q d (M0++E):=⟨E,d',rfl,f,h⟩
def fW(f:Expr->Option Dt):List Expr->Option (List Dt)
 |[]=>some []
 |e::es=>match f e,fW f es with
  |some d,some ds=>some (d::ds)
  |_,_=>none
def gU:Nat->Expr->Option Dt
 |0,e=>match e with
  |.Constant (.int i) _ _=>some (.int i)
  |.Constant (.str x) _ _=>some (.str x)
  |_=>none
 |n+1,e=>match e with
  |.Constant (.int i) _ _=>some (.int i)
  |.Constant (.str x) _ _=>some (.str x)
  |.Tuple es _ _=>if es.length<=100 then (fW (gU n) es).map .tup else none
  |.List es _=>if es.length<=100 then (fW (gU n) es).map .lst else none
  |_=>none
theorem BK{n:Nat}{e:Expr}{d:Dt}{es:List Expr}{env:Env}(h:gU n e=some d):starEach (e::es) env=(false,eval e env)::starEach es env:=by cases n <;> (unfold gU at h;split at h <;> first|rfl|cases h)
theorem j_{f:Expr->Option Dt}:∀{es:List Expr}{ds:List Dt},fW f es=some ds->ds.length=es.length
 |[],ds,h=>by cases h;rfl
 |e::es,ds,h=>by
  unfold fW at h;split at h
  ·rename_i d mS h1 h2;cases h;rw [aau,aau,j_ h2]
  ·cases h
section
variable{X:Cx}{R:St->XK}
theorem rT{n:Nat}(ih:∀(e:Expr) (d:Dt),gU n e=some d->JE X R e (dC d)):∀(es:List Expr) (ds:List Dt),fW (gU n) es=some ds->JA X R es (λ_ M q _=>q ds M)
 |[],ds,h=>by cases h;exact η
 |e::es,ds,h=>by
  unfold fW at h;split at h
  ·rename_i d mS h1 h2;cases h;exact ι (ih e d h1) (rT ih es mS h2) (hs:=BK h1)
  ·cases h
theorem Dj{n:Nat}(h:n<=100):n<=sizeLine:=aaq h (by decide)
theorem JE.imp{e:Expr}{t t':DE}(h:JE X R e t)(hi:∀ρ M q x,t' ρ M q x->t ρ M q x):JE X R e t':= .of h λσ H G L ρ M q x rl n ht hx=>⟨G,L,ρ,M,q,x,rl,n,hi _ _ _ _ ht,hx,λ_ _ f=>f⟩
theorem eE:∀(n:Nat) {e:Expr}{d:Dt},gU n e=some d->JE X R e (dC d)
 |0,e,d,h=>by
  unfold gU at h;split at h
  ·cases h;exact χ
  ·cases h;exact jx
  ·cases h
 |n +1,e,d,h=>by
  unfold gU at h;split at h
  ·cases h;exact χ
  ·cases h;exact jx
  ·split at h
   ·rename_i es _ _ hl;cases hc:fW (gU n) es with
    |none=>rw [hc] at h;cases h
    |some ds=>
     rw [hc] at h;cases h;exact (fv (rT (λe d=>eE n) es ds hc)).imp λρ M q x hq=>⟨Dj (by rw [j_ hc];exact hl),hq⟩
   ·cases h
  ·split at h
   ·rename_i es _ hl;cases hc:fW (gU n) es with
    |none=>rw [hc] at h;cases h
    |some ds=>
     rw [hc] at h;cases h;exact (lq (rT (λe d=>eE n) es ds hc)).imp λρ M q x hq=>⟨Dj (by rw [j_ hc];exact hl),hq⟩
   ·cases h
  ·cases h
end
theorem Fy:bootBuiltins "zip"=some (.type "zip"):=by decide+kernel
theorem Inv.Mj{X:Cx}{ζ:List (Addr×Obj)}{σ:St}{H:Hp}{s:Shared}{h':Heap}{its:List Addr}{t':Nat}(I:Inv X ζ σ H s)(k:∀b u,b∉its->s.heap.get? b=some u->h'.get? b=some u)(f:∀b∈its,rQ X ζ H b):
  Inv X ζ σ H {s with heap:=h',toks:=t'}:=by
 have QX:∀b u,H b=some u->b∉its:=λb u e z=>by rw [(f b z).1] at e;cases e
 refine I.call (ch:=its) (g':=s.gens) (d':=s.drawn) (t':=t') ⟨λb u q _ _ hb=>k b u hb q,λb u q _ _ hb=>⟨u.slots,k b u hb q⟩,λb u q n _=>n,λb u q hb=>⟨u,k b u hb q⟩,λb xs q=>q,λb u xs q=>q,λb ps q=>⟨#[],by rw [q];simp⟩⟩ (λb u e=>?_) I.bare λb hb=>?_
 ·refine (I.ba b u e).Ck (λc v hc q=>k c v ?_ q) (λc q=>q) λc xs q=>q;rcases hc with z|z
  ·rw [z];exact QX b u e
  ·exact QX c _ z
 ·obtain ⟨f0,f1,f2,f3,f4,f5⟩:=f b hb;exact ⟨f3,f1,f4,f5⟩
def ZY(K:PySem.W.Frag)(l1 l2:Addr):It:=
 ⟨λi H=>∃xs ys x y,gy K H l1 xs/\gy K H l2 ys/\xs[i]? =some x/\ys[i]? =some y,
  λi H v H'=>∃p x y,H p=none/\v= .ref p/\H'=upd H p (.tup [x,y])/\(∀xs,gy K H l1 xs->xs[i]? =some x)/\∀ys,gy K H l2 ys->ys[i]? =some y,
  λi H=>∃xs ys,gy K H l1 xs/\gy K H l2 ys/\(xs.length<=i\/ys.length<=i)⟩
theorem JN{P:Program}{w:World}{K:PySem.W.Frag}{elts:List Expr}{x1:Nat}{tp:Pos}{l1 l2 i1 i2 TI TO z:Addr}(D:ZipApart z TI TO i1 i2 l1 l2):Turn P w K (.Tuple elts x1 tp) (ZY K l1 l2) [z,TI,TO,i1,i2] z (λi h=>(∃a b,IsZip h z TI TO .none/\IsPair h TI (.ref i1) (.ref i2)/\IsPair h TO a b)/\h.IsListIter i1 l1 i/\h.IsListIter i2 l2 i) where
 mem:=by simp
 obj:=λi h st b hb=>by
  obtain ⟨⟨a,c,hz,H_,Ks⟩,h1,h2⟩:=st;simp only [List.mem_cons,List.not_mem_nil,or_false] at hb;rcases hb with rfl|rfl|rfl|rfl|rfl
  ·exact ⟨_,hz,λv z=>by
    have z':Data.fields _=Data.cell v:=z
    cases z'⟩
  ·exact ⟨_,H_,λv z=>by
    have z':Data.seq _=Data.cell v:=z
    cases z'⟩
  ·exact ⟨_,Ks,λv z=>by
    have z':Data.seq _=Data.cell v:=z
    cases z'⟩
  ·obtain ⟨o,e,c,d⟩:=h1;exact ⟨o,e,λv z=>by rw [d] at z;cases z⟩
  ·obtain ⟨o,e,c,d⟩:=h2;exact ⟨o,e,λv z=>by rw [d] at z;cases z⟩
 keep:=λi h h' st k=>by obtain ⟨⟨a,c,hz,H_,Ks⟩,h1,h2⟩:=st;exact ⟨⟨a,c,k z (by simp) _ hz,k TI (by simp) _ H_,k TO (by simp) _ Ks⟩,h1.at λo q=>k i1 (by simp) o q,h2.at λo q=>k i2 (by simp) o q⟩
 item:=by
  intro X hP hw hK hc i ζ s σ H E I hf st hg;subst hP hw hK;obtain ⟨⟨a,c,hz,H_,Ks⟩,h1,h2⟩:=st;obtain ⟨xs,ys,x,y,Mq,Kn,hx,hy⟩:=hg;obtain ⟨U7,VN,p1,_⟩:=I.list Mq;obtain ⟨u1,hu1,ru1⟩:=VN.get hx;obtain ⟨Ik,Wz,p2,_⟩:=I.list Kn;obtain ⟨u2,hu2,ru2⟩:=Wz.get hy;refine wpAny_pyNext_zip_item D hz H_ Ks h1 h2 p1.isList p2.isList (x:=u1) (y:=u2) (by simpa using hu1) (by simpa using hu2) λh' hz' Yg U3 h2' hT hsz hk=>?_;refine ⟨_,rfl,wpAny_letOwnedTupleGo_zip (s:={s with heap:=h'}) hz' λh3 hz3 sb=>?_⟩;have sb:Heap.SameBut z h' h3:=sb;have YL:z<s.heap.objs.size:=Heap.lt_size hz;have neT:s.heap.objs.size≠z:=acb YL;have hT3:h3.get? s.heap.objs.size=some {cls:= .type "tuple",data:= .seq #[u1,u2]}:=(sb.2 _ neT).trans hT;have lt:∀b∈[z,TI,TO,i1,i2],b<s.heap.objs.size:=λb hb=>by
   simp only [List.mem_cons,List.not_mem_nil,or_false] at hb;rcases hb with rfl|rfl|rfl|rfl|rfl
   ·exact YL
   ·exact Heap.lt_size H_
   ·exact Heap.lt_size Ks
   ·obtain ⟨o,q,_⟩:=h1;exact Heap.lt_size q
   ·obtain ⟨o,q,_⟩:=h2;exact Heap.lt_size q
  have I2:Inv X ζ σ (upd H s.heap.objs.size (.tup [x,y])) {s with heap:=h3,toks:=s.toks}:=by
   refine I.uT (its:=[z,TI,TO,i1,i2]) (λb o hb q=>?_) hf (aah _) ?_
   ·simp only [List.mem_cons,List.not_mem_nil,or_false,not_or] at hb;obtain ⟨b1,b2,b3,b4,b5⟩:=hb;exact (sb.2 b b1).trans (hk b o b1 b3 b4 b5 q)
   ·refine ⟨by simp [sizeLine_eq],[u1,u2],.cons ru1 (.cons ru2 .nil),?_⟩;exact ⟨_,hT3,rfl,0,rfl⟩
  refine ⟨.ref s.heap.objs.size,_,I2,rfl,⟨s.heap.objs.size,x,y,I.ba.fresh (aah _),rfl,rfl,λzs X7=>by rw [I.gS X7 Mq];exact hx,λzs X7=>by rw [I.gS X7 Kn];exact hy⟩,⟨⟨u1,u2,hz3,(sb.2 _ D.TIz).trans (hk _ _ D.TIz D.TITO D.TIi1 D.TIi2 H_),(sb.2 _ D.TOz).trans Yg⟩,U3.at λo q=>(sb.2 i1 D.i1z).trans q,h2'.at λo q=>(sb.2 i2 D.i2z).trans q⟩,λb hb=>?_⟩;rw [Θ (aaE (lt b hb))];exact (hf b hb).1
 done:=by intro X hP hw hK hc i ζ s σ H E I hf st hg;subst hP hw hK;obtain ⟨⟨a,c,hz,H_,Ks⟩,h1,h2⟩:=st;obtain ⟨xs,ys,Mq,Kn,hx⟩:=hg;obtain ⟨U7,VN,p1,_⟩:=I.list Mq;obtain ⟨Ik,Wz,p2,_⟩:=I.list Kn;have Xl:=VN.length;have E9:=Wz.length;refine wpAny_pyNext_zip_end (I.ok.hd hc) D hz H_ Ks h1 h2 p1.isList p2.isList (by rcases hx with hx|hx;(left;simp;omega);(right;simp;omega)) λh' ext=>⟨rfl,I.Mj (t':=s.toks) (its:=[z,TI,TO,i1,i2]) (λb o hb q=>?_) hf⟩;simp only [List.mem_cons,List.not_mem_nil,or_false,not_or] at hb;obtain ⟨b1,b2,b3,b4,b5⟩:=hb;exact ext b o b1 b3 b4 b5 q
 self:=λ_ _ _ _ _ st h=>by obtain ⟨⟨a,c,hz,_,_⟩,_⟩:=st;exact wpAny_pyIter_zip hz h
def pU(xs ys:List Dt):List Dt:=(xs.zip ys).map λp=> .tup [p.1,p.2]
theorem Ih{xs ys:List Dt}{i:Nat}{d:Dt}(h:(pU xs ys)[i]? =some d):∃x y,xs[i]? =some x/\ys[i]? =some y/\d= .tup [x,y]:=by
 unfold pU at h;rw [aam] at h;cases e:(xs.zip ys)[i]? with
 |none=>rw [e] at h;cases h
 |some p=>
  rw [e] at h;cases h;obtain ⟨h1,h2⟩:=List.getElem?_zip_eq_some.mp e;exact ⟨p.1,p.2,h1,h2,rfl⟩
theorem yC(xs ys:List Dt):(pU xs ys).length=min xs.length ys.length:=by unfold pU;rw [List.length_map,List.length_zip]
theorem Mf{K:PySem.W.Frag}{G:Hp}{L:List Addr}{a b:Addr}{xs ys:List Dt}{ok Kz:Ms->Prop}(s:Src K a xs ok G L)(s':Src K b ys Kz G L):Pc K (ZY K a b) (pU xs ys) (λM=>ok M/\Kz M) G L where
 go:=λi G1 L1 M1 H1 d g l r k e=>by obtain ⟨vs,hs,n⟩:=s.at_ G1 L1 M1 H1 g l r k.1;obtain ⟨UJ,Us,n'⟩:=s'.at_ G1 L1 M1 H1 g l r k.2;obtain ⟨x,y,ex,ey,rfl⟩:=Ih e;obtain ⟨v,e1,n1⟩:=n.get ex;obtain ⟨v',YQ,n1'⟩:=n'.get ey;refine ⟨⟨vs,UJ,v,v',hs,Us,e1,YQ⟩,λw H' ⟨p,x2,y2,hp,ev,eH,hx,hy⟩=>?_⟩;subst ev eH;have e2:=hx vs hs;rw [e1] at e2;cases e2;have e3:=hy UJ Us;rw [YQ] at e3;cases e3;exact ⟨_,r.QD hp,r.Lw hp,qj (ds:=[x,y]) r hp ⟨_,_,rfl,n1,_,_,rfl,n1',rfl⟩⟩
 stop:=λi G1 L1 M1 H1 g l r k e=>by obtain ⟨vs,hs,n⟩:=s.at_ G1 L1 M1 H1 g l r k.1;obtain ⟨UJ,Us,n'⟩:=s'.at_ G1 L1 M1 H1 g l r k.2;refine ⟨vs,UJ,hs,Us,?_⟩;rw [<-n.length,<-n'.length];rw [yC] at e;omega
def V3(t:DA):DK:=λρ M q x=>t ρ M (λds M1=>∃d d' xs ys ok Kz,ds=[d,d']/\k4 M1 d=some (xs,ok)/\k4 M1 d'=some (ys,Kz)/\q (pU xs ys) (λM=>ok M/\Kz M) M1) x
theorem Bm{X:Cx}{R:St->XK}{elts:List Expr}{x1:Nat}{tp:Pos}{a a':Expr}{t:DA}{p pos:Pos}(hm:X.mg "zip"=none)(ha:JA X R [a,a'] t)(hg:Gl X "zip":=by rfl)(hs:starEach [a,a'] X.env=(false,eval a X.env)::starEach [a'] X.env:=by rfl)(fJ:(backTo pos (starEach [a'] X.env)).any (·.1)=false:=by rfl):JK X R (.Tuple elts x1 tp) (.Call (.Name "zip" p) [a,a'] [] pos) (V3 t):=by
 intro ζ s σ H Q I ⟨G,L,ρ,M,q,x,rl,n,ht,hx,hQ⟩;refine Call_ (mq I hg hm Fy (PyProof.Rows.callWith_type1 (bC (ha pos ζ s σ H (MW X.K G L H _) I ⟨G,L,ρ,M,_,x,rl,n,ht,hx,λ_ _ f=>f⟩) λus s1 ⟨vs,H1,I1,rv,ds,G1,L1,M1,e1,r1,n1,d,d',xs,ys,ok,Kz,ed,hl,X3,h1⟩=>?_) hs fJ));subst ed;obtain ⟨v,v',rfl,n2,n2'⟩:=fA n1;obtain ⟨b,ws,rfl,sq,sr,_⟩:=rz r1 n2 hl;obtain ⟨b',ws',rfl,sq',sr',_⟩:=rz r1 n2' X3;cases rv with
 |cons ru rv=>
  cases rv with
  |cons ru' rv=>
   cases rv;cases ru;cases ru';obtain ⟨its,_,pl,_⟩:=I1.list sq;obtain ⟨its',_,xT,_⟩:=I1.list sq';have lt1:b<s1.heap.objs.size:=by obtain ⟨o,q,_⟩:=pl.isList;exact Heap.lt_size q
   have lt2:b'<s1.heap.objs.size:=by obtain ⟨o,q,_⟩:=xT.isList;exact Heap.lt_size q
   refine call_zip_2 pl.isList xT.isList λh' hz H_ Ks hi tj hsz hk=>?_;have I2:Inv X ζ σ H1 {s1 with heap:=h'}:=I1.kept (t':=s1.toks) hk;have D:ZipApart (s1.heap.objs.size+4) (s1.heap.objs.size+2) (s1.heap.objs.size+3) s1.heap.objs.size (s1.heap.objs.size+1) b b':=by have ne:∀i j:Nat,i≠j->s1.heap.objs.size+i≠s1.heap.objs.size+j:=λi j h z=>h (Nat.add_left_cancel z);have n1:∀i:Nat,b≠s1.heap.objs.size+i:=λi=>aaE (aap lt1 (aby _ _));have n2:∀i:Nat,b'≠s1.heap.objs.size+i:=λi=>aaE (aap lt2 (aby _ _));exact ⟨ne 2 4 (by decide),ne 3 4 (by decide),ne 0 4 (by decide),ne 1 4 (by decide),ne 2 3 (by decide),ne 2 0 (by decide),ne 2 1 (by decide),ne 3 0 (by decide),ne 3 1 (by decide),ne 0 1 (by decide),n1 4,n1 3,n1 0,n1 1,n2 4,n2 3,n2 0,n2 1⟩
   refine wpAny_pyIter_zip (s:={s1 with heap:=h'}) hz ⟨s1.heap.objs.size+4,[s1.heap.objs.size+4,s1.heap.objs.size+2,s1.heap.objs.size+3,s1.heap.objs.size,s1.heap.objs.size+1],_,_,H1,rfl,I2,JN D,⟨⟨_,_,hz,H_,Ks⟩,hi,tj⟩,λc hc=>?_,hQ _ _ ⟨_,_,G1,L1,M1,e1,r1,Mf sr sr',h1⟩⟩;have hc:s1.heap.objs.size<=c:=by
    simp only [List.mem_cons,List.not_mem_nil,or_false] at hc;rcases hc with rfl|rfl|rfl|rfl|rfl
    ·exact aby _ _
    ·exact aby _ _
    ·exact aby _ _
    ·exact aah _
    ·exact aby _ _
   have f:=I1.BB (H':=H1) hc (I1.ba.fresh hc);exact f
section
variable{X:Cx}{R:St->XK}{elt iter c:Expr}{x y:Str}{px py tp:Pos}{scope:Scope}{pos:Pos}{ti:DK}{tc:DT}{te:DE}{ys:List Str}{ak:List Nat}{kk:Nat}
theorem JO(S:aF X scope [x] ys ak)(hi:JK X R (.Name x px) iter ti)(ht:∀C s H fp,JT (Cx.comp X (x::ys) scope C s H fp) (λ_=>E0) c tc)(he:∀C s H fp,JE (Cx.comp X (x::ys) scope C s H fp) (λ_=>E0) elt te)(hc:X.calm=true:=by rfl)(hs:∀x,foldedSetIterable iter X.env x=pure x:=by intro _;rfl):JE X R (.ListComp elt [⟨.Name x px,iter,[c],0⟩] scope pos) (Bh 1 ti (gN 0) tc te ak):=Tf false S hi (iI S (i:=0) rfl) aS (jr (Nat.zero_lt_succ 0)) (λC s H fp=>D8 (ht C s H fp)) he hc hs λ_ _ _ _ h=>h
theorem Iv(S:aF X scope [x,y] ys ak)(hi:JK X R (.Tuple [.Name x px, .Name y py] kk tp) iter ti)(ht:∀C s H fp,JT (Cx.comp X (x::y::ys) scope C s H fp) (λ_=>E0) c tc)(he:∀C s H fp,JE (Cx.comp X (x::y::ys) scope C s H fp) (λ_=>E0) elt te)(hc:X.calm=true:=by rfl)(hs:∀x,foldedSetIterable iter X.env x=pure x:=by intro _;rfl):JE X R (.ListComp elt [⟨.Tuple [.Name x px, .Name y py] kk tp,iter,[c],0⟩] scope pos) (Bh 2 ti (g2 0 1) tc te ak):=Tf false S hi (DN hc S) oi (u7 (Nat.zero_lt_succ 1) (aa8 1)) (λC s H fp=>D8 (ht C s H fp)) he hc hs λ_ _ _ _ h=>h
end
theorem gh{g:Dt->En->(En->Prop)->Prop}{tc:DT}{te:DE}{ρ0:En}{ok:Ms->Prop}{M:Ms}{k:List Dt->Ms->Prop}(ho:ok M)(b:Dt->Bool)(f:Dt->Dt):∀(xs Ι:List Dt),(∀x∈xs,∀(q:DQ) (p:Ms->Prop),(b x=true->q (f x) M)->(b x=false->p M)->g x ρ0 λρ'=>tc ρ' M (λb' M1=>match b' with|true=>te ρ' M1 q k8|false=>p M1) k8)->
  k (Ι++(xs.filter b).map f) M->iR g tc te ρ0 ok xs Ι M k
 |[],Ι,_,h=>⟨ho,by simpa using h⟩
 |x::xs,Ι,ht,h=>⟨ho,ht x List.mem_cons_self _ _ (λhb=>gh ho b f xs _ (λy hy=>ht y (List.mem_cons_of_mem _ hy)) (by simpa [hb] using h)) λhb=>gh ho b f xs _ (λy hy=>ht y (List.mem_cons_of_mem _ hy)) (by simpa [hb] using h)⟩
theorem Gf(xs:List V)(k:Nat):tT xs (some (k:Int)) none=xs.drop k:=by
 unfold tT;rw [HT.p_,HT.zI];by_cases h:k<=xs.length
 ·rw [ab3 h,abw (by rw [abp];omega)]
 ·rw [Nat.min_eq_right (by omega),List.drop_eq_nil_of_le (Nat.le_refl _),List.drop_eq_nil_of_le (by omega)];simp
section
variable{κ:Type} [DecidableEq κ]
def jK(Ο:List (κ×V))(k:κ):Option V:=(Ο.find? λkv=>decide (kv.1=k)).map (·.2)
def iA(Ο:List (κ×V))(k:κ)(v:V):List (κ×V):=
 if (Ο.any λkv=>decide (kv.1=k))=true then Ο.map (λkv=>if kv.1=k then (kv.1,v) else kv) else Ο++[(k,v)]
theorem eD{p:κ×V}{r:List (κ×V)}{k:κ}(e:p.1=k):jK (p::r) k=some p.2:=by simp [jK,List.find?_cons,e]
theorem eI{p:κ×V}{r:List (κ×V)}{k:κ}(e:¬p.1=k):jK (p::r) k=jK r k:=by simp [jK,List.find?_cons,e]
theorem m8(k:κ):∀Ο:List (κ×V),(Ο.any λkv=>decide (kv.1=k))=(jK Ο k).isSome
 |[]=>rfl
 |p::r=>by
  rw [abI];by_cases e:p.1=k
  ·simp only [eD e,decide_eq_true e,Bool.true_or,Option.isSome_some]
  ·rw [eI e,decide_eq_false e,Bool.false_or];exact m8 k r
theorem uj(k j:κ)(y:V):∀Ο:List (κ×V),jK Ο k=none->jK (Ο++[(k,y)]) j=if j=k then some y else jK Ο j
 |[],_=>by
  by_cases e:k=j
  ·rw [if_pos e.symm];exact eD (p:=(k,y)) e
  ·rw [if_neg (λz=>e z.symm)];exact eI (p:=(k,y)) e
 |p::r,hn=>by
  rw [List.cons_append];have hk:¬p.1=k:=λz=>by rw [eD z] at hn;cases hn
  rw [eI hk] at hn;have ih:=uj k j y r hn;by_cases e:p.1=j
  ·rw [eD e,eD e,if_neg (λz=>hk (e.trans z))]
  ·rw [eI e,eI e,ih]
theorem kj(Ο:List (κ×V))(k:κ)(v:V):(iA Ο k v).length<=Ο.length+1:=by
 unfold iA;split
 ·rw [aad];omega
 ·rw [aag,aau,List.length_nil];omega
theorem HW{Ο:List (κ×V)}{k:κ}(v:V)(h:jK Ο k=none):iA Ο k v=Ο++[(k,v)]:=by unfold iA;rw [m8,h];exact if_neg (by decide)
theorem kg.iM{o:Option V}{u:Option Value}(r:kg o u):o.isSome=u.isSome:=by
 cases o with
 |none=>cases u with
  |none=>rfl
  |some _=>exact (show False from r).elim
 |some _=>cases u with
  |none=>exact (show False from r).elim
  |some _=>rfl
theorem KV.val{Ο:List (κ×V)}{vs:List (κ×Value)}(r:KV Ο vs)(k:κ):kg (jK Ο k) (valueAt vs k):=by
 unfold KV at r
 induction r with
 |nil=>exact True.intro
 |@cons p q ps qs h t ih=>
  obtain ⟨h1,h2⟩:=h;by_cases e:p.1=k
  ·have e':q.1=k:=h1.symm.trans e;have b:valueAt (q::qs) k=some q.2:=by simp [valueAt,List.find?_cons,e']
   rw [eD e,b];exact h2
  ·have e':¬q.1=k:=λz=>e (h1.trans z);have b:valueAt (q::qs) k=valueAt qs k:=by simp [valueAt,List.find?_cons,e']
   rw [eI e,b];exact ih
theorem KV.any{Ο:List (κ×V)}{vs:List (κ×Value)}(r:KV Ο vs)(k:κ):(Ο.any λkv=>decide (kv.1=k))=vs.any λkv=>decide (kv.1=k):=by
 unfold KV at r
 induction r with
 |nil=>rfl
 |cons h t ih=>rw [abI,abI,ih,h.1]
theorem KV.Oo{Ο:List (κ×V)}{vs:List (κ×Value)}(r:KV Ο vs)(k:κ){y:V}{u:Value}(ry:aB y u):
  KV (Ο.map λkv=>if kv.1=k then (kv.1,y) else kv) (vs.map λkv=>if kv.1=k then (kv.1,u) else kv):=by
 unfold KV at r⊢
 induction r with
 |nil=>exact .nil
 |@cons p q ps qs h t ih=>
  rw [aaB,aaB];refine .cons ?_ ih;obtain ⟨h1,h2⟩:=h;by_cases e:p.1=k
  ·rw [if_pos e,if_pos (h1.symm.trans e)];exact ⟨h1,ry⟩
  ·rw [if_neg e,if_neg (λz=>e (h1.trans z))];exact ⟨h1,h2⟩
theorem KV.put{Ο:List (κ×V)}{vs:List (κ×Value)}(r:KV Ο vs)(k:κ){y:V}{u:Value}(ry:aB y u):KV (iA Ο k y) (stored vs k u):=by
 unfold iA stored;rw [r.any k];by_cases e:(vs.any λkv=>decide (kv.1=k))=true
 ·rw [if_pos e,if_pos e];exact r.Oo k ry
 ·rw [if_neg e,if_neg e];exact Paired.snoc r ⟨rfl,ry⟩
theorem KV.length{Ο:List (κ×V)}{vs:List (κ×Value)}(r:KV Ο vs):Ο.length=vs.length:=Paired.length r
end
theorem qS{P:Program}{w:World}{k:Key}{u:Value}(r:aB (kV k) u):(bD P w).is k u=true:=by
 cases k with
 |inl i=>obtain ⟨t,e⟩:=(show∃t,u=Value.int i t from r);subst e;exact yc P w i t
 |inr x=>obtain ⟨t,e⟩:=(show∃t,u=Value.str x t from r);subst e;exact Ao P w x t
theorem uQ{P:Program}{w:World}:∀{ks:List Key}{us:List Value},ay (ks.map kV) us->ItemsAre (bD P w) ks us
 |[],_,r=>by rw [List.map_nil] at r;cases r;exact .nil
 |k::ks,_,r=>by
  rw [aaB] at r;cases r with
  |cons h t=>exact .cons (qS h) (uQ t)
abbrev KT(H:Hp):List (List Key×V)->List (List Key×Addr×Value)->Prop:=Paired λp q=>p.1=q.1/\H q.2.1=some (.tup (p.1.map kV))/\aB p.2 q.2.2
theorem KT.val{H:Hp}{Ο:List (List Key×V)}{xs:List (List Key×Addr×Value)}(r:KT H Ο xs)(k:List Key):kg (jK Ο k) ((atKey xs k).map (·.2)):=by
 induction r with
 |nil=>exact True.intro
 |@cons p q ps qs h t ih=>
  obtain ⟨h1,_,h2⟩:=h;by_cases e:p.1=k
  ·have e':q.1=k:=h1.symm.trans e;have b:atKey (q::qs) k=some q.2:=by simp [atKey,List.find?_cons,e']
   rw [eD e,b];exact h2
  ·have e':¬q.1=k:=λz=>e (h1.trans z);have b:atKey (q::qs) k=atKey qs k:=by simp [atKey,List.find?_cons,e']
   rw [eI e,b];exact ih
theorem KT.Oo{H:Hp}{Ο:List (List Key×V)}{xs:List (List Key×Addr×Value)}(r:KT H Ο xs)(k:List Key){y:V}{u:Value}(ry:aB y u):
  KT H (Ο.map λkv=>if kv.1=k then (kv.1,y) else kv) (xs.map (putAt k u)):=by
 induction r with
 |nil=>exact .nil
 |@cons p q ps qs h t ih=>
  rw [aaB,aaB];refine .cons ?_ ih;obtain ⟨h1,h2,h3⟩:=h;unfold putAt;by_cases e:p.1=k
  ·rw [if_pos e,if_pos (h1.symm.trans e)];exact ⟨h1,h2,ry⟩
  ·rw [if_neg e,if_neg (λz=>e (h1.trans z))];exact ⟨h1,h2,h3⟩
theorem KT.put{H:Hp}{Ο:List (List Key×V)}{xs:List (List Key×Addr×Value)}(r:KT H Ο xs)(k:List Key){b:Addr}{y:V}{u:Value}(hb:H b=some (.tup (k.map kV)))(ry:aB y u):
  KT H (iA Ο k y) (storedH xs k b u):=by
 have e:(Ο.any λkv=>decide (kv.1=k))=(atKey xs k).isSome:=by rw [m8,(r.val k).iM,Option.isSome_map]
 unfold iA storedH;rw [e];by_cases q:(atKey xs k).isSome=true
 ·rw [if_pos q,if_pos q];exact r.Oo k ry
 ·rw [if_neg q,if_neg q];exact Paired.snoc r ⟨rfl,hb,ry⟩
theorem KT.keeps{H H':Hp}{Ο:List (List Key×V)}{xs:List (List Key×Addr×Value)}(r:KT H Ο xs)(ht:∀b ys,H b=some (.tup ys)->H' b=some (.tup ys)):KT H' Ο xs:=
 Paired.PD r λ_ _ z=>⟨z.1,ht _ _ z.2.1,z.2.2⟩
section
variable{P:Program}{w:World}{H:Hp}{h:Heap}{a:Addr}
theorem NB{u:HO}(ok:kW P w H h)(e:Rd H a u):bT P w H h a u:=e.ok ok
theorem m_{Ο:List (Key×V)}(ok:kW P w H h)(e:Rd H a (.dK Ο)):Ο.length<=sizeLine/\(a==sysModules)=false/\∃vs,KV Ο vs/\h.DictOf (bD P w) a vs:=
 show bT P w H h a (.dK Ο) from NB ok e
theorem DB{Ο:List (Key×V)}(ok:kW P w H h)(e:H a=some (.dK Ο)):Ο.length<=sizeLine/\(a==sysModules)=false/\∃vs,KV Ο vs/\h.DictOf (bD P w) a vs:=m_ ok (.inl e)
theorem sx{ks:List Key}(ok:kW P w H h)(e:H a=some (.tup (ks.map kV))):(tupleKind (bD P w)).is h ks a:=by obtain ⟨_,its,r,o,h1,h2,n,h3⟩:=(show bT P w H h a (.tup (ks.map kV)) from ok a _ e);exact ⟨o,its.toArray,n,h1,h2,h3,by simpa using uQ r⟩
theorem uA{Ο:List (List Key×V)}(ok:kW P w H h)(e:Rd H a (.dT Ο)):Ο.length<=sizeLine/\(a==sysModules)=false/\
  ∃xs,KT H Ο xs/\h.DictOfH (tupleKind (bD P w)) a xs:=by
 obtain ⟨z,y,xs,r,o,es,ep,h1,h2,h3,h4,h5⟩:=(show bT P w H h a (.dT Ο) from NB ok e);refine ⟨z,y,xs,r,o,es,ep,h1,h2,h3,h4,λx hx=>?_,h5⟩;have all:∀{l:List (List Key×V)} {m:List (List Key×Addr×Value)},KT H l m->∀x∈m,(tupleKind (bD P w)).is h x.1 x.2.1:=by
  intro l m q
  induction q with
  |nil=>intro x hx;exact nomatch hx
  |@cons p q ps qs hq t ih=>
   intro x hx;rcases aay.mp hx with e|hx
   ·subst e;exact sx ok (by rw [<-hq.1];exact hq.2.1)
   ·exact ih x hx
 exact all r x hx
theorem R5{Ο:List (List Key×V)}(ok:kW P w H h)(e:H a=some (.dT Ο)):Ο.length<=sizeLine/\(a==sysModules)=false/\
  ∃xs,KT H Ο xs/\h.DictOfH (tupleKind (bD P w)) a xs:=uA ok (.inl e)
end
def vn(H:Hp)(a:Addr)(y:V)(r:Option V):Prop:=
 (∃Ο k,Rd H a (.dK Ο)/\y=kV k/\r=jK Ο k)\/∃Ο k b,Rd H a (.dT Ο)/\y= .ref b/\H b=some (.tup (k.map kV))/\r=jK Ο k
def J_(H:Hp)(a:Addr)(y v:V)(H':Hp):Prop:=
 (∃Ο k,H a=some (.dK Ο)/\y=kV k/\Ο.length<sizeLine/\H'=upd H a (.dK (iA Ο k v)))\/
 ∃Ο k b,H a=some (.dT Ο)/\y= .ref b/\H b=some (.tup (k.map kV))/\Ο.length<sizeLine/\H'=upd H a (.dT (iA Ο k v))
theorem J_.k{H:Hp}{a:Addr}{Ο:List (Key×V)}{k:Key}{v:V}(e:H a=some (.dK Ο))(hl:Ο.length<sizeLine):J_ H a (kV k) v (upd H a (.dK (iA Ο k v))):= .inl ⟨Ο,k,e,rfl,hl,rfl⟩
section
variable{X:Cx}{ζ:List (Addr×Obj)}{σ:St}{H:Hp}{s:Shared}{a:Addr}{y v:V}{u r:Value}{o:Option V}{A:Around}{E:Value->Shared->Prop}
theorem Inv.big(I:Inv X ζ σ H s):sysModules<s.heap.objs.size:=by have h:mainGlobals<s.heap.objs.size:=(I.mod.glob.keeps I.bk).lt;exact Nat.lt_trans (by decide) h
theorem FC{Q:Value->Shared->Prop}(hu:A.units+1<cLine)(I:Inv X ζ σ H s)(g:vn H a y (some v))(ry:aB y u)(h:∀w' s',Inv X ζ σ H s'->aB v w'->Q w' s'):
  wpAny (model X.prog X.w) A (getItem (.ref a) u) Q E s:=by
 rcases g with ⟨Ο,k,e,ey,l⟩|⟨Ο,k,b,e,ey,eb,l⟩
 ·subst ey;obtain ⟨z,hd,vs,rel,dd⟩:=m_ I.ba e;obtain ⟨w',hw,Bj⟩:=kg.some_of (v:=v) (o:=valueAt vs k) (by rw [l];exact rel.val k);exact wpAny_getItem_of (qS ry) dd.mapOf hw (h w' _ (I.tok _) Bj)
 ·subst ey;cases (show u=Value.ref b from ry);obtain ⟨z,hd,xs,rel,dd⟩:=uA I.ba e;obtain ⟨w',hw,Bj⟩:=kg.some_of (v:=v) (o:=(atKey xs k).map (·.2)) (by rw [l];exact rel.val k);obtain ⟨p,hp,TH⟩:=Option.map_eq_some_iff.mp hw;refine wpAny_getItem_heap (tupleKind_room_in1 hu) (sx I.ba eb) dd hp ?_;rw [TH];exact h w' _ (I.tok _) Bj
theorem Yk{Q:Value->Shared->Prop}(hu:A.units+1<cLine)(I:Inv X ζ σ H s)(g:vn H a y o)(ry:aB y u)(h:∀s',Inv X ζ σ H s'->Q (.bool o.isSome) s'):
  wpAny (model X.prog X.w) A (compareOp .In u (.ref a)) Q E s:=by
 rcases g with ⟨Ο,k,e,ey,l⟩|⟨Ο,k,b,e,ey,eb,l⟩
 ·subst ey;obtain ⟨z,hd,vs,rel,dd⟩:=m_ I.ba e;refine wpAny_in_of (qS ry) hd dd.mapOf ?_;rw [<-(rel.val k).iM,<-l];exact h _ (I.tok _)
 ·subst ey;cases (show u=Value.ref b from ry);obtain ⟨z,hd,xs,rel,dd⟩:=uA I.ba e;refine wpAny_in_heap (tupleKind_room_in1 hu) (sx I.ba eb) hd dd ?_;have q:=(rel.val k).iM;rw [Option.isSome_map] at q;rw [<-q,<-l];exact h _ (I.tok _)
theorem Ln{Q:Value->Shared->Prop}(hu:A.units+1<cLine)(I:Inv X ζ σ H s)(g:vn H a y o)(ry:aB y u)(h:∀s',Inv X ζ σ H s'->Q (.bool (!o.isSome)) s'):
  wpAny (model X.prog X.w) A (compareOp .NotIn u (.ref a)) Q E s:=by
 rcases g with ⟨Ο,k,e,ey,l⟩|⟨Ο,k,b,e,ey,eb,l⟩
 ·subst ey;obtain ⟨z,hd,vs,rel,dd⟩:=m_ I.ba e;refine wpAny_notIn_of (qS ry) hd dd.mapOf ?_;rw [<-(rel.val k).iM,<-l];exact h _ (I.tok _)
 ·subst ey;cases (show u=Value.ref b from ry);obtain ⟨z,hd,xs,rel,dd⟩:=uA I.ba e;refine wpAny_notIn_heap (tupleKind_room_in1 hu) (sx I.ba eb) hd dd ?_;have q:=(rel.val k).iM;rw [Option.isSome_map] at q;rw [<-q,<-l];exact h _ (I.tok _)
theorem p8{h':Heap}{t':Nat}{ob:HO}(I:Inv X ζ σ H s)(mu:QB (H a))(hs:Heap.SameBut a s.heap h')(he:∃q,h'.get? a=some q)(new:bT X.prog X.w (upd H a ob) h' a ob):
  Inv X ζ σ (upd H a ob) {s with heap:=h',toks:=t'}:=
 I.write (x:=a) (e:=a) mu (.inl rfl) (λb q hb z=>(hs.2 b hb).trans z) he new
theorem qK{P:Program}{w:World}{H':Hp}{h':Heap}{Ο:List (Key×V)}{vs:List (Key×Value)}(z:Ο.length<=sizeLine)(hd:(a==sysModules)=false)(rel:KV Ο vs)(dd:h'.DictOf (bD P w) a vs):
  bT P w H' h' a (.dK Ο):=⟨z,hd,vs,rel,dd⟩
theorem Er{H':Hp}{Q:Unit->Shared->Prop}(hu:A.units+1<cLine)(I:Inv X ζ σ H s)(g:J_ H a y v H')(ry:aB y u)(rv:aB v r)(h:∀s',Inv X ζ σ H' s'->Q () s'):
  wpAny (model X.prog X.w) A (setItem (.ref a) u r) Q E s:=by
 rcases g with ⟨Ο,k,e,ey,l,eH⟩|⟨Ο,k,b,e,ey,eb,l,eH⟩
 ·subst ey eH;obtain ⟨z,hd,vs,rel,dd⟩:=DB I.ba e;have hz:vs.length<=sizeLine:=by rw [<-rel.length];exact z
  have hl:(iA Ο k v).length<=sizeLine:=by have:=kj Ο k v;omega
  refine wpAny_setItem_pairs (hsz:=hz) (qS ry) dd λh' Lo hs=>h _ ?_;have he:∃q,h'.get? a=some q:=let ⟨q,_,_,hq,_⟩:=Lo;⟨q,hq⟩
  exact p8 I (by rw [e];exact True.intro) hs he (qK hl hd (rel.put k rv) Lo)
 ·subst ey eH;cases (show u=Value.ref b from ry);obtain ⟨z,hd,xs,rel,dd⟩:=R5 I.ba e;have hz:xs.length<=sizeLine:=by rw [<-Paired.length rel];exact z
  have hl:(iA Ο k v).length<=sizeLine:=by have:=kj Ο k v;omega
  refine wpAny_setItem_heap (hsz:=hz) (tupleKind_room_in1 hu) (sx I.ba eb) dd λh' Lo hs=>h _ ?_;obtain ⟨q,es,ep,hq,h2,h3,h4,_,h5⟩:=Lo;refine p8 I (by rw [e];exact True.intro) hs ⟨q,hq⟩ ⟨hl,hd,_,(rel.put k eb rv).keeps λc ys ec=>?_,q,es,ep,hq,h2,h3,h4,h5⟩;rw [Θ (R4 ec e (λz=>nomatch z))];exact ec
end
section
variable{X:Cx}{ζ:List (Addr×Obj)}{σ:St}{H:Hp}{s:Shared}{a:Addr}{Ο:List (Key×V)}{k:Key}{u:Value}{A:Around}{E:Value->Shared->Prop}
theorem RJ{Q:Value->Shared->Prop}(I:Inv X ζ σ H s)(e:Rd H a (.dK Ο))(h:∀t s',Inv X ζ σ H s'->Q (.int Ο.length t) s'):wpAny (model X.prog X.w) A (call (.builtin "len") [.ref a]) Q E s:=by obtain ⟨z,hd,vs,rel,dd⟩:=m_ I.ba e;refine call_len_dict hd dd (by rw [<-rel.length];rw [sizeLine_eq] at z;omega) ?_;rw [<-rel.length];exact h _ _ (I.tok _)
end
def Bu(i:Expr):Prop:=∀ov iv,subscripted i false ov iv=operate [ov,iv] (getItem ov iv)
theorem vG{prog:Program}{w:World}{A:Around}{E:Value->Shared->Prop}{s:Shared}{env:Env}{value slice:Expr}{pos:Pos}{T id:String}{Q:Value->Shared->Prop}
  (hl:typeLookup (.type T) "__getitem__"=pure (some (.builtin id))) (hs:Bu slice)
  (h:wpAny (model prog w) A (eval value env) (λo s₁=>wpAny (model prog w) A (eval slice env) (λi s₂=>s₂.TypeIs o T/\wpAny (model prog w) A (getItem o i) Q E s₂) E s₁) E s):
  wpAny (model prog w) A (eval (.Subscript value slice pos) env) Q E s:=by
 refine Subscript_ (wpAny_mono h (λo s₁ h₁=>wpAny_mono h₁ (λi s₂ h₂=>?_) λ_ _ x=>x) λ_ _ x=>x);obtain ⟨hT,h₂⟩:=h₂;unfold subscriptTail;refine wpAny_bind ?_;rw [getitemInPython_of_ne hT.not_modules];refine wpAny_bind (wpAny_specialOf hT hl ?_);have fin:wpAny (model prog w) A (subscripted slice false o i) (λr s₃=>wpAny (model prog w) A (letTemporaryGo value o r >>= λ_=>pure r) Q E s₃) E s₂:=by rw [hs o i];exact wpAny_operating (wpAny_mono h₂ (λr s₃ h₃=>wpAny_bind (wpAny_letTemporaryGo (wpAny_pure h₃))) λ_ _ x=>x)
 first
  |exact wpAny_pure (wpAny_bind fin)
  |exact wpAny_bind (wpAny_pure (wpAny_bind fin))
  |exact wpAny_bind fin
theorem zp{X:Cx}{ζ:List (Addr×Obj)}{σ:St}{H:Hp}{s:Shared}{a:Addr}{y:V}{o:Option V}(I:Inv X ζ σ H s)(g:vn H a y o):s.TypeIs (.ref a) "dict":=by
 rcases g with ⟨Ο,k,e,_,_⟩|⟨Ο,k,b,e,_,_,_⟩
 ·obtain ⟨_,_,vs,_,dd⟩:=m_ I.ba e;exact dd.typeIs
 ·obtain ⟨_,_,xs,_,dd⟩:=uA I.ba e;exact dd.typeIs
def SR(td ty:TE):TE:=λσ H Q=>td σ H λx H1=>ty σ H1 λy H2=>∃a v,x= .ref a/\vn H2 a y (some v)/\Q v H2
def QT(td ty tv:TE):TS:=λD σ H=>tv σ H λv H1=>td σ H1 λx H2=>ty σ H2 λy H3=>∃a H4,x= .ref a/\J_ H3 a y v H4/\D.nx σ H4
section
variable{X:Cx}{o i e value:Expr}{pos pos' tV:Pos}{td ty tv:TE}
theorem MA(hu:X.A.units+1<cLine)(ho:PE X o td)(hi:PE X i ty)(hs:Bu i):PE X (.Subscript o i pos) (SR td ty):=by intro ζ s σ H Q I h;refine vG abR.lookup hs (bC (ho ζ s σ H _ I h) λu s1 ⟨x,H1,I1,rx,q1⟩=>bC (hi ζ s1 σ H1 _ I1 q1) λiv s2 ⟨y,H2,I2,ry,a,v,ex,g,q2⟩=>?_);subst ex;obtain rfl:u=Value.ref a:=rx;exact ⟨zp I2 g,FC hu I2 g ry λw' s3 I3 Bj=>⟨v,H2,I3,Bj,q2⟩⟩
theorem Lk(hu:X.A.units+1<cLine)(ho:PE X o td)(hi:PE X i ty)(hv:PE X value tv)(hs:swapsWith value (some (.Subscript o i pos')) pos.line X.env=pure false):
  PS X (.Assign [.Subscript o i pos'] value pos) (QT td ty tv):=by
 intro ζ s σ H D I h;refine wpAny_Assign_Subscript (bC (hv ζ s σ H _ I h) λr s1 ⟨v,H1,I1,rv,q1⟩=>bC (ho ζ s1 σ H1 _ I1 q1) λu s2 ⟨x,H2,I2,rx,q2⟩=>bC (hi ζ s2 σ H2 _ I2 q2) λiv s3 ⟨y,H3,I3,ry,a,H4,ex,g,q3⟩=>?_) hs;subst ex;obtain rfl:u=Value.ref a:=rx;exact Er hu I3 g ry rv λs4 I4=>⟨σ,H4,I4,q3⟩
end
theorem Ae{P:Program}{w:World}{H:Hp}(h:Heap)(hb:sysModules<h.objs.size):bT P w H (h.push {cls:= .type "dict",data:= .dict #[]}) h.objs.size (.dK []):=
 ⟨abK _,beq_eq_false_iff_ne.mpr (Ne.symm (aaE hb)),[],.nil,Heap.DictOf.new h⟩
def OY:TE:=λ_ H Q=>∀p,H p=none->Q (.ref p) (upd H p (.dK []))
section
variable{X:Cx}{pos:Pos}
theorem HG:PE X (.Dict [] [] pos) OY:=λζ s σ H Q I h=>
 wpAny_Dict_empty ⟨.ref s.heap.objs.size,_,I.laid (a:=s.heap.objs.size) (o:= .dK []) (t':=s.toks) (λ_ _ q=>Heap.get?_push_of_some _ q) (aah _) (Ae s.heap I.big),rfl,h _ (I.ba.fresh (aah _))⟩
end
def BM:List (TE×TE)->St->Hp->(List (V×V)->Hp->Prop)->Prop
 |[],_,H,Q=>Q [] H
 |(tk,tv)::r,σ,H,Q=>tk σ H λx H1=>tv σ H1 λy H2=>BM r σ H2 λps H3=>Q ((x,y)::ps) H3
abbrev VV:List (V×V)->List (Value×Value)->Prop:=Paired λp q=>aB p.1 q.1/\aB p.2 q.2
def UG(X:Cx)(pos:Pos)(keys:List (Option Expr))(values:List Expr)(Mv:List (TE×TE)):Prop:=
 ∀(ζ:List (Addr×Obj)) (s:Shared) (σ:St) (H:Hp) (Q:List (V×V)->Hp->Prop),Inv X ζ σ H s->BM Mv σ H Q->
  wpAny (model X.prog X.w) X.A (evalPairs (pairTrees keys values X.env pos)) (λvs s'=>∃ps H',Inv X ζ σ H' s'/\VV ps vs/\Q ps H') X.xe s
theorem CP{X:Cx}{pos:Pos}:UG X pos [] [] []:=λζ s σ H Q I h=>pairTrees_nil_walk ⟨[],H,I,.nil,h⟩
theorem sI{X:Cx}{pos:Pos}{k v:Expr}{ks:List (Option Expr)}{vs:List Expr}{tk tv:TE}{Mv:List (TE×TE)}(hk:PE X k tk)(hv:PE X v tv)(hr:UG X pos ks vs Mv):
  UG X pos (some k::ks) (v::vs) ((tk,tv)::Mv):=λζ s σ H Q I h=>
 pairTrees_cons_walk (bC (hk ζ s σ H _ I h) λu s1 ⟨x,H1,I1,rx,q1⟩=>bC (hv ζ s1 σ H1 _ I1 q1) λw2 s2 ⟨y,H2,I2,ry,q2⟩=>
  bC (hr ζ s2 σ H2 _ I2 q2) λws s3 ⟨ps,H3,I3,rel,q3⟩=>⟨(x,y)::ps,H3,I3,.cons ⟨rx,ry⟩ rel,q3⟩)
def ij(Ο more:List (Key×V)):List (Key×V):=more.foldl (λΙ kv=>iA Ι kv.1 kv.2) Ο
theorem KV.merge:∀{more:List (Key×V)}{rs:List (Key×Value)}{Ο:List (Key×V)}{vs:List (Key×Value)},KV more rs->KV Ο vs->KV (ij Ο more) (merged vs rs):=by
 intro more rs Ο vs r;unfold KV at r
 induction r generalizing Ο vs with
 |nil=>intro q;exact q
 |@cons p q ps qs h t ih=>
  intro r0;have e:KV (iA Ο p.1 p.2) (stored vs q.1 q.2):=by have:=r0.put p.1 h.2;rw [<-h.1];exact this
  exact ih e
theorem ia:∀(more Ο:List (Key×V)),(ij Ο more).length<=Ο.length+more.length
 |[],Ο=>by show Ο.length<=Ο.length+0;omega
 |p::r,Ο=>by have h1:=ia r (iA Ο p.1 p.2);have h2:=kj Ο p.1 p.2;show (ij (iA Ο p.1 p.2) r).length<=_;rw [aau];omega
theorem sT{P:Program}{w:World}:∀{Ο:List (Key×V)}{ws:List (Value×Value)},VV (Ο.map λkv=>(kV kv.1,kv.2)) ws->∃rs,Carries (bD P w) ws rs/\KV Ο rs
 |[],_,r=>by rw [List.map_nil] at r;cases r;exact ⟨[],True.intro,.nil⟩
 |p::Ο,_,r=>by
  rw [aaB] at r;cases r with
  |@cons a b as bs h t=>
   obtain ⟨rs,c,q⟩:=sT (P:=P) (w:=w) t;obtain ⟨b1,b2⟩:=b;exact ⟨(p.1,b2)::rs,⟨qS h.1,rfl,c⟩,.cons ⟨rfl,h.2⟩ q⟩
def Q6(Mv:List (TE×TE)):TE:=λσ H Q=>∀p,H p=none->BM Mv σ (upd H p (.dK [])) λps H2=>H2 p=some (.dK [])/\∃Ο:List (Key×V),ps=Ο.map (λkv=>(kV kv.1,kv.2))/\Ο.length<=15/\Q (.ref p) (upd H2 p (.dK (ij [] Ο)))
theorem CQ{X:Cx}{pos:Pos}{keys:List (Option Expr)}{values:List Expr}{Mv:List (TE×TE)}(h:UG X pos keys values Mv)(Qx:keys.all (·.isSome)=true)(hl:keys.length=values.length)(h0:keys≠[])
  (h15:keys.length<=15):PE X (.Dict keys values pos) (Q6 Mv):=by
 intro ζ s σ H Q I q;have hn:=I.ba.fresh (aah s.heap.objs.size);have I1:=I.laid (a:=s.heap.objs.size) (o:= .dK []) (h':=s.heap.push {cls:= .type "dict",data:= .dict #[]}) (t':=s.toks) (λ_ _ q=>Heap.get?_push_of_some _ q) (aah _) (Ae s.heap I.big);refine wpAny_Dict_walk (knd:=bD X.prog X.w) Qx hl h0 h15 (bC (h ζ _ σ _ _ I1 (q _ hn)) λws s2 ⟨ps,H2,I2,rel,e,Ο,ep,lk,q2⟩=>?_);subst ep;obtain ⟨rs,c,rk⟩:=sT (P:=X.prog) (w:=X.w) rel;obtain ⟨z,hd,vs0,r0,dd⟩:=DB I2.ba e;cases r0;refine ⟨rs,c,dd,λh' Lo hs=>⟨.ref s.heap.objs.size,_,?_,rfl,q2⟩⟩;have hz:(ij [] Ο).length<=sizeLine:=by have h1:=ia Ο [];rw [List.length_nil] at h1;rw [sizeLine_eq];omega
 have he:∃q,h'.get? s.heap.objs.size=some q:=let ⟨q,_,_,hq,_⟩:=Lo;⟨q,hq⟩
 exact p8 I2 (by rw [e];exact True.intro) hs he (qK hz hd (rk.merge .nil) Lo)
structure M1(X:Cx)(o:Expr)(m:Str)(apos:Pos)(e:Expr)(cJ:Pos):Prop where
 base:attributeBase o m X.env (eval o X.env)=eval o X.env
 few:((backTo cJ (starEach [e] X.env)).all (λx=> !x.1)&&(backToKw cJ (keywordEach [] X.env)).all (λx=>x.1.isSome)
  &&decide (([e]:List Expr).length+([]:List Keyword).length+(if ([]:List Keyword).isEmpty then 0 else 1)<30))=true
 line:(apos.endLine==cJ.line)=true
 trees:backTo cJ (starEach [e] X.env)=[(false,eval e X.env)]
def Y8(H:Hp)(a:Addr):Prop:=(∃Ο,Rd H a (.dK Ο))\/∃Ο,Rd H a (.dT Ο)
theorem Oe{X:Cx}{ζ:List (Addr×Obj)}{σ:St}{H:Hp}{s:Shared}{a:Addr}(I:Inv X ζ σ H s)(d:Y8 H a):
  s.TypeIs (.ref a) "dict"/\(∀b,Value.ref a= .ref b->∃ob,s.heap.get? b=some ob/\ob.dict=none)/\(a==sysModules)=false:=by
 rcases d with ⟨Ο,e⟩|⟨Ο,e⟩
 ·obtain ⟨_,hd,vs,_,dd⟩:=m_ I.ba e;refine ⟨dd.typeIs,λb q=>?_,hd⟩;cases q;obtain ⟨ob,_,_,h1,h2,_⟩:=dd;exact ⟨ob,h1,h2.2.1⟩
 ·obtain ⟨_,hd,xs,_,dd⟩:=uA I.ba e;refine ⟨dd.typeIs,λb q=>?_,hd⟩;cases q;obtain ⟨ob,_,_,h1,h2,_⟩:=dd;exact ⟨ob,h1,h2.2.1⟩
section
variable{X:Cx}{ζ:List (Addr×Obj)}{σ:St}{H:Hp}{s:Shared}{a:Addr}{Ο:List (Key×V)}{A:Around}{E:Value->Shared->Prop}
theorem J8{Q:Value->Shared->Prop}(I:Inv X ζ σ H s)(e:Rd H a (.dK Ο))(h:∀p s',H p=none->Inv X ζ σ (upd H p (.dK Ο)) s'->Q (.ref p) s'):wpAny (model X.prog X.w) A (call (.type "dict") [.ref a]) Q E s:=by obtain ⟨z,hd,vs,rel,dd⟩:=m_ I.ba e;refine kt_call_dict hd dd (by rw [<-rel.length];exact z) λh' Lo hs=>?_;refine h _ _ (I.ba.fresh (aah _)) (I.laid (a:=s.heap.objs.size) (o:= .dK Ο) (t':=s.toks) (λb q hq=>?_) (aah _) (qK z (beq_eq_false_iff_ne.mpr (Ne.symm (aaE I.big))) rel Lo));exact (hs.2 b (aaE (Heap.lt_size hq))).trans (Heap.get?_push_of_some _ hq)
end
end L2
namespace Att
open PySem PySem.W PySem.Calls PyProof.Rows
end Att
namespace L2
open PySem PySem.Spec PyProof.Rows
end L2
/- THE U2 LP (shape;LID,My.* are Rc):
  My.Adr:a structure of L9 addresses Wc WJ Sq names (classes,EU);My.Txt K t:a structure (Prop) of L9 equations pY K;
  My.AI:{K} {implicit addresses ..} (e1:nsIn K mainGlobals "law"=some (some (.ref f))) (e2:K.lookup f=some ⟨oc,od,.func (fnOf "law" "law" params body scope dV kV doc pm an aV ct),sl⟩) (e3:codeIn K aV "law"=true) .. :∃t,My.Txt K t
set_option maxRecDepth 100000 in
set_option maxHeartbeats 0 in
theorem PySem.Challenge.cw_LID_holds : PySem.Challenge.rw_LID.Holds := by
 w_on;o_law;k_head;(case hw=>w_witness2)
 k_fill
 refine L2.w6 (l:=PySem.Challenge.rw_LID) (n:=63) (k:=40) (x:="script") (CX:=fun w=> ..) (sp:=fun _=>My.Qi) rfl (by decide) rfl ⟨rfl,by decide,by decide⟩ (fun w h Y=>PySem.W.kIn_of Y) ?F ?S ?C
 case F=>
  intro w mg fa h KX G Mr;have T:∃t,My.Txt (L2.WW KX) t:=by
   dsimp only [L2.WW]
   refine' My.AI ?e1 ?e2 ?e3 ..
   (case e1=>PySem.W.k_is)
   (case e2=>PySem.W.k_is)
   ..
  obtain ⟨t,T⟩:=T;have e0:=Mr.symm.trans (PySem.W.mg_of KX G T.law);cases e0;exact ⟨_,λs u=> .of_eq rfl,λbase kb nb=>My.AX T kb nb⟩
 case S=>exact λw H a ns hl hO hS=> ..
 case C=>exact ..
(L9 tactic k_is has no namespace:write k_is) -/
namespace L2
open PySem PySem.Spec PyProof.Rows
section
variable{X:Cx}
theorem EA:c8 X (.builtin "len") (λxs H Q=>∃a Ο,xs=[V.ref a]/\H a=some (.dK Ο)/\Q (.int Ο.length) H):=by intro ζ s σ H xs us Q I r h;obtain ⟨a,Ο,rfl,ha,q⟩:=h;obtain ⟨u,rfl,ru⟩:=kF r;cases ru;exact RJ I (.inl ha) λt s' I'=>⟨.int Ο.length,H,I',⟨t,rfl⟩,q⟩
end
def Ad:Dt->Option Key
 |.int i=>some (.inl i)
 |.str z=>some (.inr z)
 |_=>none
def c_(ks:List Key)(ds:List Dt)(k:Key):Option Dt:=((ks.zip ds).find? λp=>decide (p.1=k)).map (·.2)
theorem kJ{K:PySem.W.Frag}{G:Hp}{L:List Addr}{d:Dt}{v:V}{k:Key}(h:Ad d=some k)(n:Den K G L d v):v=kV k:=by
 cases d with
 |int i=>cases h;exact n
 |str z=>cases h;exact n
 |_=>cases h
theorem n_{K:PySem.W.Frag}{G:Hp}{L:List Addr}{k:Key}:∀{ks:List Key}{ds:List Dt}{vs:List V}{d:Dt},Χ K G L ds vs->c_ ks ds k=some d->∃v,jK (ks.zip vs) k=some v/\Den K G L d v
 |[],_,_,_,_,h=>by cases h
 |_::_,[],_,_,_,h=>by cases h
 |c::ks,d0::ds,_,d,⟨v0,vs,e,n0,n⟩,h=>by
  subst e;rw [abd];by_cases hc:c=k
  ·have h':c_ (c::ks) (d0::ds) k=some d0:=by unfold c_;rw [List.zip_cons_cons,List.find?_cons_of_pos (by simpa using hc)];rfl
   rw [h'] at h;cases h;exact ⟨v0,eD hc,n0⟩
  ·have h':c_ (c::ks) (d0::ds) k=c_ ks ds k:=by unfold c_;rw [List.zip_cons_cons,List.find?_cons_of_neg (by simpa using hc)]
   rw [h'] at h;obtain ⟨v,h1,h2⟩:=n_ n h;exact ⟨v,by rw [eI hc];exact h1,h2⟩
def Np(to ti:DE):DE:=λρ M q x=>to ρ M (λd M1=>ti ρ M1 (λdi M2=>∃k ks ds key v,d= .loc k/\M2[k]? =some (.ef ks ds)/\Ad di=some key/\c_ ks ds key=some v/\q v M2) x) x
theorem nJ:∀(more Ι:List (Key×V)),(∀p∈more,jK Ι p.1=none)->(more.map (·.1)).Nodup->ij Ι more=Ι++more
 |[],Ι,_,_=>by show Ι=Ι++[];rw [aaV]
 |p::more,Ι,h,nd=>by
  show ij (iA Ι p.1 p.2) more=_;rw [HW p.2 (h p aae),nJ more _ (λq hq=>?_) (abu.mp nd).2]
  ·simp
  ·have e:=uj p.1 q.1 p.2 Ι (h p aae);rw [show (Ι++[(p.1,p.2)])=Ι++[(p.1,p.2)] from rfl,e,if_neg]
   ·exact h q (aac _ hq)
   ·intro z;exact (abu.mp nd).1 (aaj.mpr ⟨q,hq,z⟩)
def tCs(z:Str):TE:=λ_ H Q=>Q (.str z) H
theorem Zt{X:Cx}{z:Str}{k:Nat}{pos:Pos}:PE X (.Constant (.str z) k pos) (tCs z):=I0
section
variable{X:Cx}{R:St->XK}{o i e:Expr}{to ti te:DE}{pos p:Pos}{k':Nat}
theorem oK(hr:bM k' X.A)(ho:JE X R o to)(hi:JE X R i ti)(hs:Bu i:=by intro _ _;rfl):JE X R (.Subscript o i pos) (Np to ti):=
 .of (MA (Ea hr) ho hi hs) λσ H G L ρ M q x rl n h hx=>by refine ⟨G,L,ρ,M,_,x,rl,n,h,hx,λv H1 ⟨d1,G1,L1,M1,e1,r1,n1,h1⟩=>?_⟩;refine ⟨G1,L1,ρ,M1,_,x,r1,n.mono e1,h1,hx.on e1,λv2 H2 ⟨d2,G2,L2,M2,e2,r2,n2,k,ks,ds,key,y,ed,hm,hk,hg,h2⟩=>?_⟩;subst ed;obtain ⟨a,rfl,Hi⟩:=n1;have Ou:=e2.l.get Hi;obtain ⟨_,vs,hH,hl,dn⟩:=r2.fN k a _ Ou hm;obtain ⟨u,hu,du⟩:=n_ dn hg;refine ⟨a,u,rfl,.inl ⟨_,key,.inl hH,kJ hk n2,hu.symm⟩,fin_same (e1.trans e2) r2 du h2⟩
end
structure Qz(K:PySem.W.Frag)(w:World)(mg:Str->Option Value)(x:Str)(tab:List (Str×Str)):Prop where
 ex:∃a es n,mg x=some (.ref a)/\K.lookup a=some ⟨.type "dict",none,.dict es n, #[]⟩/\PySem.W.KeysLit w.params es.toList/\∀z y,tab.lookup z=some y->∃tk,PySem.W.nsIn K a z=some (some (.str y tk))
def Sa(tab:List (Str×Str))(ti:DE):DE:=λρ M q x=>ti ρ M (λd M1=>∃z y,d= .str z/\tab.lookup z=some y/\q (.str y) M1) x
def Wh(tab:List (Str×Str))(ti:TE):TE:=λσ H Q=>ti σ H λv H1=>∃z y,v= .str z/\tab.lookup z=some y/\Q (.str y) H1
section
variable{X:Cx}{R:St->XK}{i:Expr}{pos p:Pos}{x:Str}{tab:List (Str×Str)}
theorem Pe{ti:TE}(T:Qz X.K X.w X.mg x tab)(hi:PE X i ti)(hs:Bu i)(hg:Gl X x)(tS:(x==("__debug__":Str))=false):PE X (.Subscript (.Name x p) i pos) (Wh tab ti):=by obtain ⟨a,es,n,hm,hl,hk,ht⟩:=T.ex;intro ζ s σ H Q I h;refine vG abR.lookup hs (qi I hg hm ?_ tS);refine bC (hi ζ s σ H _ I h) λiv s2 ⟨v,H2,I2,rv,z,y,ev,hy,q2⟩=>?_;subst ev;obtain ⟨t,rfl⟩:=rv;obtain ⟨tk,hn⟩:=ht z y hy;have hM:=PySem.W.mapOf_K (prog:=X.prog) (w:=X.w) I2.pK hl hk;exact ⟨hM.typeIs,wpAny_getItem_of (strKind_is X.prog X.w z t) hM (PySem.W.find_K hl hn) ⟨.str y,H2,I2.tok _,⟨tk,rfl⟩,q2⟩⟩
theorem QY{ti:DE}(T:Qz X.K X.w X.mg x tab)(hi:JE X R i ti)(hs:Bu i:=by intro _ _;rfl)(hg:Gl X x:=by rfl)(tS:(x==("__debug__":Str))=false:=by decide):JE X R (.Subscript (.Name x p) i pos) (Sa tab ti):=
 .of (Pe T hi hs hg tS) λσ H G L ρ M q x rl n h hx=>by refine ⟨G,L,ρ,M,_,x,rl,n,h,hx,λv H1 ⟨d1,G1,L1,M1,e1,r1,n1,z,y,ed,hy,h1⟩=>?_⟩;subst ed;exact ⟨z,y,n1,hy,bA e1 r1 h1⟩
end
inductive Kw(K:PySem.W.Frag)(H:Hp):Nat->V->V->Bool->Prop
 |flat {n:Nat} {x y:V} (h1:eC x=true) (h2:eC y=true):Kw K H n x y (tM x y)
 |tup {n:Nat} {a b:Addr} {xs ys:List V} {f:Nat->Bool} (h1:nv K H a xs) (h2:nv K H b ys) (h:∀j x y,xs[j]? =some x->ys[j]? =some y->Kw K H n x y (f j)):Kw K H (n+1) (.ref a) (.ref b) ((List.range (min xs.length ys.length)).all f&&xs.length==ys.length)
 |lst {n:Nat} {a b:Addr} {xs ys:List V} {f:Nat->Bool} (h1:gy K H a xs) (h2:gy K H b ys) (hl:xs.length=ys.length) (h:∀j x y,xs[j]? =some x->ys[j]? =some y->Kw K H n x y (f j)):Kw K H (n+1) (.ref a) (.ref b) ((List.range xs.length).all f)
 |len {n:Nat} {a b:Addr} {xs ys:List V} (h1:gy K H a xs) (h2:gy K H b ys) (hl:xs.length≠ys.length):Kw K H (n+1) (.ref a) (.ref b) false
theorem HZ{x:V}(h:eC x=true):tM x x=true:=by cases x <;> first|rfl|(show (_==_)=true;simp)|cases h
section
variable{X:Cx}{ζ:List (Addr×Obj)}{σ:St}{H:Hp}{s:Shared}
theorem z_(I:Inv X ζ σ H s){n:Nat}{x y:V}{b:Bool}(h:Kw X.K H n x y b):x=y->b=true:=by
 induction h with
 |flat h1 h2=>intro e;subst e;exact HZ h1
 |@tup n a b xs ys f h1 h2 h ih=>
  intro e;cases e;cases I.uB h1 h2;rw [Nat.min_self,beq_self_eq_true,Bool.and_true];refine abz.mpr λj hj=>?_;have hj:=aaW.mp hj;exact ih j _ _ (aaa hj) (aaa hj) rfl
 |@lst n a b xs ys f h1 h2 hl h ih=>
  intro e;cases e;cases I.gS h1 h2;refine abz.mpr λj hj=>?_;have hj:=aaW.mp hj;exact ih j _ _ (aaa hj) (aaa hj) rfl
 |len h1 h2 hl=>
  intro e;cases e;cases I.gS h1 h2;exact absurd rfl hl
theorem ft{xs:List V}{its:List Value}(r:ay xs its){j:Nat}(h:j<its.toArray.size):∃x,xs[j]? =some x/\aB x its.toArray[j]:=by
 have hj:j<its.length:=by simpa using h
 have hx:j<xs.length:=by rw [r.length];exact hj
 obtain ⟨u,g,ru⟩:=r.get (aaa hx);rw [aaa hj] at g;cases g;exact ⟨_,List.getElem?_eq_getElem hx,by simpa using ru⟩
theorem Ju(I:Inv X ζ σ H s){n:Nat}{x y:V}{b:Bool}(h:Kw X.K H n x y b):∀{A:Around}{u v:Value},aB x u->aB y v->A.units+n<cLine->SeqAt.EqAt A s u v b:=by
 induction h with
 |flat h1 h2=>exact λru rv _=>vp ru rv h1 h2
 |@tup n a b xs ys f h1 h2 h ih=>
  intro A u v ru rv hu;cases ru;cases rv;by_cases e:a=b
  ·have:=z_ I (.tup h1 h2 h) (congrArg V.ref e);rw [this,e];exact SeqAt.EqAt.same _
  ·obtain ⟨i1,v1,t1,_⟩:=I.tuple h1;obtain ⟨i2,v2,t2,_⟩:=I.tuple h2
   have:=SeqAt.RcAt.tuples (A:=A) (e:=f) (show s.heap.IsTuple a i1.toArray from t1) (show s.heap.IsTuple b i2.toArray from t2) (by omega) (λj g1 g2=>by
    obtain ⟨x,hx,rx⟩:=ft v1 g1;obtain ⟨y,hy,ry⟩:=ft v2 g2
    exact ih j x y hx hy rx ry (by show A.units+1+n<cLine;omega))
   rw [aaz,aaz,<-v1.length,<-v2.length] at this;exact SeqAt.EqAt.of_refs e this
 |@lst n a b xs ys f h1 h2 hl h ih=>
  intro A u v ru rv hu;cases ru;cases rv;by_cases e:a=b
  ·have:=z_ I (.lst h1 h2 hl h) (congrArg V.ref e);rw [this,e];exact SeqAt.EqAt.same _
  ·obtain ⟨i1,v1,t1,_⟩:=I.list h1;obtain ⟨i2,v2,t2,_⟩:=I.list h2
   have:=SeqAt.RcAt.lists (A:=A) (e:=f) t1.isList t2.isList (by rw [aaz,aaz,<-v1.length,<-v2.length];exact hl) (by omega) (λj g1 g2=>by
    obtain ⟨x,hx,rx⟩:=ft v1 g1;obtain ⟨y,hy,ry⟩:=ft v2 g2
    exact ih j x y hx hy rx ry (by show A.units+1+n<cLine;omega))
   rw [aaz,<-v1.length] at this;exact SeqAt.EqAt.of_refs e this
 |@len n a b xs ys h1 h2 hl=>
  intro A u v ru rv hu;cases ru;cases rv;have e:a≠b:=λe=>by subst e;cases I.gS h1 h2;exact hl rfl
  obtain ⟨i1,v1,t1,_⟩:=I.list h1;obtain ⟨i2,v2,t2,_⟩:=I.list h2;exact SeqAt.EqAt.of_refs e (SeqAt.RcAt.lists_lengths t1.isList t2.isList (by rw [List.size_toArray,List.size_toArray,<-v1.length,<-v2.length];simpa using hl) (by omega))
end
def SE(K:PySem.W.Frag)(n:Nat):R2:=λx y H Q=>∃a b c,x= .ref a/\y= .ref b/\Kw K H n x y c/\Q (.bl (!c)) H
section
variable{X:Cx}
theorem OB{n:Nat}(hu:X.A.units+n<cLine):jF X (compareOp .NotEq) (SE X.K n):=by
 intro ζ s σ H x y v u Q I rx ry h;obtain ⟨a,b,c,rfl,rfl,h,q⟩:=h;cases rx;cases ry;cases h with
 |flat h1 h2=>cases h1
 |@tup n _ _ xs ys f h1 h2 h=>
  obtain ⟨i1,v1,t1,_⟩:=I.tuple h1;obtain ⟨i2,v2,t2,_⟩:=I.tuple h2;refine SeqAt.RcNeAt.tuples (e:=f) (show s.heap.IsTuple a i1.toArray from t1) (show s.heap.IsTuple b i2.toArray from t2) (by omega) (λj g1 g2=>?_) _ _ _ _ ?_
  ·obtain ⟨x,hx,rx⟩:=ft v1 g1;obtain ⟨y,hy,ry⟩:=ft v2 g2;exact Ju I (h j x y hx hy) rx ry (by show X.A.units+1+n<cLine;omega)
  ·rw [aaz,aaz,<-v1.length,<-v2.length];exact ⟨.bl _,H,I,rfl,q⟩
 |@lst n _ _ xs ys f h1 h2 hl h=>
  obtain ⟨i1,v1,t1,_⟩:=I.list h1;obtain ⟨i2,v2,t2,_⟩:=I.list h2;refine SeqAt.RcNeAt.lists (e:=f) t1.isList t2.isList (by rw [aaz,aaz,<-v1.length,<-v2.length];exact hl) (by omega) (λj g1 g2=>?_) _ _ _ _ ?_
  ·obtain ⟨x,hx,rx⟩:=ft v1 g1;obtain ⟨y,hy,ry⟩:=ft v2 g2;exact Ju I (h j x y hx hy) rx ry (by show X.A.units+1+n<cLine;omega)
  ·rw [aaz,<-v1.length];exact ⟨.bl _,H,I,rfl,q⟩
 |@len n _ _ xs ys h1 h2 hl=>
  obtain ⟨i1,v1,t1,_⟩:=I.list h1;obtain ⟨i2,v2,t2,_⟩:=I.list h2;exact SeqAt.RcNeAt.lists_lengths t1.isList t2.isList (by rw [List.size_toArray,List.size_toArray,<-v1.length,<-v2.length];simpa using hl) (by omega) _ _ _ _ ⟨.bl _,H,I,rfl,q⟩
end
def lJ(M:Ms):Dt->Option (List Dt)
 |.lst xs=>some xs
 |.iY ns=>some (ns.map .int)
 |.loc k=>match M[k]? with
  |some (.lst xs)=>some xs
  |_=>none
 |_=>none
inductive xU(M:Ms):Nat->Dt->Dt->Bool->Prop
 |flat {n:Nat} {d e:Dt} {x y:V} (h1:ux d=some x) (h2:ux e=some y):xU M n d e (tM x y)
 |tup {n:Nat} {ds es:List Dt} {f:Nat->Bool} (h:∀j d e,ds[j]? =some d->es[j]? =some e->xU M n d e (f j)):xU M (n+1) (.tup ds) (.tup es) ((List.range (min ds.length es.length)).all f&&ds.length==es.length)
 |lst {n:Nat} {d e:Dt} {ds es:List Dt} {f:Nat->Bool} (h1:lJ M d=some ds) (h2:lJ M e=some es) (hl:ds.length=es.length) (h:∀j d e,ds[j]? =some d->es[j]? =some e->xU M n d e (f j)):xU M (n+1) d e ((List.range ds.length).all f)
 |len {n:Nat} {d e:Dt} {ds es:List Dt} (h1:lJ M d=some ds) (h2:lJ M e=some es) (hl:ds.length≠es.length):xU M (n+1) d e false
theorem fX{K:PySem.W.Frag}{G:Hp}{L:List Addr}{M:Ms}{H:Hp}{d:Dt}{v:V}{xs:List Dt}(r:Rl K G L M H)(n:Den K G L d v)(h:lJ M d=some xs):∃a vs,v= .ref a/\gy K H a vs/\Χ K G L xs vs:=by
 cases d with
 |lst ds=>cases h;obtain ⟨a,vs,rfl,e,m⟩:=n;exact ⟨a,vs,rfl,.of (r.sub _ _ e),m⟩
 |iY ns=>cases h;obtain ⟨a,rfl,e⟩:=n;exact ⟨a,_,rfl,r.sub.seq e,iP⟩
 |loc k=>
  obtain ⟨a,rfl,e⟩:=n;have h:(match M[k]? with|some (.lst xs)=>some xs|_=>none)=some xs:=h;split at h
  ·rename_i ys hm;cases h;obtain ⟨_,vs,e1,m1⟩:=r.fN k a _ e hm;exact ⟨a,vs,rfl,.of e1,m1⟩
  ·cases h
 |_=>cases h
theorem Χ.back{K:PySem.W.Frag}{G:Hp}{L:List Addr}{ds:List Dt}{vs:List V}{i:Nat}{v:V}(h:Χ K G L ds vs)(e:vs[i]? =some v):∃d,ds[i]? =some d/\Den K G L d v:=by
 have hi:i<ds.length:=by rw [h.length];exact (aaf.mp e).1
 obtain ⟨v',e',n⟩:=h.get (aaa hi);rw [e] at e';cases e';exact ⟨_,aaa hi,n⟩
theorem Tj{K:PySem.W.Frag}{G:Hp}{L:List Addr}{M:Ms}{H:Hp}(r:Rl K G L M H){n:Nat}{d e:Dt}{b:Bool}(h:xU M n d e b):∀{v u:V},Den K G L d v->Den K G L e u->Kw K H n v u b:=by
 induction h with
 |flat h1 h2=>
  intro v u n1 n2;obtain ⟨rfl,f1⟩:=j6 h1 n1;obtain ⟨rfl,f2⟩:=j6 h2 n2;exact .flat f1 f2
 |@tup n ds es f h ih=>
  intro v u n1 n2;obtain ⟨a,vs,rfl,e1,m1⟩:=n1;obtain ⟨b,us,rfl,e2,m2⟩:=n2;rw [m1.length,m2.length];refine .tup (.of (r.sub _ _ e1)) (.of (r.sub _ _ e2)) λj x y hx hy=>?_;obtain ⟨d,hd,dn⟩:=m1.back hx;obtain ⟨e,he,en⟩:=m2.back hy;exact ih j d e hd he dn en
 |@lst n d e ds es f h1 h2 hl h ih=>
  intro v u n1 n2;obtain ⟨a,vs,rfl,s1,m1⟩:=fX r n1 h1;obtain ⟨b,us,rfl,s2,m2⟩:=fX r n2 h2;rw [m1.length];refine .lst s1 s2 (by rw [<-m1.length,<-m2.length];exact hl) λj x y hx hy=>?_;obtain ⟨d,hd,dn⟩:=m1.back hx;obtain ⟨e,he,en⟩:=m2.back hy;exact ih j d e hd he dn en
 |@len n d e ds es h1 h2 hl=>
  intro v u n1 n2;obtain ⟨a,vs,rfl,s1,m1⟩:=fX r n1 h1;obtain ⟨b,us,rfl,s2,m2⟩:=fX r n2 h2;exact .len s1 s2 (by rw [<-m1.length,<-m2.length];exact hl)
def OV(M:Ms)(d:Dt):Prop:=(∃ds,d= .tup ds)\/∃xs,lJ M d=some xs
theorem D_{K:PySem.W.Frag}{G:Hp}{L:List Addr}{M:Ms}{H:Hp}{d:Dt}{v:V}(r:Rl K G L M H)(n:Den K G L d v)(h:OV M d):∃a,v= .ref a:=by
 rcases h with ⟨ds,rfl⟩|⟨xs,h⟩
 ·obtain ⟨a,vs,rfl,_⟩:=n;exact ⟨a,rfl⟩
 ·obtain ⟨a,vs,rfl,_⟩:=fX r n h;exact ⟨a,rfl⟩
def Uc(n:Nat):Dt->Dt->Ms->DQ->Prop:=λd e M q=>∃b,OV M d/\OV M e/\xU M n d e b/\q (.bl (!b)) M
theorem W2{K:PySem.W.Frag}{n:Nat}:n9 K (SE K n) (Uc n):=by intro G0 L0 H0 G L M H v1 v2 d1 d2 q e r n1 n2 ⟨b,h1,h2,h,hq⟩;obtain ⟨a,rfl⟩:=D_ r n1 h1;obtain ⟨a',rfl⟩:=D_ r n2 h2;exact ⟨a,a',b,rfl,rfl,Tj r h n1 n2,bA e r hq⟩
section
variable{X:Cx}{R:St->XK}{a b e l u:Expr}{ta tb te tl tu:DE}{t:DA}{pos p p2:Pos}{k':Nat}
theorem VJ{A:Around}{k n:Nat}(hr:bM k A)(hn:n<=64):A.units+n<cLine:=aaK (Nat.add_le_add_left hn _) hr.units
theorem Hl(n:Nat)(hr:bM k' X.A)(ja:JE X R a ta)(jb:JE X R b tb)(hn:n<=64:=by decide)(hm:behindInMarks .NotEq b=false:=by rfl):JT X R (.Compare a [.NotEq] [b] pos) (om (kX (Uc n) ta tb)):=jk (OB (VJ hr hn)) W2 ja jb hm
theorem Gi(xs:List V)(k:Nat):tT xs none (some (k:Int))=xs.take k:=by
 unfold tT;rw [HT.p_,HT.zI,aca,Nat.sub_zero];by_cases h:k<=xs.length
 ·rw [ab3 h]
 ·rw [Nat.min_eq_right (by omega),abw (aah _),abw (by omega)]
def Q2(te tl:DE):DE:=λρ M q x=>te ρ M (λd M1=>tl ρ M1 (λdi M2=>∃ds n,lJ M2 d=some ds/\di= .int (n:Nat)/\q (.loc M2.length) (M2++[.lst (ds.drop n)])) x) x
theorem nN(he:JE X R e te)(hl:JE X R l tl):JE X R (.Subscript e (.Slice (some l) none none p2) pos) (Q2 te tl):=
 .of (qJ v8 he (kQ hl) DZ) λσ H G L ρ M q x rl n h hx=>by refine ⟨G,L,ρ,M,_,x,rl,n,h,hx,λv H1 ⟨d1,G1,L1,M1,e1,r1,n1,h1⟩=>?_⟩;refine ⟨G1,L1,ρ,M1,_,x,r1,n.mono e1,h1,hx.on e1,λv2 H2 ⟨d2,G2,L2,M2,e2,r2,n2,ds,k,ed,ei,h2⟩=>?_⟩;subst ei;obtain ⟨a,vs,rfl,sq,m⟩:=fX r2 (Den.mono e2.g e2.l _ _ n1) ed;have n2:v2= .int k:=n2;subst n2;refine ⟨k,rfl,a,vs,rfl,sq,λp hp=>?_⟩;rw [Gf];exact jz (e1.trans e2) r2 hp (Χ.of (sE k m.pair)) h2
end
open PySem PySem.SeqAt
def z7(M:Ms):Dt->Option (List Dt)
 |.lst xs=>some xs
 |.loc k=>match M[k]? with
  |some (.lst xs)=>some xs
  |_=>none
 |_=>none
theorem xC{K:PySem.W.Frag}{G:Hp}{L:List Addr}{M:Ms}{H:Hp}{d:Dt}{v:V}{xs:List Dt}(r:Rl K G L M H)(n:Den K G L d v)(h:z7 M d=some xs):∃a vs,v= .ref a/\H a=some (.lst vs)/\Χ K G L xs vs:=by
 cases d with
 |lst ds=>cases h;obtain ⟨a,vs,rfl,e,m⟩:=n;exact ⟨a,vs,rfl,r.sub _ _ e,m⟩
 |loc k=>
  obtain ⟨a,rfl,e⟩:=n;have h:(match M[k]? with|some (.lst xs)=>some xs|_=>none)=some xs:=h;split at h
  ·rename_i ys hm;cases h;obtain ⟨_,vs,e1,m1⟩:=r.fN k a _ e hm;exact ⟨a,vs,rfl,e1,m1⟩
  ·cases h
 |_=>cases h
def NL:Dt->Dt->Ms->DQ->Prop:=λd e M q=>∃xs ys,z7 M d=some xs/\z7 M e=some ys/\xs.length+ys.length<=sizeLine/\q (.lst (xs++ys)) M
theorem SD{K:PySem.W.Frag}:n9 K Qp NL:=by intro G0 L0 H0 G L M H v1 v2 d1 d2 q e r n1 n2 ⟨xs,ys,h1,h2,hz,hq⟩;obtain ⟨p1,w1,rfl,e1,m1⟩:=xC r n1 h1;obtain ⟨p2,w2,rfl,e2,m2⟩:=xC r n2 h2;refine ⟨p1,p2,w1,w2,rfl,rfl,e1,e2,by rw [<-m1.length,<-m2.length];exact hz,λp hp=>?_⟩;exact kS e r hp (qd r hp (m1.app m2)) hq
section
variable{X:Cx}{R:St->XK}{a b:Expr}{ta tb:DE}{pos:Pos}
theorem ma(ja:JE X R a ta)(jb:JE X R b tb):JE X R (.BinOp a .Add b pos) (kX NL ta tb):=xx JL SD ja jb
end
section
variable{X:Cx}{R:St->XK}{e l:Expr}{te tl:DE}{pos p2:Pos}
def G7(te tl:DE):DE:=λρ M q x=>te ρ M (λd M1=>tl ρ M1 (λdi M2=>∃ds n,lJ M2 d=some ds/\di= .int (n:Nat)/\q (.loc M2.length) (M2++[.lst (ds.take n)])) x) x
theorem vo(he:JE X R e te)(hl:JE X R l tl):JE X R (.Subscript e (.Slice none (some l) none p2) pos) (G7 te tl):=
 .of (qJ v8 he DZ (kQ hl)) λσ H G L ρ M q x rl n h hx=>by refine ⟨G,L,ρ,M,_,x,rl,n,h,hx,λv H1 ⟨d1,G1,L1,M1,e1,r1,n1,h1⟩=>?_⟩;refine ⟨G1,L1,ρ,M1,_,x,r1,n.mono e1,h1,hx.on e1,λv2 H2 ⟨d2,G2,L2,M2,e2,r2,n2,ds,k,ed,ei,h2⟩=>?_⟩;subst ei;obtain ⟨a,vs,rfl,sq,m⟩:=fX r2 (Den.mono e2.g e2.l _ _ n1) ed;have n2:v2= .int k:=n2;subst n2;refine ⟨k,rfl,a,vs,rfl,sq,λp hp=>?_⟩;rw [Gi];exact jz (e1.trans e2) r2 hp (Χ.of (qA k m.pair)) h2
end
def zj(g:Dt->En->(En->Prop)->Prop)(te:DE)(ρ0:En)(ok:Ms->Prop):List Dt->List Dt->Ms->(List Dt->Ms->Prop)->Prop
 |[],Ι,M,k=>ok M/\k Ι M
 |x::xs,Ι,M,k=>ok M/\g x ρ0 λρ'=>te ρ' M (λd M2=>zj g te ρ0 ok xs (Ι++[d]) M2 k) k8
def AR(n:Nat)(ti:DK)(g:Dt->En->(En->Prop)->Prop)(te:DE)(ak:List Nat):DE:=λρ M q x=>ti ρ M (λxs ok M1=>xs.length<=sizeLine/\zj g te (List.replicate n none++pV ak ρ) ok xs [] M1 (λys M2=>q (.lst ys) M2)) x
theorem D3{g:Dt->En->(En->Prop)->Prop}{te:DE}{cs:En}{ok:Ms->Prop}:∀xs,zj g te cs ok xs=iR g sP te cs ok xs
 |[]=>rfl
 |x::xs=>funext λΙ=>funext λM=>funext λk=>by show (ok M/\g x cs λρ'=>te ρ' M (λd M1=>zj g te cs ok xs (Ι++[d]) M1 k) k8)=(ok M/\g x cs λρ'=>te ρ' M (λd M1=>iR g sP te cs ok xs (Ι++[d]) M1 k) k8);rw [D3 xs]
section
variable{X:Cx}{R:St->XK}{elt iter:Expr}{x y:Str}{px py tp:Pos}{scope:Scope}{pos:Pos}{ti:DK}{te:DE}{ys:List Str}{ak:List Nat}{kk:Nat}
theorem Dq(S:aF X scope [x,y] ys ak)(hi:JK X R (.Tuple [.Name x px, .Name y py] kk tp) iter ti)(he:∀C s H fp,JE (Cx.comp X (x::y::ys) scope C s H fp) (λ_=>E0) elt te)(hc:X.calm=true:=by rfl)(hs:∀x,foldedSetIterable iter X.env x=pure x:=by intro _;rfl):JE X R (.ListComp elt [⟨.Tuple [.Name x px, .Name y py] kk tp,iter,[],0⟩] scope pos) (AR 2 ti (g2 0 1) te ak):=Tf false S hi (DN hc S) oi (u7 (Nat.zero_lt_succ 1) (Nat.lt_succ_self 1)) (λ_ _ _ _=>pZ) he hc hs λρ M q x h=>by unfold AR at h;simp only [D3] at h;exact h
end
theorem oh{g:Dt->En->(En->Prop)->Prop}{te:DE}{ρ0:En}{ok:Ms->Prop}{M:Ms}{k:List Dt->Ms->Prop}(ho:ok M)(f:Dt->Dt):∀(xs Ι:List Dt),(∀x∈xs,∀q:DQ,q (f x) M->g x ρ0 λρ'=>te ρ' M q k8)->k (Ι++xs.map f) M->zj g te ρ0 ok xs Ι M k
 |[],Ι,_,h=>⟨ho,by simpa using h⟩
 |x::xs,Ι,ht,h=>⟨ho,ht x List.mem_cons_self _ (oh ho f xs _ (λy hy=>ht y (List.mem_cons_of_mem _ hy)) (by simpa using h))⟩
theorem EO(xs:List V)(a b:Nat):tT xs (some (a:Int)) (some (b:Int))=(xs.drop a).take (b-a):=by
 unfold tT;rw [HT.p_,HT.p_];by_cases ha:a<=xs.length
 ·rw [ab3 ha];by_cases hb:b<=xs.length
  ·rw [ab3 hb]
  ·rw [Nat.min_eq_right (by omega),abw (by rw [abp];omega),abw (by rw [abp];omega)]
 ·have h1:min a xs.length=xs.length:=Nat.min_eq_right (by omega);rw [h1,List.drop_of_length_le (aah xs.length),List.drop_of_length_le (show xs.length<=a by omega)];simp
section
variable{X:Cx}{R:St->XK}{e l u a b:Expr}{te tl tu ta tb:DE}{pos p2:Pos}
def Tn(te tl tu:DE):DE:=λρ M q x=>te ρ M (λd M1=>tl ρ M1 (λdi M2=>∃n:Nat,di= .int n/\tu ρ M2 (λdu M3=>∃ds m,lJ M3 d=some ds/\du= .int (m:Nat)/\q (.loc M3.length) (M3++[.lst ((ds.drop n).take (m-n))])) x) x) x
theorem ui(he:JE X R e te)(hl:JE X R l tl)(hu:JE X R u tu):JE X R (.Subscript e (.Slice (some l) (some u) none p2) pos) (Tn te tl tu):=
 .of (qJ v8 he (kQ hl) (kQ hu)) λσ H G L ρ M q x rl n h hx=>by refine ⟨G,L,ρ,M,_,x,rl,n,h,hx,λv H1 ⟨d1,G1,L1,M1,e1,r1,n1,h1⟩=>?_⟩;refine ⟨G1,L1,ρ,M1,_,x,r1,n.mono e1,h1,hx.on e1,λv2 H2 ⟨d2,G2,L2,M2,e2,r2,n2,k,ek,h2⟩=>?_⟩;subst ek;have n2:v2= .int k:=n2;subst n2;refine ⟨k,rfl,G2,L2,ρ,M2,_,x,r2,(n.mono e1).mono e2,h2,(hx.on e1).on e2,λv3 H3 ⟨d3,G3,L3,M3,e3,r3,n3,ds,m,ed,em,h3⟩=>?_⟩;subst em;have FU:=e2.trans e3;obtain ⟨a,vs,rfl,sq,dn⟩:=fX r3 (Den.mono FU.g FU.l _ _ n1) ed;have n3:v3= .int m:=n3;subst n3;refine ⟨m,rfl,a,vs,rfl,sq,λp hp=>?_⟩;rw [EO];exact jz (e1.trans FU) r3 hp (Χ.of (qA (m-k) (sE k dn.pair))) h3
def Nq:Dt->Dt->Ms->DQ->Prop:=λd e M q=>∃xs k,z7 M d=some xs/\e= .int k/\ -(2^63)<=k/\k<2^63/\xs.length*k.toNat<=sizeLine/\q (.loc M.length) (M++[.lst (List.replicate k.toNat xs).flatten])
theorem R6{K:PySem.W.Frag}:n9 K OI Nq:=by intro G0 L0 H0 G L M H v1 v2 d1 d2 q e r n1 n2 ⟨xs,k,h1,h2,a,b,hz,hq⟩;obtain ⟨p1,w1,rfl,e1,m1⟩:=xC r n1 h1;subst h2;have n2:v2= .int k:=n2;subst n2;refine ⟨p1,k,w1,rfl,rfl,e1,a,b,by rw [<-m1.length];exact hz,λp hp=>?_⟩;exact jz e r hp (Χ.of (vE m1.pair k.toNat)) hq
theorem A6(ja:JE X R a ta)(jb:JE X R b tb):JE X R (.BinOp a .Mult b pos) (kX Nq ta tb):=xx Hw R6 ja jb
end
def Jv(ks:List Key)(k:Key):Bool:=ks.any λc=>decide (c=k)
theorem mY{k:Key}:∀{ks:List Key}{vs:List V},ks.length=vs.length->(jK (ks.zip vs) k).isSome=Jv ks k
 |[],[],_=>rfl
 |c::ks,v::vs,h=>by
  have h:ks.length=vs.length:=by simpa using h
  rw [abd];by_cases e:c=k
  ·rw [eD e];subst e;simp [Jv]
  ·rw [eI e,mY h];unfold Jv;rw [abI,decide_eq_false e,Bool.false_or]
section
variable{X:Cx}{R:St->XK}{o i e a b:Expr}{to ti te ta tb:DE}{pos p:Pos}{k':Nat}
theorem wJ:JE X R (.Dict [] [] pos) (λ_ M q _=>q (.loc M.length) (M++[.ef [] []])):=
 .of HG λσ H G L ρ M q x rl n h hx=>by intro p hp;exact ⟨.loc M.length,G,L++[p],_,rl.Uj hp,rl.MC (m:= .ef [] []) hp ⟨[],Ω,rfl,rfl⟩,⟨p,rfl,by rw [<-rl.len,List.getElem?_append_right (Nat.le_refl _)];simp⟩,h⟩
def TC:Dt->Dt->Ms->DQ->Prop:=λdi d M q=>∃k ks ds key,d= .loc k/\M[k]? =some (.ef ks ds)/\Ad di=some key/\q (.bl (Jv ks key)) M
theorem PX(hu:X.A.units+1<cLine):jF X (compareOp .In) (λy x H Q=>∃a o,x=V.ref a/\vn H a y o/\Q (.bl o.isSome) H):=by intro ζ s σ H x y u v Q I rx ry ⟨a,o,ex,g,q⟩;subst ex;obtain rfl:v=Value.ref a:=ry;exact Yk hu I g rx λs3 I3=>⟨.bl o.isSome,H,I3,rfl,q⟩
theorem W_{K:PySem.W.Frag}:n9 K (λy x H Q=>∃a o,x=V.ref a/\vn H a y o/\Q (.bl o.isSome) H) TC:=by intro G0 L0 H0 G L M H v1 v2 d1 d2 q e r n1 n2 ⟨k,ks,ds,key,ed,hm,hk,h⟩;subst ed;obtain ⟨a,rfl,Hi⟩:=n2;obtain ⟨_,vs,hH,hl,dn⟩:=r.fN k a _ Hi hm;refine ⟨a,_,rfl,.inl ⟨_,key,.inl hH,kJ hk n1,rfl⟩,?_⟩;have E9:ks.length=vs.length:=hl.trans dn.length;rw [mY E9];exact bA e r h
theorem Tb(hr:bM k' X.A)(ja:JE X R a ta)(jb:JE X R b tb)(hm:behindInMarks .In b=false:=by rfl):JE X R (.Compare a [.In] [b] pos) (kX TC ta tb):=y6 (PX (Ea hr)) W_ ja jb hm
end
def fL(ks:List Key)(k:Key):List Key:=if Jv ks k=true then ks else ks++[k]
def lu{α:Type}(k:Key)(v:α):List Key->List α->List α
 |c::ks,x::xs=>(if c=k then v else x)::lu k v ks xs
 |_,_=>[]
def eA{α:Type}(ks:List Key)(k:Key)(xs:List α)(v:α):List α:=if Jv ks k=true then lu k v ks xs else xs++[v]
theorem o_{α:Type}{k:Key}{v:α}:∀{ks:List Key}{xs:List α},ks.length=xs.length->(lu k v ks xs).length=ks.length
 |[],[],_=>rfl
 |_::ks,_::xs,h=>by
  have h:ks.length=xs.length:=by simpa using h
  show (lu k v ks xs).length+1=ks.length+1;rw [o_ h]
theorem uD{k:Key}{v:V}:∀{ks:List Key}{vs:List V},ks.length=vs.length->(ks.zip vs).map (λkv=>if kv.1=k then (kv.1,v) else kv)=ks.zip (lu k v ks vs)
 |[],[],_=>rfl
 |c::ks,x::vs,h=>by
  have h:ks.length=vs.length:=by simpa using h
  rw [abd,aaB,uD h];show _=(c,if c=k then v else x)::ks.zip (lu k v ks vs)
  congr 1
  show (if c=k then (c,v) else (c,x))=_;split <;> rfl
theorem oM{K:PySem.W.Frag}{G:Hp}{L:List Addr}{k:Key}{d:Dt}{v:V}(n:Den K G L d v):∀{ks:List Key}{ds:List Dt}{vs:List V},Χ K G L ds vs->ks.length=ds.length->Χ K G L (lu k d ks ds) (lu k v ks vs)
 |[],[],_,h,_=>by cases h;rfl
 |c::ks,x::ds,_,⟨y,vs,e,n0,ns⟩,hl=>by
  subst e;have hl:ks.length=ds.length:=by simpa using hl
  refine ⟨_,_,rfl,?_,oM n ns hl⟩;show Den K G L (if c=k then d else x) (if c=k then v else y);split
  ·exact n
  ·exact n0
theorem Hb{k:Key}{v:V}{ks:List Key}{vs:List V}(h:ks.length=vs.length):iA (ks.zip vs) k v=(fL ks k).zip (eA ks k vs v):=by
 unfold iA fL eA;rw [m8,mY h];split
 ·exact uD h
 ·rw [List.zip_append h];rfl
def xv(to ti tv:DE):DS:=λDn ρ M=>tv ρ M (λy M1=>to ρ M1 (λd M2=>ti ρ M2 (λdi M3=>∃k ks ds key,d= .loc k/\M3[k]? =some (.ef ks ds)/\Ad di=some key/\ks.length<1000/\Dn.nx ρ (M3.set k (.ef (fL ks key) (eA ks key ds y)))) Dn.x) Dn.x) Dn.x
section
variable{X:Cx}{R:St->XK}{o i value:Expr}{to ti tv:DE}{pos pos':Pos}{k':Nat}
theorem qm(hr:bM k' X.A)(ho:JE X R o to)(hi:JE X R i ti)(hv:JE X R value tv)(hs:swapsWith value (some (.Subscript o i pos')) pos.line X.env=pure false:=by rfl):JS X R (.Assign [.Subscript o i pos'] value pos) (xv to ti tv):=
 .of (Lk (Ea hr) ho hi hv hs) λσ H G L ρ M Dn rl n h hx=>by
  refine ⟨G,L,ρ,M,_,_,rl,n,h,hx,λv H1 ⟨dv,G1,L1,M1,e1,r1,n1,h1⟩=>?_⟩;refine ⟨G1,L1,ρ,M1,_,_,r1,n.mono e1,h1,hx.on e1,λov H2 ⟨d,G2,L2,M2,e2,r2,n2,h2⟩=>?_⟩;refine ⟨G2,L2,ρ,M2,_,_,r2,(n.mono e1).mono e2,h2,(hx.on e1).on e2,λiv H3 ⟨di,G3,L3,M3,e3,r3,n3,k,ks,ds,key,ed,hm,hk,hlen,h3⟩=>?_⟩;subst ed;obtain ⟨a,rfl,Gw⟩:=n2;have AW:=e3.l.get Gw;obtain ⟨_,vs,hH,hl,dn⟩:=r3.fN k a _ AW hm;have FU:=e2.trans e3;have Ui:=Den.mono FU.g FU.l _ _ n1;have E9:ks.length=vs.length:=hl.trans dn.length;obtain rfl:iv=kV key:=kJ hk n3;have z:(ks.zip vs).length<sizeLine:=by rw [abe];exact aaK (Nat.min_le_left _ _) (Nat.lt_trans hlen (by decide))
  refine ⟨a,_,rfl,J_.k hH z,ρ,G3,L3,_,((e1.trans e2).trans e3).trans (r3.J1 AW),r3.setM (m:= .ef (fL ks key) (eA ks key ds dv)) AW ⟨eA ks key vs v,by rw [Ω,Hb E9],?_,?_⟩,(((n.mono e1).mono e2).mono e3).mono (r3.J1 (o:= .own a) AW),h3⟩
  ·unfold fL eA;split
   ·rw [o_ hl]
   ·rw [aag,aag,hl];rfl
  ·unfold eA;split
   ·exact oM Ui dn hl
   ·exact dn.app ⟨_,_,rfl,Ui,rfl⟩
end
section
variable{X:Cx}{R:St->XK}{o i e f a b v1 v2:Expr}{to ti te ta tb tx t1 t2:DE}{t:DA}{pos p apos cJ:Pos}{k':Nat}
def D':Dt->Dt->Ms->DQ->Prop:=λdi d M q=>∃k ks ds key,d= .loc k/\M[k]? =some (.ef ks ds)/\Ad di=some key/\q (.bl (!Jv ks key)) M
theorem F_(hu:X.A.units+1<cLine):jF X (compareOp .NotIn) (λy x H Q=>∃a o,x=V.ref a/\vn H a y o/\Q (.bl (!o.isSome)) H):=by intro ζ s σ H x y u v Q I rx ry ⟨a,o,ex,g,q⟩;subst ex;obtain rfl:v=Value.ref a:=ry;exact Ln hu I g rx λs3 I3=>⟨.bl (!o.isSome),H,I3,rfl,q⟩
theorem LR{K:PySem.W.Frag}:n9 K (λy x H Q=>∃a o,x=V.ref a/\vn H a y o/\Q (.bl (!o.isSome)) H) D':=by intro G0 L0 H0 G L M H v1 v2 d1 d2 q e r n1 n2 ⟨k,ks,ds,key,ed,hm,hk,h⟩;subst ed;obtain ⟨a,rfl,Hi⟩:=n2;obtain ⟨_,vs,hH,hl,dn⟩:=r.fN k a _ Hi hm;refine ⟨a,_,rfl,.inl ⟨_,key,.inl hH,kJ hk n1,rfl⟩,?_⟩;have E9:ks.length=vs.length:=hl.trans dn.length;rw [mY E9];exact bA e r h
theorem Fh(hr:bM k' X.A)(ja:JE X R a ta)(jb:JE X R b tb)(hm:behindInMarks .NotIn b=false:=by rfl):JT X R (.Compare a [.NotIn] [b] pos) (om (kX D' ta tb)):=jk (F_ (Ea hr)) LR ja jb hm
theorem vF:c8 X (.type "dict") (λxs H Q=>∃a Ο,xs=[V.ref a]/\Rd H a (.dK Ο)/\∀p,H p=none->Q (.ref p) (upd H p (.dK Ο))):=by
 intro ζ s σ H xs us Q I r ⟨a,Ο,ex,e,q⟩;subst ex;cases r with
 |cons r1 r2=>
  cases r2;cases r1;exact J8 I e λp s' hp I'=>⟨.ref p,_,I',rfl,q p hp⟩
def J7:List Dt->Ms->DQ->Prop
 |[d],M,q=>∃k ks ds,d= .loc k/\M[k]? =some (.ef ks ds)/\q (.loc M.length) (M++[.ef ks ds])
 |_,_,_=>False
theorem Ua{K:PySem.W.Frag}:BD K (λxs H Q=>∃a Ο,xs=[V.ref a]/\Rd H a (.dK Ο)/\∀p,H p=none->Q (.ref p) (upd H p (.dK Ο))) J7:=by
 intro G0 L0 H0 G L M H vs ds q e r n h;unfold J7 at h;split at h
 ·rename_i d;obtain ⟨v,rfl,n1⟩:=br n;obtain ⟨k,ks,ds,ed,hm,h⟩:=h;subst ed;obtain ⟨a,rfl,hk⟩:=n1;obtain ⟨_,vs,hH,hl,dn⟩:=r.fN k a _ hk hm;refine ⟨a,_,rfl,.inl hH,λp hp=>?_⟩;exact ⟨.loc M.length,G,L++[p],_,e.trans (r.Uj hp),r.MC (m:= .ef ks ds) hp ⟨vs,Ω,hl,Χ.mono (.refl _) ⟨[p],rfl⟩ _ _ dn⟩,⟨p,rfl,by rw [<-r.len,List.getElem?_append_right (Nat.le_refl _)];simp⟩,h⟩
 ·exact h.elim
theorem Cn:bootBuiltins "dict"=some (.type "dict"):=by decide+kernel
theorem Iu(hm:X.mg "dict"=none)(ha:JA X R [e] t)(hg:Gl X "dict":=by rfl)(he:starEach [e] X.env=(false,eval e X.env)::starEach [] X.env:=by rfl)(fJ:(backTo pos (starEach [] X.env)).any (·.1)=false:=by rfl):JE X R (.Call (.Name "dict" p) [e] [] pos) (Av J7 t):=
 sM vF Ua hm Cn ha hg (by decide) (by decide) he fJ
end
section
variable{X:Cx}{R:St->XK}{o e f v1 v2:Expr}{to te tx t1 t2:DE}{pos apos cJ:Pos}
theorem Dy{K:PySem.W.Frag}{G1:Hp}{L1:List Addr}{H1 G:Hp}{L:List Addr}{M:Ms}{H:Hp}{p:Addr}{ks:List Key}{ds:List Dt}{vs:List V}{q:DQ}(e:Ex G1 L1 H1 G L H)(r:Rl K G L M H)(Gv:H1 p=none)(hg:G p=none)(hl:p∉L)(h:H p=some (.dK (ks.zip vs)))(hk:ks.length=ds.length)(n:Χ K G L ds vs)(k:q (.loc M.length) (M++[.ef ks ds])):Fin K G1 L1 H1 q (.ref p) H:=by
 refine ⟨.loc M.length,G,L++[p],M++[.ef ks ds],⟨e.g,e.l.trans ⟨[p],rfl⟩,e.fr,e.out,λb hb=>?_,e.B7⟩,⟨r.sub,by rw [List.length_append,List.length_append,r.len];rfl,List.nodup_append.mpr ⟨r.nd,by simp,λa ha b hb=>?_⟩,λk a m h1 h2=>?_⟩,⟨p,rfl,by rw [<-r.len,List.getElem?_append_right (Nat.le_refl _)];simp⟩,k⟩
 ·rcases aaN.mp hb with z|z
  ·exact e.new b z
  ·have e:b=p:=by simpa using z
   right;rw [e];exact Gv
 ·have e:b=p:=by simpa using hb
  rw [e];exact λz=>hl (z▸ha)
 ·by_cases tm:k<L.length
  ·rw [aao tm] at h1;rw [aao (by rw [<-r.len];exact tm)] at h2;obtain ⟨q1,q2⟩:=r.fN k a m h1 h2;exact ⟨q1,q2.mono (.refl _) ⟨[p],rfl⟩ rfl⟩
  ·have e:k=L.length:=by have:=(aaf.mp h1).1;rw [aag] at this;simp at this;omega
   rw [e,aal (aah _)] at h1;rw [e,r.len,aal (aah _)] at h2;simp at h1 h2;subst h1 h2;exact ⟨hg,vs,h,hk,Χ.mono (.refl _) ⟨[p],rfl⟩ _ _ n⟩
theorem Lb{z1 z2:Str}{c1 c2:Nat}{p1 p2:Pos}(U6:JE X R v1 t1)(hv2:JE X R v2 t2)(kM:z1≠z2:=by decide):
  JE X R (.Dict [some (.Constant (.str z1) c1 p1),some (.Constant (.str z2) c2 p2)] [v1,v2] pos) (λρ M q x=>t1 ρ M (λd1 M1=>t2 ρ M1 (λd2 M2=>q (.loc M2.length) (M2++[.ef [Sum.inr z1,Sum.inr z2] [d1,d2]])) x) x):=
 .of (CQ (sI Zt U6 (sI Zt hv2 CP)) rfl rfl (by simp) (by show 2<=15;decide)) λσ H G L ρ M q x rl n h hx=>by
  intro p hp;have gn:G p=none:=rl.sub.free hp;have ln:p∉L:=rl.LN hp;have e0:Ex G L H G L (upd H p (.dK [])):=⟨.refl _,.refl _,λ_ h _=>h,λb u h1 _=>by rw [Θ (λz=>by rw [z,hp] at h1;cases h1)];exact h1,λ_ h=> .inl h,λb h=>by rw [Θ (λz=>h (by rw [z];exact hp))];exact h⟩
  have r0:Rl X.K G L M (upd H p (.dK [])):=⟨λb u e=>by rw [Θ (λz=>by rw [z,gn] at e;cases e)];exact rl.sub b u e,rl.len,rl.nd,λi a m h1 h2=>by
   obtain ⟨q1,q2⟩:=rl.fN i a m h1 h2
   exact ⟨q1,q2.mono (.refl _) (.refl _) (Θ λz=>q2.there (by rw [z];exact hp))⟩⟩
  refine ⟨G,L,ρ,M,_,x,r0,n,h,hx.on e0,λu1 H1 ⟨d1,G1,L1,M1,e1,r1,n1,h1⟩=>?_⟩;have Gv:H1 p=some (.dK []):=e1.out _ _ Ω ln;have g1:G1 p=none:=e1.fr _ gn (by rw [Ω];simp);have l1:p∉L1:=λz=>(e1.new _ z).elim ln λq=>by rw [Ω] at q;cases q
  refine ⟨G1,L1,ρ,M1,_,x,r1,n.mono (e0.trans e1),h1,hx.on (e0.trans e1),λu2 H2 ⟨d2,G2,L2,M2,e2,r2,n2,h2⟩=>?_⟩;have TH:H2 p=some (.dK []):=e2.out _ _ Gv l1;have g2:G2 p=none:=e2.fr _ g1 (by rw [Gv];simp);have l2:p∉L2:=λz=>(e2.new _ z).elim l1 λq=>by rw [Gv] at q;cases q
  refine ⟨TH,[(Sum.inr z1,u1),(Sum.inr z2,u2)],rfl,by show 2<=15;decide,?_⟩;rw [nJ _ [] (λ_ _=>rfl) (by simp [kM]),List.nil_append];have QM:=(e0.trans e1).trans e2;have WZ:∀{b:Addr} {w:HO},G2 b=some w->b≠p:=λe z=>by rw [z,g2] at e;cases e
  refine Dy (G:=G2) (L:=L2) (M:=M2) (ks:=[Sum.inr z1,Sum.inr z2]) (ds:=[d1,d2]) (vs:=[u1,u2]) ⟨QM.g,QM.l,QM.fr,λb w h1 h2=>?_,QM.new,λb h=>?_⟩ ⟨λb w e=>?_,r2.len,r2.nd,λi a m h1 h2=>?_⟩ hp g2 l2 Ω rfl ⟨_,_,rfl,Den.mono e2.g e2.l _ _ n1,_,_,rfl,n2,rfl⟩ h2
  ·rw [Θ (λz=>by rw [z,hp] at h1;cases h1)];exact QM.out b w h1 h2
  ·by_cases hb:b=p
   ·rw [hb,Ω];simp
   ·rw [Θ hb];exact QM.B7 b h
  ·rw [Θ (WZ e)];exact r2.sub b w e
  ·obtain ⟨q1,q2⟩:=r2.fN i a m h1 h2;exact ⟨q1,q2.mono (.refl _) (.refl _) (Θ λz=>l2 (by rw [<-z];exact aak h1))⟩
end
def iF{α:Type}(is:List Nat)(xs:List α):List α:=is.filterMap λi=>xs[i]?
theorem Bv{α β:Type}{F:α->β->Prop}:∀{xs:List α}{ys:List β},Paired F xs ys->∀{i:Nat}{x:α},xs[i]? =some x->∃y,ys[i]? =some y/\F x y
 |_,_,.nil,i,x,h=>by simp at h
 |_,_,.cons r t,0,x,h=>by obtain rfl:=aas h;exact ⟨_,rfl,r⟩
 |_,_,.cons r t,i+1,x,h=>by obtain ⟨y,e,f⟩:=Bv t (show _=some x by simpa using h);exact ⟨y,by simpa using e,f⟩
theorem qy{α β:Type}{F:α->β->Prop}{xs:List α}{ys:List β}(p:Paired F xs ys):∀is:List Nat,Paired F (iF is xs) (iF is ys)
 |[]=> .nil
 |i::is=>by
  have ih:=qy p is;unfold iF at ih⊢;rw [abV,abV];cases hx:xs[i]? with
  |none=>
   have:ys[i]? =none:=by rw [List.getElem?_eq_none_iff] at hx⊢;rw [<-Paired.length p];exact hx
   rw [this];exact ih
  |some x=>
   obtain ⟨y,hy,r⟩:=Bv p hx;rw [hy];exact .cons r ih
theorem Fe{a b:Nat}(its:List Value)(hb:0<b)(ha:a<=its.length):slicePick its.toArray (some (a:Int)) none (some (b:Int))=(iF (sliceRange a its.length b) its).toArray:=by
 have hs:sliceBounds (some (a:Int)) none (some (b:Int)) its.length=((a:Int),(its.length:Int),(b:Int)):=by
  unfold sliceBounds;have h1:(b:Int) > 0:=by omega
  have h2:¬(a:Int)<0:=by omega
  simp only [Option.getD_some,h1,if_true,h2,if_false];refine Prod.ext ?_ rfl;show max (0:Int) (min (a:Int) (its.length:Int))=a;omega
 unfold slicePick;rw [aaz,hs]
 congr 1
 unfold iF
 congr 1
 funext i
 simp
section
variable{X:Cx}{e l k:Expr}{te tl tk:TE}{pos p2:Pos}
def RB(K:PySem.W.Frag)(a b:Nat)(te tl tk:TE):TE:=λσ H Q=>te σ H λx H1=>tl σ H1 λy H2=>∃i:Int,y= .int i/\some i=some (a:Int)/\tk σ H2 λz H3=>∃j:Int,z= .int j/\some j=some (b:Int)/\∃c xs,x= .ref c/\gy K H3 c xs/\a<=xs.length/\(sliceRange a xs.length b).length<=xs.length/\∀p,H3 p=none->Q (.ref p) (upd H3 p (.lst (iF (sliceRange a xs.length b) xs)))
theorem GG{α:Type}{xs:List α}:∀is:List Nat,(iF is xs).length<=is.length:=λis=>List.length_filterMap_le _ _
theorem KI{a b:Nat}(hb:0<b)(he:PE X e te)(hl:PE X l tl)(hk:PE X k tk):PE X (.Subscript e (.Slice (some l) none (some k) p2) pos) (RB X.K a b te tl tk):=by intro ζ s σ H Q I h;refine Subscript_ (bC (he ζ s σ H _ I h) λv s1 ⟨x,H1,I1,r1,q1⟩=>?_);refine wpAny_Slice (bC (kQ hl ζ s1 σ H1 (λo H2=>o=some (a:Int)/\tk σ H2 λz H3=>∃j:Int,z= .int j/\some j=some (b:Int)/\∃c xs,x= .ref c/\gy X.K H3 c xs/\a<=xs.length/\(sliceRange a xs.length b).length<=xs.length/\∀p,H3 p=none->Q (.ref p) (upd H3 p (.lst (iF (sliceRange a xs.length b) xs)))) I1 q1) λvl s2 ⟨o1,H2,I2,pl,el,q2⟩=>?_);rw [evalPart_none];refine wpAny_pure ?_;refine bC (kQ hk ζ s2 σ H2 (λo H3=>o=some (b:Int)/\∃c xs,x= .ref c/\gy X.K H3 c xs/\a<=xs.length/\(sliceRange a xs.length b).length<=xs.length/\∀p,H3 p=none->Q (.ref p) (upd H3 p (.lst (iF (sliceRange a xs.length b) xs)))) I2 q2) λvs s3 ⟨o,H3,I3,ps,eo,c,xs,ex,hx,ha,hn,q⟩=>?_;subst el eo ex;cases r1;have I4:Inv X ζ σ H3 {s3 with heap:=s3.heap.push {cls:= .type "slice",data:= .fields #[vl,.none,vs]}}:=I3.kept (t':=s3.toks) λb ob q=>Heap.get?_push_of_some _ q;obtain ⟨its,r,ht,hz⟩:=I4.list hx;have hlen:=r.length;show wpAny (model X.prog X.w) X.A (subscriptTail e (.Slice (some l) none (some k) p2) (.ref c) (.ref s3.heap.objs.size)) (EP X ζ σ Q) X.xe {s3 with heap:=s3.heap.push {cls:= .type "slice",data:= .fields #[vl,.none,vs]}};refine tail_any (ops:=[.ref c,.ref s3.heap.objs.size]) ht.isList.typeIs slot_list_getitem.lookup ?_ (by with_unfolding_all rfl);refine wpAny_getItem_list_slice ht.isList (Heap.IsSliceOf.new ..) pl .none ps (λz=>by injection z with z;omega) ?_ (by rw [aaz] <;> omega);rw [Fe its hb (by omega),<-hlen];refine ⟨.ref _,_,I4.laid (t':=s3.toks) (o:= .lst (iF (sliceRange a xs.length b) xs)) (λb ob q=>Heap.get?_push_of_some _ q) (aah _) ?_,rfl,q _ (I4.ba.fresh (aah _))⟩;exact ⟨aaq (GG _) (aaq hn hz),_,0,qy r _,Heap.get?_push_size _ rfl⟩
end
def S5(td te:TE):TE:=λσ H Q=>td σ H λx H1=>∃a,x= .ref a/\Y8 H1 a/\te σ H1 λy H2=>∃b Ο more,y= .ref b/\a≠b/\H2 a=some (.dK Ο)/\Rd H2 b (.dK more)/\Ο.length+more.length<=sizeLine/\Q .bq (upd H2 a (.dK (ij Ο more)))
section
variable{X:Cx}{o e:Expr}{apos cJ:Pos}{td te:TE}
theorem ME(ho:PE X o td)(he:PE X e te)(m:M1 X o "update" apos e cJ):PE X (.Call (.Attribute o "update" apos) [e] [] cJ) (S5 td te):=by
 intro ζ s σ H Q I h;refine wpAny_Call_method m.base m.few m.line PySem.F.plainAttrs_dict PySem.F.slot_dict_update PySem.F.type_dict_update (bC (ho ζ s σ H _ I h) λu s1 ⟨x,H1,I1,rx,a,ex,d,q1⟩=>?_);subst ex;obtain rfl:u=Value.ref a:=rx;obtain ⟨t1,t2,_⟩:=Oe I1 d;refine ⟨t1,t2,?_⟩;rw [m.trees];refine Calls.callWith_builtin rfl (Calls.evalArgs_plain (Calls.spliced_cons (bC (he ζ s1 σ H1 _ I1 q1) λiv s2 ⟨y,H2,I2,ry,b,Ο,more,ey,kM,hA,hB,hz,q2⟩=>Calls.spliced_nil ?_)));subst ey;obtain rfl:iv=Value.ref b:=ry;obtain ⟨z1,d1,vs,r1,Z1⟩:=DB I2.ba hA;obtain ⟨z2,d2,rs,r2,Ut⟩:=m_ I2.ba hB;refine call_meetsIn PySem.F.slot_dict_update Z1.typeIs PySem.F.entry_dict_update (PySem.F.args_dict_update_2 _ _) (meets_dict_update (bD X.prog X.w) a b kM d2) ⟨vs,rs,Z1,Ut,by rw [<-r1.length,<-r2.length];exact hz,λh' hm _ hs=>?_⟩;have hex:∃q,h'.get? a=some q:=let ⟨q,_,_,hq,_⟩:=hm;⟨q,hq⟩
 exact ⟨.bq,_,p8 (t':=s2.toks) I2 (by rw [hA];exact True.intro) hs hex (qK (aaq (ia more Ο) hz) d1 (KV.merge r2 r1) hm),rfl,q2⟩
end
section
variable{X:Cx}{R:St->XK}{o e l k a b:Expr}{to te tl tk ta tb:DE}{pos p2 apos cJ:Pos}{k':Nat}
def M_(a b:Nat)(te tl tk:DE):DE:=λρ M q x=>te ρ M (λd M1=>tl ρ M1 (λdi M2=>di= .int a/\tk ρ M2 (λdk M3=>∃ds,lJ M3 d=some ds/\dk= .int b/\a<=ds.length/\(sliceRange a ds.length b).length<=ds.length/\q (.loc M3.length) (M3++[.lst (iF (sliceRange a ds.length b) ds)])) x) x) x
theorem Pn{a b:Nat}(he:JE X R e te)(hl:JE X R l tl)(hk:JE X R k tk)(hb:0<b:=by decide):JE X R (.Subscript e (.Slice (some l) none (some k) p2) pos) (M_ a b te tl tk):=
 .of (KI hb he hl hk) λσ H G L ρ M q x rl n h hx=>by refine ⟨G,L,ρ,M,_,x,rl,n,h,hx,λv H1 ⟨d1,G1,L1,M1,e1,r1,n1,h1⟩=>?_⟩;refine ⟨G1,L1,ρ,M1,_,x,r1,n.mono e1,h1,hx.on e1,λv2 H2 ⟨d2,G2,L2,M2,e2,r2,n2,ei,h2⟩=>?_⟩;subst ei;have n2:v2= .int a:=n2;subst n2;refine ⟨_,rfl,rfl,G2,L2,ρ,M2,_,x,r2,(n.mono e1).mono e2,h2,(hx.on e1).on e2,λv3 H3 ⟨d3,G3,L3,M3,e3,r3,n3,ds,ed,ek,ha,hn,h3⟩=>?_⟩;subst ek;have n3:v3= .int b:=n3;subst n3;have FU:=e2.trans e3;obtain ⟨c,vs,rfl,sq,m⟩:=fX r3 (Den.mono FU.g FU.l _ _ n1) ed;have hl:=m.length;refine ⟨_,rfl,rfl,c,vs,rfl,sq,by rw [<-hl];exact ha,by rw [<-hl];exact hn,λp hp=>?_⟩;rw [<-hl];exact jz (e1.trans FU) r3 hp (Χ.of (qy m.pair _)) h3
def pM(ks:List Key):List Key->List Key
 |[]=>ks
 |k::r=>pM (fL ks k) r
def rA(ks:List Key)(ds:List Dt):List Key->List Dt->List Dt
 |k::r,d::yw=>rA (fL ks k) (eA ks k ds d) r yw
 |_,_=>ds
theorem Qg{α:Type}{ks:List Key}{k:Key}{xs:List α}{v:α}(h:ks.length=xs.length):(fL ks k).length=(eA ks k xs v).length:=by
 unfold fL eA;split
 ·rw [o_ h]
 ·rw [aag,aag,h];rfl
theorem Qe{K:PySem.W.Frag}{G:Hp}{L:List Addr}{ks:List Key}{k:Key}{ds:List Dt}{vs:List V}{d:Dt}{v:V}(n:Den K G L d v)(h:Χ K G L ds vs)(hl:ks.length=ds.length):Χ K G L (eA ks k ds d) (eA ks k vs v):=by
 unfold eA;split
 ·exact oM n h hl
 ·exact h.app ⟨_,_,rfl,n,rfl⟩
theorem D0{K:PySem.W.Frag}{G:Hp}{L:List Addr}:∀{uz:List Key}{yw:List Dt}{Kv:List V}{ks:List Key}{ds:List Dt}{vs:List V},uz.length=yw.length->Χ K G L yw Kv->ks.length=ds.length->Χ K G L ds vs->
  ∃us,ij (ks.zip vs) (uz.zip Kv)=(pM ks uz).zip us/\(pM ks uz).length=(rA ks ds uz yw).length/\Χ K G L (rA ks ds uz yw) us
 |[],[],_,ks,ds,vs,_,h2,hl,h=>by cases h2;exact ⟨vs,rfl,hl,h⟩
 |k::uz,d::yw,_,ks,ds,vs,E9,⟨v,Kv,e,n0,ns⟩,hl,h=>by
  subst e;have E9:uz.length=yw.length:=by simpa using E9
  obtain ⟨us,e1,e2,e3⟩:=D0 (ks:=fL ks k) (ds:=eA ks k ds d) (vs:=eA ks k vs v) E9 ns (Qg hl) (Qe n0 h hl);refine ⟨us,?_,e2,e3⟩;rw [abd];show ij (iA (ks.zip vs) k v) (uz.zip Kv)=(pM (fL ks k) uz).zip us;rw [Hb (hl.trans h.length),e1]
def CA(to te:DE):DE:=λρ M q x=>to ρ M (λd M1=>(∃k ks ds,d= .loc k/\M1[k]? =some (.ef ks ds))/\te ρ M1 (λd2 M2=>∃k k2 ks ds uz yw,d= .loc k/\d2= .loc k2/\k≠k2/\M2[k]? =some (.ef ks ds)/\M2[k2]? =some (.ef uz yw)/\ks.length+uz.length<=1000/\q .bq (M2.set k (.ef (pM ks uz) (rA ks ds uz yw)))) x) x
theorem Cb(ho:JE X R o to)(he:JE X R e te)(m:M1 X o "update" apos e cJ:=by exact ⟨rfl,rfl,rfl,rfl⟩):JE X R (.Call (.Attribute o "update" apos) [e] [] cJ) (CA to te):=
 .of (ME ho he m) λσ H G L ρ M q x rl n h hx=>by
  refine ⟨G,L,ρ,M,_,x,rl,n,h,hx,λv H1 ⟨d1,G1,L1,M1,e1,r1,n1,⟨k0,ks0,ds0,ed0,YS⟩,h1⟩=>?_⟩;subst ed0;obtain ⟨a,rfl,hk⟩:=n1;obtain ⟨_,vs0,hH0,_,_⟩:=r1.fN k0 a _ hk YS;refine ⟨a,rfl,.inl ⟨_,.inl hH0⟩,G1,L1,ρ,M1,_,x,r1,n.mono e1,h1,hx.on e1,λv2 H2 ⟨d2,G2,L2,M2,e2,r2,n2,k,k2,ks,ds,uz,yw,ed,ed2,kM,hm,Xd,hz,h3⟩=>?_⟩;cases ed;subst ed2;have AW:=e2.l.get hk;obtain ⟨b,rfl,Q_⟩:=n2;obtain ⟨_,vs,hH,hl,dn⟩:=r2.fN k0 a _ AW hm;obtain ⟨_,Kv,Uk,E9,QP⟩:=r2.fN k2 b _ Q_ Xd;have z1:(ks.zip vs).length<=ks.length:=by rw [abe];exact Nat.min_le_left _ _
  have z2:(uz.zip Kv).length<=uz.length:=by rw [abe];exact Nat.min_le_left _ _
  have sz:(1000:Nat)<=sizeLine:=by decide
  obtain ⟨us,u1,u2,u3⟩:=D0 E9 QP hl dn;have ab:a≠b:=λz=>by subst z;have i1:=(aaf.mp AW).1;have:=(List.getElem?_inj (l:=L2) i1 r2.nd).mp (AW.trans Q_.symm);exact kM this
  refine ⟨b,_,_,rfl,ab,hH,.inl Uk,by omega,?_⟩;exact ⟨.bq,G2,L2,_,(e1.trans e2).trans (r2.J1 AW),r2.setM (m:= .ef (pM ks uz) (rA ks ds uz yw)) AW ⟨us,by rw [Ω,u1],u2,u3⟩,rfl,h3⟩
end
def Je(P:Program)(w:World)(a:Addr)(Ο:List (Key×V))(ep:Nat)(h:Heap):Prop:=Ο.length<=sizeLine/\(a==sysModules)=false/\∃vs,KV Ο vs/\h.DictAt (bD P w) a vs ep
def BL(P:Program)(w:World)(a:Addr)(Ο:List (Key×V))(ep:Nat):HO:= .ext (Je P w a Ο ep)
section
variable{P P':Program}{w w':World}{H:Hp}{h:Heap}{a:Addr}{Ο:List (Key×V)}{ep:Nat}
theorem CY(ok:kW P w H h)(e:H a=some (BL P' w' a Ο ep)):Je P' w' a Ο ep h:=(ok a _ e).1
theorem PN(x:Je P' w' a Ο ep h):bT P w H h a (BL P' w' a Ο ep):=by
 refine ⟨x,?_,λh1 h2 y k=>?_⟩
 ·obtain ⟨_,_,vs,_,o,es,e,_⟩:=x;exact ⟨o,e⟩
 ·obtain ⟨z,hd,vs,r,o,es,e,c⟩:=y;exact ⟨z,hd,vs,r,o,es,k _ e,c⟩
end
section
variable{X:Cx}{ζ:List (Addr×Obj)}{σ:St}{H:Hp}{s:Shared}{a:Addr}{Ο:List (Key×V)}{ep:Nat}
theorem Inv.OX(I:Inv X ζ σ H s)(mu:QB (H a))(x:Je X.prog X.w a Ο ep s.heap):Inv X ζ σ (upd H a (BL X.prog X.w a Ο ep)) s:=by
 have he:∃u,s.heap.get? a=some u:=let ⟨_,_,_,_,o,_,e,_⟩:=x;⟨o,e⟩
 exact I.write (x:=a) (e:=a) (h':=s.heap) (t':=s.toks) mu (.inl rfl) (λb u _ q=>q) he (PN x)
theorem Inv.walkOut(I:Inv X ζ σ H s)(e:H a=some (BL X.prog X.w a Ο ep)):Inv X ζ σ (upd H a (.dK Ο)) s:=by
 obtain ⟨z,hd,vs,r,dd⟩:=CY I.ba e;have he:∃u,s.heap.get? a=some u:=let ⟨o,_,e,_⟩:=dd;⟨o,e⟩
 exact I.write (x:=a) (e:=a) (h':=s.heap) (t':=s.toks) (by rw [e];exact True.intro) (.inl rfl) (λb u _ q=>q) he (qK z hd r dd.dictOf)
theorem So{P:Program}{w:World}{k:Key}{u:Value}(h:(bD P w).is k u=true):aB (kV k) u:=by
 rcases bz h with ⟨i,t,rfl,rfl⟩|⟨x,t,rfl,rfl⟩
 ·exact ⟨t,rfl⟩
 ·exact ⟨t,rfl⟩
end
def V7(P:Program)(w:World)(a:Addr)(Ο:List (Key×V))(ep:Nat):It:=
 ⟨λi H=>H a=some (BL P w a Ο ep)/\i<Ο.length,λi H x H'=>H'=H/\∃kv,Ο[i]? =some kv/\x=kV kv.1,λi H=>H a=some (BL P w a Ο ep)/\Ο.length<=i⟩
theorem Fg{P:Program}{w:World}{K:PySem.W.Frag}{tg:Expr}(a it:Addr)(Ο:List (Key×V))(ep:Nat):Turn P w K tg (V7 P w a Ο ep) [it] it (λi h=>h.IsKeyIter it a i Ο.length ep) where
 mem:=by simp
 obj:=λi h st b hb=>by
  have e:b=it:=by simpa using hb
  subst e;obtain ⟨o,e,c,d⟩:=st;exact ⟨o,e,λv z=>by rw [d] at z;cases z⟩
 keep:=λi h h' st k=>by obtain ⟨o,e,r⟩:=st;exact ⟨o,k it (by simp) o e,r⟩
 item:=by
  intro X hP hw hK hc i ζ s σ H E I hf st hg;subst hP hw hK;obtain ⟨hq,hi⟩:=hg;obtain ⟨z,hd,vs,rel,dd⟩:=CY I.ba hq;obtain ⟨f0,f1,f2,f3,f4,f5⟩:=hf it (by simp);have hx:Ο[i]? =some Ο[i]:=aaa hi;obtain ⟨q,Kn,r1,r2⟩:=Bv rel hx;obtain ⟨k,v⟩:=q;have XG:s.heap.IsKeyIter it a i vs.length ep:=by rw [<-rel.length];exact st
  refine wpAny_pyNext_dict_item XG dd Kn λkey h' hk wq sb=>?_;have wq:h'.IsKeyIter it a (i+1) Ο.length ep:=by rw [rel.length];exact wq
  have I1:Inv X ζ σ H {s with heap:=h'}:=I.turned (t':=s.toks) (λb o hb e=>(sb.2 b hb).trans e) f0 f1 f3 f4 f5;obtain ⟨o,e,c,d⟩:=id wq;exact ⟨key,rfl,vd (s:={s with heap:=h'}) e c d (by decide) ⟨kV k,H,I1,So hk,⟨rfl,Ο[i],hx,by rw [r1]⟩,wq,λb hb=>(hf b hb).1⟩⟩
 done:=by
  intro X hP hw hK hc i ζ s σ H E I hf st hg;subst hP hw hK;obtain ⟨hq,hi⟩:=hg;obtain ⟨z,hd,vs,rel,dd⟩:=CY I.ba hq;obtain ⟨f0,f1,f2,f3,f4,f5⟩:=hf it (by simp);have XG:s.heap.IsKeyIter it a i vs.length ep:=by rw [<-rel.length];exact st
  exact wpAny_pyNext_dict_end (I.ok.hd hc) XG dd (abL (by rw [<-rel.length];exact hi)) λh' eb=>⟨rfl,I.turned (t':=s.toks) (λb o hb e=>eb b o hb e) f0 f1 f3 f4 f5⟩
 self:=λ_ _ _ _ _ st h=>wpAny_pyIter_keyiter st h
section
variable{X:Cx}{tg:Expr}{ζ:List (Addr×Obj)}{σ:St}{H:Hp}{s:Shared}{a:Addr}{Ο:List (Key×V)}{Q:It->Hp->Prop}{E:Value->Shared->Prop}
theorem LH(I:Inv X ζ σ H s)(e:H a=some (.dK Ο))(q:∀ep,Q (V7 X.prog X.w a Ο ep) (upd H a (BL X.prog X.w a Ο ep))):wpAny (model X.prog X.w) X.A (pyIter (.ref a)) (Kq X ζ σ tg Q) E s:=by
 obtain ⟨z,hd,vs,rel,dd⟩:=DB I.ba e;obtain ⟨ep,dd⟩:=dd.dictAt;refine wpAny_pyIter_dict hd dd ?_;have I1:=I.OX (by rw [e];exact True.intro) (show Je X.prog X.w a Ο ep s.heap from ⟨z,hd,vs,rel,dd⟩);refine ⟨s.heap.objs.size,[s.heap.objs.size],_,_,_,rfl,I1.kept (t':=s.toks) λb o e=>Heap.get?_push_of_some _ e,Fg a _ Ο ep,⟨_,Heap.get?_push_size _ rfl,rfl,by rw [rel.length];rfl⟩,λb hb=>?_,q ep⟩;have e:b=s.heap.objs.size:=by simpa using hb
 subst e;exact I1.BB (aah _) (I1.ba.fresh (aah _))
end
def Zs(P:Program)(w:World)(D:xQ):St->Hp->Prop:=λσ H=>∃a Ο ep,H a=some (BL P w a Ο ep)/\D.nx σ (upd H a (.dK Ο))
section
variable{X:Cx}{st:Stmt}{t:TS}{o i:Expr}{td ty:TE}{pos:Pos}
theorem FZ(h:PS X st t):PS X st (λD σ H=>t {D with nx:=Zs X.prog X.w D} σ H):=by
 intro ζ s σ H D I h';refine bC (h ζ s σ H _ I h') λf s' sp=>?_;cases f with
 |next=>
  obtain ⟨σ',H',I',a,Ο,ep,e,q⟩:=sp;exact ⟨σ',_,I'.walkOut e,q⟩
 |brk=>exact sp
 |cont=>exact sp
 |ret u=>exact sp
def PR(P:Program)(w:World)(td ty:TE):TE:=λσ H Q=>td σ H λx H1=>ty σ H1 λy H2=>∃a Ο ep k v,x= .ref a/\H2 a=some (BL P w a Ο ep)/\y=kV k/\jK Ο k=some v/\Q v H2
theorem IQ(ho:PE X o td)(hi:PE X i ty)(hs:Bu i):PE X (.Subscript o i pos) (PR X.prog X.w td ty):=by intro ζ s σ H Q I h;refine vG abR.lookup hs (bC (ho ζ s σ H _ I h) λu s1 ⟨x,H1,I1,rx,q1⟩=>bC (hi ζ s1 σ H1 _ I1 q1) λiv s2 ⟨y,H2,I2,ry,a,Ο,ep,k,v,ex,e,ey,l,q2⟩=>?_);subst ex ey;obtain rfl:u=Value.ref a:=rx;obtain ⟨z,hd,vs,rel,dd⟩:=CY I2.ba e;have dd:=dd.dictOf;obtain ⟨w',hw,Bj⟩:=kg.some_of (v:=v) (o:=valueAt vs k) (by rw [<-l];exact rel.val k);exact ⟨dd.typeIs,wpAny_getItem_of (qS ry) dd.mapOf hw ⟨v,H2,I2.tok _,Bj,q2⟩⟩
end
def Ig:Key->Dt
 |.inl i=> .int i
 |.inr x=> .str x
theorem Mp{K:PySem.W.Frag}{G:Hp}{L:List Addr}:∀k:Key,Den K G L (Ig k) (kV k)
 |.inl _=>rfl
 |.inr _=>rfl
theorem sH{K:PySem.W.Frag}{G:Hp}{L:List Addr}:∀is:List Int,Χ K G L (is.map Dt.int) (is.map V.int)
 |[]=>rfl
 |_::is=>⟨_,_,rfl,rfl,sH is⟩
theorem yO{K:PySem.W.Frag}{G:Hp}{L:List Addr}:∀{is:List Int}{vs:List V},Χ K G L (is.map Dt.int) vs->vs=is.map V.int
 |[],vs,h=>h
 |i::is,vs,h=>by obtain ⟨v,r,rfl,h1,h2⟩:=h;have h1:v= .int i:=h1;rw [h1,yO h2];rfl
def NF(P:Program)(w:World)(ks:List Key)(is:List Int)(ep:Nat):Addr->HO:=λa=>BL P w a (ks.zip (is.map V.int)) ep
def tX(g:Dt->En->(En->Prop)->Prop)(tb:DS)(Dn:k9)(k:Nat)(u:Addr->HO)(m:MO):List Key->En->Ms->Prop
 |[],ρ,M=>M[k]? =some (.raw u)/\Dn.nx ρ (M.set k m)
 |x::xs,ρ,M=>M[k]? =some (.raw u)/\g (Ig x) ρ λρ'=>tb {Dn with nx:=tX g tb Dn k u m xs,ct:=tX g tb Dn k u m xs,bk:=λρ M=>M[k]? =some (.raw u)/\Dn.nx ρ (M.set k m)} ρ' M
def Ts(P:Program)(w:World)(te:DE)(g:Dt->En->(En->Prop)->Prop)(tb:DS):DS:=λDn ρ M=>te ρ M (λd M1=>∃k ks is,d= .loc k/\M1[k]? =some (.ef ks (is.map Dt.int))/\∀ep,tX g tb Dn k (NF P w ks is ep) (.ef ks (is.map Dt.int)) ks ρ (M1.set k (.raw (NF P w ks is ep)))) Dn.x
def OH(P:Program)(w:World)(t:TE):TI:=λσ H R=>t σ H λv H1=>∃a Ο,v= .ref a/\H1 a=some (.dK Ο)/\∀ep,R (V7 P w a Ο ep) (upd H1 a (BL P w a Ο ep))
theorem Lh{X:Cx}{tg e:Expr}{t:TE}(h:PE X e t):PI X tg e (OH X.prog X.w t):=by intro ζ s σ H R I ht;refine bC (h ζ s σ H _ I ht) λu s1 ⟨v,H1,I1,rv,a,Ο,ev,ha,q⟩=>?_;subst ev;obtain rfl:u=Value.ref a:=rv;exact LH I1 ha q
section
variable{X:Cx}{R:St->XK}{tg iter e o i:Expr}{body:List Stmt}{te to ti:DE}{gg:TG}{g:Dt->En->(En->Prop)->Prop}{tb:DS}{pos:Pos}
theorem LI(hi:JE X R iter te)(hg:PG X tg gg)(gd:GD X.K gg g)(hb:Bg X R body tb)(hp:PassesOwn (model X.prog X.w) X.A X.env X.xe:=by first|exact PassesOwn.never|exact PassesOwn.leaving)(hc:X.calm=true:=by rfl)(hs:∀x,foldedSetIterable iter X.env x=pure x:=by intro _;rfl):
  JS X R (.For tg iter body [] pos) (Ts X.prog X.w te g tb):= .of (FZ (Bw hp hc (Lh hi) hg hb hs)) λσ H G L ρ M Dn rl n h hx=>by
 refine ⟨G,L,ρ,M,_,_,rl,n,h,hx,λv H1 ⟨d,G1,L1,M1,e1,r1,n1,k,ks,is,ed,hk,h1⟩=>?_⟩;subst ed;obtain ⟨a,rfl,Gw⟩:=n1;obtain ⟨hGa,vs,hH,hl,dn⟩:=r1.fN k a _ Gw hk;have hvs:=yO dn;subst hvs;rw [aad] at hl;refine ⟨a,_,rfl,hH,λep=>?_⟩;have h1:=h1 ep;generalize hu:NF X.prog X.w ks is ep=u at h1;have UW:BL X.prog X.w a (ks.zip (is.map V.int)) ep=u a:=by rw [<-hu];rfl
 have r2:Rl X.K G1 L1 (M1.set k (.raw u)) (upd H1 a (BL X.prog X.w a (ks.zip (is.map V.int)) ep)):=r1.setM (m:= .raw u) Gw (show upd H1 a _ a=some (u a) by rw [Ω,UW]);have e2:Ex G1 L1 H1 G1 L1 (upd H1 a (BL X.prog X.w a (ks.zip (is.map V.int)) ep)):=r1.J1 Gw;have zl:(ks.zip (is.map V.int)).length=ks.length:=by rw [abe,aad];omega
 generalize Uk:upd H1 a (BL X.prog X.w a (ks.zip (is.map V.int)) ep)=H2 at r2 e2;have GJ:=e1.trans e2;have out:∀{G':Hp} {L':List Addr} {H':Hp} {M':Ms} {ρ':En} {σ':St},Ex G1 L1 H2 G' L' H'->Rl X.K G' L' M' H'->k_ X.K G' L' ρ' σ'->M'[k]? =some (.raw u)->Dn.nx ρ' (M'.set k (.ef ks (is.map Dt.int)))->Zs X.prog X.w (tE X.K G L H Dn) σ' H':=λ{G' L' H' M' ρ' σ'} e' r' n' hm R3=>by have Cg:=e'.l.get Gw;have T5:H' a=some (u a):=(r'.fN k a _ Cg hm).2;refine ⟨a,ks.zip (is.map V.int),ep,by rw [UW];exact T5,ρ',G',L',_,(GJ.trans e').trans (r'.J1 Cg),r'.setM (m:= .ef ks (is.map Dt.int)) Cg ⟨is.map V.int,Ω,by rw [aad];exact hl,sH is⟩,n'.mono (r'.J1 (o:= .own a) Cg),R3⟩
 refine ⟨λi m σ' H'=>m+i=ks.length/\eK X.K G1 L1 H2 (λρ' M'=>tX g tb Dn k u (.ef ks (is.map Dt.int)) (ks.drop i) ρ' M') σ' H',⟨ks.length,rfl,ρ,G1,L1,_,.refl _ _ _,r2,n.mono e1,by rw [aca];exact h1⟩,?_⟩;rintro i m σ' H' ⟨hm,ρ',G',L',M',e',r',n',h'⟩;have Cg:=e'.l.get Gw;by_cases hi:i<ks.length
 ·right;rw [aa7 hi] at h';obtain ⟨MI,h'⟩:=h';have T5:H' a=some (u a):=(r'.fN k a _ Cg MI).2;refine ⟨⟨by rw [UW];exact T5,by omega⟩,eK X.K G1 L1 H2 (λρ' M'=>tX g tb Dn k u (.ef ks (is.map Dt.int)) (ks.drop (i+1)) ρ' M'),λσ2 H3 f=>⟨m-1,by omega,by omega,f⟩,λv H3 hy=>?_⟩;obtain ⟨rfl,kv,YT,rfl⟩:=hy;have Hi:kv.1=ks[i]:=by rw [List.getElem?_zip_eq_some] at YT;have:=YT.1;rw [aaa hi] at this;exact (aas this).symm
  rw [Hi];refine gd G' L' M' H3 _ _ ρ' σ' _ _ r' (Mp _) n' h' λρ3 σ3 n3 h3=>?_;refine ⟨G',L',ρ3,M',_,r',n3,h3,hx.on (GJ.trans e'),⟨λ_ _ f=>eK.back e' f,λ_ _ f=>Fin.back (GJ.trans e') f,λσ4 H4 f=>?_,λ_ _ f=>eK.back e' f⟩⟩;obtain ⟨ρ4,G4,L4,M4,e4,r4,n4,hm4,h4⟩:=f;exact out (e'.trans e4) r4 n4 hm4 h4
 ·left;rw [abJ (by omega)] at h';have T5:H' a=some (u a):=(r'.fN k a _ Cg h'.1).2;exact ⟨⟨by rw [UW];exact T5,by omega⟩,out e' r' n' h'.1 h'.2⟩
def N7(P:Program)(w:World)(to ti:DE):DE:=λρ M q x=>to ρ M (λd M1=>ti ρ M1 (λdi M2=>∃k ks is ep key j,d= .loc k/\M2[k]? =some (.raw (NF P w ks is ep))/\Ad di=some key/\c_ ks (is.map Dt.int) key=some (.int j)/\q (.int j) M2) x) x
theorem KG(ho:JE X R o to)(hi:JE X R i ti)(hs:Bu i:=by intro _ _;rfl):JE X R (.Subscript o i pos) (N7 X.prog X.w to ti):=
 .of (IQ ho hi hs) λσ H G L ρ M q x rl n h hx=>by refine ⟨G,L,ρ,M,_,x,rl,n,h,hx,λv H1 ⟨d1,G1,L1,M1,e1,r1,n1,h1⟩=>?_⟩;refine ⟨G1,L1,ρ,M1,_,x,r1,n.mono e1,h1,hx.on e1,λv2 H2 ⟨d2,G2,L2,M2,e2,r2,n2,k,ks,is,ep,key,j,ed,hm,hk,hg,h2⟩=>?_⟩;subst ed;obtain ⟨a,rfl,Hi⟩:=n1;have Ou:=e2.l.get Hi;have hH:H2 a=some (NF X.prog X.w ks is ep a):=(r2.fN k a _ Ou hm).2;obtain rfl:v2=kV key:=kJ hk n2;obtain ⟨v,hv,dv⟩:=n_ (K:=X.K) (G:=G2) (L:=L2) (sH is) hg;exact ⟨a,_,ep,key,v,rfl,hH,rfl,hv,_,G2,L2,M2,e1.trans e2,r2,dv,h2⟩
end
section
variable{X:Cx}{R:St->XK}{k1 v1 k2 v2:Expr}{s1 t1 s2 t2:DE}{pos:Pos}
structure Gq(K:PySem.W.Frag)(G0:Hp)(L0:List Addr)(H0:Hp)(p:Addr)(G:Hp)(L:List Addr)(M:Ms)(H:Hp):Prop where
 ex:Ex G0 L0 (upd H0 p (.dK [])) G L H
 rl:Rl K G L M H
 at_:H p=some (.dK [])
 g:G p=none
 l:p∉L
theorem Gq.on{K:PySem.W.Frag}{G0:Hp}{L0:List Addr}{H0:Hp}{p:Addr}{G:Hp}{L:List Addr}{M:Ms}{H:Hp}(a:Gq K G0 L0 H0 p G L M H){G':Hp}{L':List Addr}{M':Ms}{H':Hp}(e:Ex G L H G' L' H')(r:Rl K G' L' M' H'):Gq K G0 L0 H0 p G' L' M' H':=
 ⟨a.ex.trans e,r,e.out _ _ a.at_ a.l,e.fr _ a.g (by rw [a.at_];simp),λz=>(e.new _ z).elim a.l λq=>by rw [a.at_] at q;cases q⟩
theorem RC{K:PySem.W.Frag}{G:Hp}{L:List Addr}{M:Ms}{H:Hp}{p:Addr}(rl:Rl K G L M H)(hp:H p=none):Ex G L H G L (upd H p (.dK []))/\Gq K G L H p G L M (upd H p (.dK [])):=by
 have gn:G p=none:=rl.sub.free hp;have ln:p∉L:=rl.LN hp;have e0:Ex G L H G L (upd H p (.dK [])):=⟨.refl _,.refl _,λ_ h _=>h,λb u h1 _=>by rw [Θ (λz=>by rw [z,hp] at h1;cases h1)];exact h1,λ_ h=> .inl h,λb h=>by rw [Θ (λz=>h (by rw [z];exact hp))];exact h⟩
 have r0:Rl K G L M (upd H p (.dK [])):=⟨λb u e=>by rw [Θ (λz=>by rw [z,gn] at e;cases e)];exact rl.sub b u e,rl.len,rl.nd,λi a m h1 h2=>by
  obtain ⟨q1,q2⟩:=rl.fN i a m h1 h2
  exact ⟨q1,q2.mono (.refl _) (.refl _) (Θ λz=>q2.there (by rw [z];exact hp))⟩⟩
 exact ⟨e0,.refl _ _ _,r0,Ω,gn,ln⟩
theorem Gq.fin{K:PySem.W.Frag}{G0:Hp}{L0:List Addr}{H0:Hp}{p:Addr}{G:Hp}{L:List Addr}{M:Ms}{H:Hp}{ks:List Key}{ds:List Dt}{vs:List V}{q:DQ}(a:Gq K G0 L0 H0 p G L M H)(e0:Ex G0 L0 H0 G0 L0 (upd H0 p (.dK [])))(hp:H0 p=none)(hk:ks.length=ds.length)(n:Χ K G L ds vs)(k:q (.loc M.length) (M++[.ef ks ds])):Fin K G0 L0 H0 q (.ref p) (upd H p (.dK (ks.zip vs))):=by
 have e:=e0.trans a.ex;have WZ:∀{b:Addr} {w:HO},G b=some w->b≠p:=λe z=>by rw [z,a.g] at e;cases e
 refine Dy (G:=G) (L:=L) (M:=M) (ks:=ks) (ds:=ds) (vs:=vs) ⟨e.g,e.l,e.fr,λb w h1 h2=>?_,e.new,λb h=>?_⟩ ⟨λb w e=>?_,a.rl.len,a.rl.nd,λi c m h1 h2=>?_⟩ hp a.g a.l Ω hk n k
 ·rw [Θ (λz=>by rw [z,hp] at h1;cases h1)];exact e.out b w h1 h2
 ·by_cases hb:b=p
  ·rw [hb,Ω];simp
  ·rw [Θ hb];exact e.B7 b h
 ·rw [Θ (WZ e)];exact a.rl.sub b w e
 ·obtain ⟨q1,q2⟩:=a.rl.fN i c m h1 h2;exact ⟨q1,q2.mono (.refl _) (.refl _) (Θ λz=>a.l (by rw [<-z];exact aak h1))⟩
def Jh(s1 t1:DE):DE:=λρ M q x=>s1 ρ M (λc1 M1=>t1 ρ M1 (λd1 M2=>∃y1,Ad c1=some y1/\q (.loc M2.length) (M2++[.ef [y1] [d1]])) x) x
theorem Hh(Hi:JE X R k1 s1)(U6:JE X R v1 t1):JE X R (.Dict [some k1] [v1] pos) (Jh s1 t1):=
 .of (CQ (sI Hi U6 CP) rfl rfl (by simp) (by show 1<=15;decide)) λσ H G L ρ M q x rl n h hx=>by intro p hp;obtain ⟨e0,a0⟩:=RC rl hp;refine ⟨G,L,ρ,M,_,x,a0.rl,n,h,hx.on e0,λu1 H1 ⟨d1,G1,L1,M1,e1,r1,n1,h1⟩=>?_⟩;have a1:=a0.on e1 r1;refine ⟨G1,L1,ρ,M1,_,x,r1,n.mono (e0.trans e1),h1,hx.on (e0.trans e1),λu2 H2 ⟨d2,G2,L2,M2,e2,r2,n2,y1,hy,h2⟩=>?_⟩;have a2:=a1.on e2 r2;obtain rfl:u1=kV y1:=kJ hy n1;refine ⟨a2.at_,[(y1,u2)],rfl,by show 1<=15;decide,?_⟩;rw [nJ _ [] (λ_ _=>rfl) (by simp),List.nil_append];exact a2.fin (ks:=[y1]) (ds:=[d2]) (vs:=[u2]) e0 hp rfl ⟨_,_,rfl,n2,rfl⟩ h2
end
def Hy:List Dt->Ms->DQ->Prop
 |[d],M,q=>∃k ks ds,d= .loc k/\M[k]? =some (.ef ks ds)/\q (.int ks.length) M
 |_,_,_=>False
theorem Sb{K:PySem.W.Frag}:BD K (λxs H Q=>∃a Ο,xs=[V.ref a]/\H a=some (.dK Ο)/\Q (.int Ο.length) H) Hy:=by
 intro G0 L0 H0 G L M H vs ds q e r n h;unfold Hy at h;split at h
 ·obtain ⟨k,ks,ds,rfl,hm,h⟩:=h;obtain ⟨v,rfl,n1⟩:=br n;obtain ⟨a,rfl,hk⟩:=n1;obtain ⟨_,vs,hH,hl,dn⟩:=r.fN k a _ hk hm;refine ⟨a,_,rfl,hH,.int ks.length,G,L,M,e,r,?_,h⟩;show V.int _=V.int _;rw [abe,<-dn.length,<-hl,Nat.min_self]
 ·exact h.elim
section
variable{X:Cx}{R:St->XK}{e:Expr}{t:DA}{p pos:Pos}
theorem GF(hm:X.mg "len"=none)(ha:JA X R [e] t)(hg:Gl X "len":=by rfl)(he:starEach [e] X.env=(false,eval e X.env)::starEach [] X.env:=by rfl)(fJ:(backTo pos (starEach [] X.env)).any (·.1)=false:=by rfl):JE X R (.Call (.Name "len" p) [e] [] pos) (Av Hy t):=
 fU EA Sb hm PySem.boot_len ha hg (by decide) (by decide) he fJ
end
structure FO(K:PySem.W.Frag)(x:Str)(st:Stmt)(T:Addr)(its:Array Value)(f:Addr)(fd:FuncData):Prop where
 ex:∃(oc:Value) (od:Option Addr) (kV doc pm:Value) (an:Option Addr) (aV ct:Value) (Aw:Array (Option Value)),
  fd=PySem.W.fnOf x x (fZ st) (dD st) (τ st) (.ref T) kV doc pm an aV ct/\K.lookup f=some ⟨oc,od,.func fd,Aw⟩/\PySem.W.codeIn K aV x=true
 tup:∃o n,K.lookup T=some o/\o.data= .seq its n
 kp:PySem.W.keepIn K (.ref f)=true
section
variable{P:Program}{w:World}{K:PySem.W.Frag}{mg:Str->Option Value}{base:Heap}
theorem FO.de{x:Str}{st:Stmt}{U:Addr}{its:Array Value}{f:Addr}{fd:FuncData}{N ps:List Str}{k:Nat}{T:DF}(F:FO K x st U its f fd)(S:Ε N ps (τ st))(len:∀ds M q x,T ds M q x->ds.length=ps.length)
  (rF:∀(aV:Value) (A:Around) (outer:List Env) (s:Shared) (H:Hp) (E:XK),bM k (A.deeper (envOfC x (τ st) s.heap.objs.size f aV))->
   ∃t,Bg (tL (bV P w) P w K mg base N x (τ st) f aV A outer s H E) (λ_=>E) (dD st) t/\∀ds M q x,T ds M q x->t {nx:=λ_ M'=>q .bq M',rt:=q,x:=λ_=>x} (jW N ds) M):
  aq P w K mg base (bV P w) (k+1) f fd ps (cC K T):=by
 obtain ⟨oc,od,kV,doc,pm,an,aV,ct,Aw,rfl,lk,C2⟩:=F.ex;refine Nv lk C2 S (λvs H Q E h=>?_) λA outer s H vs Q E hr h=>?_
 ·obtain ⟨G,L,ds,M,q,x,rl,n,hT,_⟩:=h;rw [<-n.length];exact len _ _ _ _ hT
 ·obtain ⟨t,j,ht⟩:=rF aV A outer s H E hr;obtain ⟨G,L,ds,M,q,x,rl,n,hT,hQ,hE⟩:=h;refine ⟨_,j,G,L,jW N ds,M,_,rl,Ai n,ht ds M q x hT,λσ ρ C fs M' G' L' H' od hx e r _ y=>hE C fs M' G' L' H' od hx e r y,⟨λσ' H' ⟨ρ',G',L',M',e,r,_,h⟩=>hQ _ _ ⟨.bq,G',L',M',e,r,rfl,h⟩,λv H' f=>hQ v H' f,λ_ _ ⟨_,_,_,_,_,_,_,h⟩=>h.elim,λ_ _ ⟨_,_,_,_,_,_,_,h⟩=>h.elim⟩⟩
theorem FO.binds{x:Str}{st:Stmt}{U:Addr}{its:Array Value}{f:Addr}{fd:FuncData}{ps:List Str}{ds:List Value}(F:FO K x st U its f fd)
  (h:∀(kV doc pm:Value) (an:Option Addr) (aV ct:Value) (us:List Value),(us++ds).length=ps.length->∃k,bindArgs (PySem.W.fnOf x x (fZ st) (dD st) (τ st) (.ref U) kV doc pm an aV ct) ⟨us,[]⟩=(seqItems? (.ref U) >>= k)/\k (some its)=pure (ps.zip (us++ds))):h7 K fd ps ds:=by
 obtain ⟨oc,od,kV,doc,pm,an,aV,ct,Aw,rfl,lk,C2⟩:=F.ex;obtain ⟨o,n,l,e⟩:=F.tup;intro s us hK hl;obtain ⟨k,h1,h2⟩:=h kV doc pm an aV ct us hl;exact BindsTo.of_defaults rfl (hK _ _ l) e h1 h2
structure EL(P:Program)(w:World)(K:PySem.W.Frag)(mg:Str->Option Value)(base:Heap)(k:Nat)(x:Str)(ps:List Str)(T:DF)(PL:List Dt)(f:Addr)(fd:FuncData):Prop where
 ok:aq P w K mg base (bV P w) k f fd ps (cC K T)
 b:∃(nF:List V) (ds:List Value),h7 K fd ps ds/\ay nF ds/\∀G L,Χ K G L PL nF
 m:mg x=some (.ref f)
 kp:PySem.W.keepIn K (.ref f)=true
end
theorem x5{K:PySem.W.Frag}{G:Hp}{L:List Addr}:∀{ds es:List Dt}{vs us:List V},Χ K G L ds vs->Χ K G L es us->Χ K G L (ds++es) (vs++us)
 |[],_,vs,us,h,k=>by obtain rfl:vs=[]:=h;exact k
 |_::_,_,_,_,⟨v,r,e,a,b⟩,h=>by subst e;exact ⟨v,_,rfl,a,x5 b h⟩
def N5(T:DF)(PL:List Dt)(t:DA):DE:=λρ M q x=>t ρ M (λds M1=>T (ds++PL) M1 q (λC fs M'=>x ρ C fs M')) x
section
variable{X:Cx}{R:St->XK}{T:DF}{k k':Nat}{f:Addr}{fd:FuncData}{ps:List Str}{PL:List Dt}{x:Str}{p pos:Pos}{e:Expr}{es:List Expr}{t:DA}
theorem GO(C:EL X.prog X.w X.K X.mg X.base k x ps T PL f fd)(hr:bM k' X.A)(hx:cZ (bV X.prog X.w) X R)(ha:JA X R (e::es) t)(hk:k<=k':=by decide)(hg:Gl X x:=by rfl)(tS:(x==("__debug__":Str))=false:=by decide)
  (he:starEach (e::es) X.env=(false,eval e X.env)::starEach es X.env:=by rfl) (fJ:(backTo pos (starEach es X.env)).any (·.1)=false:=by rfl):JE X R (.Call (.Name x p) (e::es) [] pos) (N5 T PL t):=by
 obtain ⟨nF,ds,hb,hv,hd⟩:=C.b;refine .of (zo C.ok (hr.mono hk) hg C.m C.kp hb hv hx ha tS he fJ) λσ H G L ρ M q x rl n h hx=>?_;refine ⟨G,L,ρ,M,_,x,rl,n,h,hx,λvs H1 ⟨ds,G1,L1,M1,e1,r1,n1,h1⟩=>?_⟩;exact ⟨G1,L1,ds++PL,M1,q,_,r1,x5 n1 (hd G1 L1),h1,λv H' f=>Fin.back e1 f,λC fs M' G' L' H' od hq e' r' y=>hx σ ρ C fs M' G' L' H' od hq (e1.trans e') r' (n.mono (e1.trans e')) y⟩
end
section
variable{X:Cx}
def RH(i j k:Nat)(ta:TA):TS:=λD σ H=>ta σ H λvs H1=>∃v w u,vs=[v,w,u]/\D.nx (((σ.set i (some v)).set j (some w)).set k (some u)) H1
theorem Lc{i j k:Nat}{x y z:Str}{a b c:Expr}{ta:TA}{px py pz pt pos:Pos}{kt k2 B6}(hc:X.calm=true)(hN:X.N.Nodup)(hi:X.N[i]? =some x)(hj:X.N[j]? =some y)(hk:X.N[k]? =some z)(Mn:i≠j/\i≠k/\j≠k)
  (hx:X.env.scope.names.lookup x=some .local) (hy:X.env.scope.names.lookup y=some .local) (hz:X.env.scope.names.lookup z=some .local) (ha:PA X [a,b,c] ta)
  (hw:swappedStores [.Tuple [.Name x px, .Name y py, .Name z pz] kt pt] (.Tuple [a,b,c] k2 B6) X.env=pure (some [x,y,z]))
  (hs:swapsWithSole [.Tuple [.Name x px, .Name y py, .Name z pz] kt pt] (.Tuple [a,b,c] k2 B6) pos.line X.env=pure false:=by rfl):
  PS X (.Assign [.Tuple [.Name x px, .Name y py, .Name z pz] kt pt] (.Tuple [a,b,c] k2 B6) pos) (RH i j k ta):=by
 intro ζ s σ H D I h;rw [exec_Assign_arm];refine wpAny_bind (wpAny_standAt ?_);rw [hs];refine wpAny_bind (wpAny_pure ?_);rw [if_neg (by decide)];refine wpAny_bind (Tuple_ (bC (ha _ ζ s σ H _ I h) λus s1 ⟨vs,H1,I1,r1,q1⟩=>?_));obtain ⟨v,w,u,e1,q1⟩:=q1;subst e1;obtain ⟨u1,u2,u3,rfl,rv,Bj,ru⟩:∃u1 u2 u3,us=[u1,u2,u3]/\aB v u1/\aB w u2/\aB u u3:=by
  cases r1 with
  |cons p q=>
   cases q with
   |cons p' q'=>
    cases q' with
    |cons p'' q''=>
     cases q'';exact ⟨_,_,_,rfl,p,p',p''⟩
 refine wpAny_newObj_type ?_ (by show 3<=sizeLine;decide);have I2:Inv X ζ σ H1 {s1 with heap:=s1.heap.push {cls:= .type "tuple",data:= .seq [u1,u2,u3].toArray}}:=I1.kept (t':=s1.toks) λb o e=>Heap.get?_push_of_some _ e;rw [hw];refine wpAny_bind (wpAny_pure ?_);show wpAny (model X.prog X.w) X.A (do rule "assign.swapped-stores";let items<-unpackItems (.ref s1.heap.objs.size) 3 none;assignInOrder [λv=>bindName X.env z v,λv=>bindName X.env y v,λv=>bindName X.env x v] items.reverse;pure Flow.next) _ _ _;refine wpAny_bind (wpAny_rule (wpAny_bind (unpackItems_tuple (items:= #[u1,u2,u3]) (I.ok.hd hc) (IsTup.new s1.heap _) λh' OS=>?_)));have I3:=I2.kept (h':=h') (t':=s1.toks) λb o e=>OS b o (aaE (Heap.lt_size e)) e;show wpAny _ _ (assignInOrder [λv=>bindName X.env z v,λv=>bindName X.env y v,λv=>bindName X.env x v] [u3,u2,u1] >>= λ_=>pure Flow.next) _ _ _;refine wpAny_bind (assignInOrder_cons (wpAny_bindName (gL I3 hN hk (.inl hz) ru (λs2 I4=>?_) (.inr hz))));refine assignInOrder_cons (wpAny_bindName (gL I4 hN hj (.inl hy) Bj (λs3 I5=>?_) (.inr hy)));refine assignInOrder_cons (wpAny_bindName (gL I5 hN hi (.inl hx) rv (λs4 I6=>assignInOrder_nil (wpAny_pure ?_)) (.inr hx)));rw [List.set_comm (l:=σ) _ _ (Ne.symm Mn.2.2),List.set_comm _ _ (Ne.symm Mn.2.1),List.set_comm (l:=σ) _ _ (Ne.symm Mn.1)] at I6;exact ⟨_,H1,I6,q1⟩
end
def Hm(i j k:Nat)(t:DA):DS:=λDn ρ M=>t ρ M (λds M1=>match ds with
 |[a,b,c]=>Dn.nx (((ρ.set i (some a)).set j (some b)).set k (some c)) M1
 |_=>False) Dn.x
theorem Bt{K:PySem.W.Frag}{G:Hp}{L:List Addr}{a b c:Dt}{vs:List V}(h:Χ K G L [a,b,c] vs):∃v u w,vs=[v,u,w]/\Den K G L a v/\Den K G L b u/\Den K G L c w:=by obtain ⟨v,r,rfl,h1,u,r',rfl,h2,w,r'',rfl,h3,h4⟩:=h;obtain rfl:r''=[]:=h4;exact ⟨_,_,_,rfl,h1,h2,h3⟩
section
variable{X:Cx}{R:St->XK}{a b c:Expr}{pos:Pos}
theorem D6{i j k:Nat}{x y z:Str}{t:DA}{px py pz pt:Pos}{kt k2 B6}(hN:X.N.Nodup)(hi:X.N[i]? =some x)(hj:X.N[j]? =some y)(hk:X.N[k]? =some z)(ha:JA X R [a,b,c] t)(Mn:i≠j/\i≠k/\j≠k:=by decide)
  (hx:X.env.scope.names.lookup x=some .local:=by rfl) (hy:X.env.scope.names.lookup y=some .local:=by rfl) (hz:X.env.scope.names.lookup z=some .local:=by rfl)
  (hw:swappedStores [.Tuple [.Name x px, .Name y py, .Name z pz] kt pt] (.Tuple [a,b,c] k2 B6) X.env=pure (some [x,y,z]):=by rfl) (hc:X.calm=true:=by rfl)
  (hs:swapsWithSole [.Tuple [.Name x px, .Name y py, .Name z pz] kt pt] (.Tuple [a,b,c] k2 B6) pos.line X.env=pure false:=by rfl):
  JS X R (.Assign [.Tuple [.Name x px, .Name y py, .Name z pz] kt pt] (.Tuple [a,b,c] k2 B6) pos) (Hm i j k t):= .of (Lc hc hN hi hj hk Mn hx hy hz ha hw hs) λσ H G L ρ M Dn rl n h hx=>by
 refine ⟨G,L,ρ,M,_,_,rl,n,h,hx,λvs H1 ⟨ds,G1,L1,M1,e1,r1,n1,h1⟩=>?_⟩
 (try dsimp only at h1)
 split at h1
 ·obtain ⟨v,u,w,rfl,m1,m2,m3⟩:=Bt n1;exact ⟨v,u,w,rfl,_,G1,L1,M1,e1,r1,(((n.mono e1).set i m1).set j m2).set k m3,h1⟩
 ·exact h1.elim
end
end L2
namespace Fr0
def g(a b:Int):Int:=(Int.gcd a b:Nat)
theorem Aa{a b:Int}(h:b≠0):0<g a b:=by have:=Int.gcd_pos_of_ne_zero_right a h;unfold g;omega
theorem J6{a:Int}(h:0<=a):g a 0=a:=by unfold g;rw [Int.gcd_zero_right];omega
theorem He{a b:Int}(hb:0<b):g b (a.fmod b)=g a b:=by
 unfold g;rw [abx a (aai hb),Int.gcd_comm a b]
 congr 1
 refine Int.gcd_right_eq_iff.mpr λc hc=>?_;rw [Int.emod_def];constructor
 ·intro h;have:=Int.dvd_add h (Int.dvd_mul_of_dvd_left (c:=a/b) hc);rwa [Int.sub_add_cancel] at this
 ·intro h;exact Int.dvd_sub h (Int.dvd_mul_of_dvd_left (c:=a/b) hc)
theorem Ng(a b:Int):g (if a<0 then -a else a) (if b<0 then -b else b)=g a b:=by unfold g;split <;> split <;> simp
def dv(t b:Int):Int:=if b<0 then -(g t b) else g t b
def aw(t b:Int):Int×Int:=(t.fdiv (dv t b),b.fdiv (dv t b))
theorem DP{t b:Int}(h:b≠0):dv t b≠0:=by have:=Aa (a:=t) h;unfold dv;split <;> omega
theorem zU{k p:Int}(h:k≠0):(k*p).fdiv k=p:=by rw [aaR];exact Int.mul_fdiv_cancel p h
theorem J2{t b:Int}(h:b≠0):∃p q:Int,t=dv t b*p/\b=dv t b*q/\0<q/\Int.gcd p q=1:=by
 have hg:=Aa (a:=t) h;have h0:0<Int.gcd t b:=Int.gcd_pos_of_ne_zero_right t h;obtain ⟨p,hp⟩:=Int.gcd_dvd_left t b;obtain ⟨q,hq⟩:=Int.gcd_dvd_right t b;have hc:Int.gcd p q=1:=by
  have e:=Int.gcd_ediv_gcd_ediv_gcd h0;have n0:(Int.gcd t b:Int)≠0:=by omega
  have e1:t/(Int.gcd t b:Int)=p:=by
   conv=>lhs;arg 1;rw [hp]
   exact aba p n0
  have e2:b/(Int.gcd t b:Int)=q:=by
   conv=>lhs;arg 1;rw [hq]
   exact aba q n0
  rwa [e1,e2] at e
 have yD:t=g t b*p:=hp;have xW:b=g t b*q:=hq;by_cases hb:b<0
 ·have hd:dv t b= -(g t b):=by unfold dv;rw [if_pos hb]
  refine ⟨-p, -q,?_,?_,?_,?_⟩
  ·rw [hd,Int.neg_mul_neg];exact yD
  ·rw [hd,Int.neg_mul_neg];exact xW
  ·have:g t b*q<0:=by rw [<-xW];exact hb
   by_cases q0:0<=q
   ·exact absurd (aaY (aai hg) q0) (by omega)
   ·omega
  ·simpa using hc
 ·have hd:dv t b=g t b:=by unfold dv;rw [if_neg hb]
  refine ⟨p,q,by rw [hd];exact yD,by rw [hd];exact xW,?_,hc⟩;have:0<g t b*q:=by rw [<-xW];omega
  exact Int.pos_of_mul_pos_right this hg
theorem gm {t b : Int}(h : b ≠ 0) : ∃ p q : Int, aw t b = (p, q) /\ 0<q /\ Int.gcd p q = 1 /\ t = dv t b*p /\ b = dv t b*q := by
  obtain ⟨p, q, hp, hq, h0, hc⟩ := J2 (t := t) h;have n0 := DP (t := t) h;refine ⟨p, q,?_, h0, hc, hp, hq⟩;unfold aw
  have e1 : t.fdiv (dv t b) = p := by conv => lhs; arg 1; rw [hp]
                                      exact zU n0
  have e2 : b.fdiv (dv t b) = q := by conv => lhs; arg 1; rw [hq]
                                      exact zU n0
  rw [e1, e2]
theorem cv{t b:Int}(h:b≠0):t*(aw t b).2=b*(aw t b).1:=by
 obtain ⟨p,q,e,_,_,hp,hq⟩:=gm (t:=t) h;rw [e];show t*q=b*p
 calc t*q=dv t b*p*q:=by rw [<-hp]
  _=dv t b*q*p:=by rw [ab4,aaR p q,<-ab4]
  _=b*p:=by rw [<-hq]
theorem cB{t b:Int}(h:b≠0):0<(aw t b).2:=by obtain ⟨p,q,e,h0,_⟩:=gm (t:=t) h;rw [e];exact h0
theorem x6{t b:Int}(h:b≠0):Int.gcd (aw t b).1 (aw t b).2=1:=by obtain ⟨p,q,e,_,hc,_⟩:=gm (t:=t) h;rw [e];exact hc
theorem pF{k m n:Int}(h:k∣m*n)(hc:Int.gcd k m=1):k∣n:=by have:=(Int.dvd_gcd_mul_iff_dvd_mul (k:=k) (n:=m) (m:=n)).mpr h;rw [hc] at this;simpa using this
theorem BJ{p q p' q':Int}(hq:0<q)(xW:0<q')(h:Int.gcd p q=1)(h':Int.gcd p' q'=1)(e:p*q'=p'*q):p=p'/\q=q':=by
 have d1:q∣q':=by have:q∣p*q':=⟨p',by rw [e,aaR]⟩;exact pF this (by rw [Int.gcd_comm];exact h)
 have d2:q'∣q:=by have:q'∣p'*q:=⟨p,by rw [<-e,aaR]⟩;exact pF this (by rw [Int.gcd_comm];exact h')
 have eq:q=q':=Int.le_antisymm (abN xW d1) (abN hq d2);subst eq;exact ⟨Int.eq_of_mul_eq_mul_right (by omega) e,rfl⟩
theorem xu{t b p q:Int}(h:b≠0)(hq:0<q)(hc:Int.gcd p q=1)(e:t*q=b*p):aw t b=(p,q):=by
 have h1:=cv (t:=t) h;have h2:=cB (t:=t) h;have h3:=x6 (t:=t) h;have h4:(aw t b).1*q=p*(aw t b).2:=by
  have:b*((aw t b).1*q)=b*(p*(aw t b).2):=by rw [<-ab4,<-h1,Int.mul_right_comm,e,ab4]
  exact aaG h this
 have:=BJ h2 hq h3 hc h4;exact Prod.ext this.1 this.2
theorem uS{p q:Int}(hq:0<q)(hc:Int.gcd p q=1):aw p q=(p,q):=xu (by omega) hq hc (aaR _ _)
theorem xw{t b:Int}(h:b≠0):(dv t b).natAbs<=b.natAbs:=by
 have e:(dv t b).natAbs=Int.gcd t b:=by unfold dv g;split <;> omega
 rw [e];exact Int.gcd_le_natAbs_right t h
theorem qV {t b : Int}(h : b ≠ 0) : (aw t b).1.natAbs <= t.natAbs := by
  obtain ⟨p, q, e, _, _, hp, _⟩ := gm (t := t) h;have n0 := DP (t := t) h;rw [e];show p.natAbs <= t.natAbs
  have : t.natAbs = (dv t b).natAbs * p.natAbs := by conv => lhs; rw [hp]
                                                     exact aaZ _ _
  rw [this];exact Nat.le_mul_of_pos_left _ (by omega)
theorem jT {t b : Int}(h : b ≠ 0) : (aw t b).2.natAbs <= b.natAbs := by
  obtain ⟨p, q, e, _, _, _, hq⟩ := gm (t := t) h;have n0 := DP (t := t) h;rw [e];show q.natAbs <= b.natAbs
  have : b.natAbs = (dv t b).natAbs * q.natAbs := by conv => lhs; rw [hq]
                                                     exact aaZ _ _
  rw [this];exact Nat.le_mul_of_pos_left _ (by omega)
theorem Mg{t b:Int}(h:0<b):aw t b=(t.fdiv (g t b),b.fdiv (g t b)):=by unfold aw dv;rw [if_neg (by omega)]
end Fr0
namespace Tx
open PySem PySem.NumText
end Tx
namespace Bz
abbrev Row:=Nat->Int
abbrev Fn:=List Nat->Int
def Lx(x:Row):Fn->Fn
 |_,[]=>0
 |F,c::cs=>x c*F cs-Lx x (λt=>F (c::t)) cs
theorem A0(x:Row):∀(cs:List Nat) (F G:Fn),Lx x (λt=>F t+G t) cs=Lx x F cs+Lx x G cs
 |[],F,G=>by simp [Lx]
 |c::cs,F,G=>by have:=A0 x cs (λt=>F (c::t)) (λt=>G (c::t));simp only [Lx];rw [this];grind
theorem mv(x:Row)(k:Int):∀(cs:List Nat) (F:Fn),Lx x (λt=>k*F t) cs=k*Lx x F cs
 |[],F=>by simp [Lx]
 |c::cs,F=>by have:=mv x k cs (λt=>F (c::t));simp only [Lx];rw [this];grind
theorem J4(x:Row)(cs:List Nat)(F G:Fn):Lx x (λt=>F t-G t) cs=Lx x F cs-Lx x G cs:=by
 have h1:=A0 x cs F (λt=>(-1)*G t);have h2:=mv x (-1) cs G;have e:(λt=>F t-G t)=λt=>F t+(-1)*G t:=by funext t;grind
 rw [e,h1,h2];grind
theorem CK(x:Row):∀(cs:List Nat),Lx x (λ_=>0) cs=0
 |[]=>rfl
 |c::cs=>by simp only [Lx];rw [CK x cs];simp
theorem xm(x y:Row):∀(cs:List Nat) (F:Fn),Lx x (Lx y F) cs= - Lx y (Lx x F) cs
 |[],F=>rfl
 |c::cs,F=>by have ih:=xm x y cs (λt=>F (c::t));have e1:(λt=>Lx y F (c::t))=λt=>y c*F t-Lx y (λu=>F (c::u)) t:=rfl;have e2:(λt=>Lx x F (c::t))=λt=>x c*F t-Lx x (λu=>F (c::u)) t:=rfl;show x c*Lx y F cs-Lx x (λt=>Lx y F (c::t)) cs= -(y c*Lx x F cs-Lx y (λt=>Lx x F (c::t)) cs);rw [e1,e2,J4,J4,mv,mv,ih];grind
theorem Mw(x:Row)(cs:List Nat)(F:Fn):Lx x (Lx x F) cs=0:=by have:=xm x x cs F;omega
theorem vH(x:Row)(d:Nat):∀(cs:List Nat) (F:Fn),Lx x F (cs++[d])=Lx x (λt=>F (t++[d])) cs+(-1)^cs.length*(x d*F cs)
 |[],F=>by simp [Lx]
 |c::cs,F=>by have:=vH x d cs (λt=>F (c::t));show x c*F (cs++[d])-Lx x (λt=>F (c::t)) (cs++[d])=_;rw [this];show _=(x c*F (cs++[d])-Lx x (λt=>F (c::(t++[d]))) cs)+(-1)^(cs.length+1)*(x d*F (c::cs));have e:(λt=>F (c::(t++[d])))=λt=>(λu=>F (c::u)) (t++[d]):=rfl;rw [e,abA];grind
theorem x8(x:Row){F G:Fn}{n:Nat}:∀(cs:List Nat),(∀t,t.length+1=cs.length->F t=G t)->Lx x F cs=Lx x G cs:=by
 intro cs
 induction cs generalizing F G with
 |nil=>intro _;rfl
 |cons c cs ih=>
  intro h;simp only [Lx];rw [h cs (by simp),ih (F:=λt=>F (c::t)) (G:=λt=>G (c::t)) λt ht=>h (c::t) (by simp;omega)]
def Δ(f:Nat->Int):Nat->Int
 |0=>0
 |n+1=>Δ f n+f n
theorem gX(f g:Nat->Int):∀n,Δ (λi=>f i+g i) n=Δ f n+Δ g n
 |0=>rfl
 |n+1=>by simp only [Δ];rw [gX f g n];omega
theorem Φ(k:Int)(f:Nat->Int):∀n,Δ (λi=>k*f i) n=k*Δ f n
 |0=>by simp [Δ]
 |n+1=>by simp only [Δ];rw [Φ k f n,Int.mul_add]
theorem ψ{f g:Nat->Int}:∀{n:Nat},(∀i,i<n->f i=g i)->Δ f n=Δ g n
 |0,_=>rfl
 |n+1,h=>by simp only [Δ];rw [ψ λi hi=>h i (by omega),h n (by omega)]
theorem iE{f:Nat->Int}{n:Nat}(h:∀i,i<n->f i=0):Δ f n=0:=by
 rw [ψ h];clear h
 induction n with
 |zero=>rfl
 |succ n ih=>simp only [Δ];rw [ih];rfl
theorem iD{f:Nat->Int}{n j:Nat}(hj:j<n)(h:∀i,i<n->i≠j->f i=0):Δ f n=f j:=by
 induction n with
 |zero=>omega
 |succ n ih=>
  simp only [Δ];by_cases e:j=n
  ·subst e;rw [iE λi hi=>h i (by omega) (by omega)];omega
  ·rw [ih (by omega) λi hi kM=>h i (by omega) kM,h n (by omega) (by omega)];omega
theorem ly(f:Nat->Int):∀n,Δ f (n+1)=f 0+Δ (λi=>f (i+1)) n
 |0=>by simp [Δ]
 |n+1=>by have:=ly f n;rw [show Δ f (n+1+1)=Δ f (n+1)+f (n+1) from rfl,this];simp only [Δ];omega
theorem cY(f:Nat->Nat->Int)(m:Nat):∀n,Δ (λi=>Δ (f i) m) n=Δ (λj=>Δ (λi=>f i j) n) m
 |0=>by rw [show Δ (λi=>Δ (f i) m) 0=0 from rfl];exact (iE λ_ _=>rfl).symm
 |n+1=>by rw [show Δ (λi=>Δ (f i) m) (n+1)=Δ (λi=>Δ (f i) m) n+Δ (f n) m from rfl,cY f m n,<-gX];rfl
theorem wC(x:Row):∀(cs:List Nat) (F:Fn),Lx x F cs=Δ (λp=>(-1)^p*(x (cs.getD p 0)*F (cs.eraseIdx p))) cs.length
 |[],F=>rfl
 |c::cs,F=>by
  have ih:=wC x cs (λt=>F (c::t));show x c*F cs-Lx x (λt=>F (c::t)) cs=_;rw [aau,ly,ih];have e:Δ (λp=>(-1)^(p+1)*(x ((c::cs).getD (p+1) 0)*F ((c::cs).eraseIdx (p+1)))) cs.length= -1*Δ (λp=>(-1)^p*(x (cs.getD p 0)*F (c::cs.eraseIdx p))) cs.length:=by rw [<-Φ];refine ψ λp _=>?_;simp only [List.getD_cons_succ,List.eraseIdx_cons_succ];rw [Int.pow_succ];grind
  rw [e];simp only [List.getD_cons_zero,List.eraseIdx_cons_zero,Int.pow_zero];omega
def F0:Fn:=λcs=>if cs=[] then 1 else 0
def D:List Row->Fn
 |[]=>F0
 |x::xs=>Lx x (D xs)
theorem mJ(y:Row):∀(xs ys:List Row) (cs:List Nat),D (xs++y::ys) cs=(-1)^xs.length*D (y::(xs++ys)) cs
 |[],ys,cs=>by simp
 |x::xs,ys,cs=>by
  show Lx x (D (xs++y::ys)) cs=_;have e:D (xs++y::ys)=λt=>(-1)^xs.length*D (y::(xs++ys)) t:=by funext t;exact mJ y xs ys t
  rw [e,mv];show (-1)^xs.length*Lx x (Lx y (D (xs++ys))) cs=(-1)^(xs.length+1)*Lx y (Lx x (D (xs++ys))) cs;rw [xm x y,Int.pow_succ];grind
theorem SI(y:Row)(xs ys zs:List Row)(cs:List Nat):D (xs++y::(ys++y::zs)) cs=0:=by
 rw [mJ];have e:D (y::(xs++(ys++y::zs))) cs=Lx y (λt=>D (xs++(ys++y::zs)) t) cs:=rfl;have e2:(λt=>D (xs++(ys++y::zs)) t)=λt=>(-1)^(xs++ys).length*Lx y (D (xs++ys++zs)) t:=by
  funext t
  rw [<-aaI,mJ];rfl
 rw [e,e2,mv,Mw];simp
def eN(γ:List Row)(ν:List Nat)(p k:Nat):Int:=(-1)^(p+k)*D (γ.eraseIdx k) (ν.eraseIdx p)
def zr:Row:=λ_=>0
theorem OR(n:Nat):((-1:Int)^n)*(-1)^n=1:=by
 induction n with
 |zero=>rfl
 |succ n ih=>rw [Int.pow_succ];grind
theorem Jq{α:Type}:∀{l:List α}{k:Nat}(h:k<l.length),l=l.take k++l[k]::l.drop (k+1):=by intro l k h;rw [List.getElem_cons_drop,List.take_append_drop]
theorem Gr{α:Type}{l:List α}{i k:Nat}(hi:i<l.length)(kM:i≠k):l[i]∈l.eraseIdx k:=by rw [List.mem_eraseIdx_iff_getElem];exact ⟨i,hi,kM,rfl⟩
theorem PA{γ:List Row}{ν:List Nat}{i k:Nat}(hl:ν.length=γ.length)(hi:i<γ.length)(hk:k<γ.length):Δ (λp=>γ.getD i zr (ν.getD p 0)*eN γ ν p k) γ.length=if i=k then D γ ν else 0:=by
 have gi:γ.getD i zr=γ[i]:=by rw [aab,aaa hi];rfl
 have e:Δ (λp=>γ.getD i zr (ν.getD p 0)*eN γ ν p k) γ.length=(-1)^k*D (γ.getD i zr::γ.eraseIdx k) ν:=by show _=(-1)^k*Lx (γ.getD i zr) (D (γ.eraseIdx k)) ν;rw [wC,<-Φ,hl];refine ψ λp _=>?_;unfold eN;rw [Int.pow_add];grind
 rw [e,gi];by_cases h:i=k
 ·subst h;rw [if_pos rfl];have s:=Jq hi;have f:=mJ γ[i] (γ.take i) (γ.drop (i+1)) ν;rw [<-s,abT,ab3 (by omega)] at f;rw [f,List.eraseIdx_eq_take_drop_succ]
 ·rw [if_neg h];obtain ⟨ys,zs,e2⟩:=List.append_of_mem (Gr hi h);rw [e2];have:=SI γ[i] [] ys zs ν;rw [show D (γ[i]::(ys++γ[i]::zs)) ν=0 from this];simp
theorem wR(x:Row)(g:Nat->Int)(F:Nat->Fn)(cs:List Nat):∀n,Lx x (λt=>Δ (λk=>g k*F k t) n) cs=Δ (λk=>g k*Lx x (F k) cs) n
 |0=>CK x cs
 |n+1=>by have:=A0 x cs (λt=>Δ (λk=>g k*F k t) n) (λt=>g n*F n t);show Lx x (λt=>Δ (λk=>g k*F k t) n+g n*F n t) cs=_;rw [this,wR x g F cs n,mv];rfl
theorem Nl(c:Nat):∀(γ:List Row) (t:List Nat),D γ (t++[c])=Δ (λk=>(-1)^(t.length+k)*(γ.getD k zr c*D (γ.eraseIdx k) t)) γ.length
 |[],t=>by show F0 (t++[c])=0;unfold F0;simp
 |x::xs,t=>by
  show Lx x (D xs) (t++[c])=_;rw [vH,aau,ly];have e:Lx x (λu=>D xs (u++[c])) t=Δ (λk=>(-1)^(t.length+(k+1))*((x::xs).getD (k+1) zr c*D ((x::xs).eraseIdx (k+1)) t)) xs.length:=by
   have e1:Lx x (λu=>D xs (u++[c])) t=Lx x (λu=>Δ (λk=>((-1)^(t.length+(k+1))*xs.getD k zr c)*D (xs.eraseIdx k) u) xs.length) t:=by refine x8 x (n:=0) t λu hu=>?_;rw [Nl c xs u];refine ψ λk _=>?_;rw [<-hu,show u.length+1+(k+1)=u.length+k+1+1 by omega,Int.pow_succ,Int.pow_succ];grind
   rw [e1,wR x (λk=>(-1)^(t.length+(k+1))*xs.getD k zr c) (λk=>D (xs.eraseIdx k))];refine ψ λk _=>?_;simp only [List.getD_cons_succ,List.eraseIdx_cons_succ];show _=(-1)^(t.length+(k+1))*(xs.getD k zr c*Lx x (D (xs.eraseIdx k)) t);grind
  rw [e];simp only [List.getD_cons_zero,List.eraseIdx_cons_zero,Nat.add_zero];omega
theorem G8{γ:List Row}{ν:List Nat}{y:Row}{c:Nat}(hl:ν.length=γ.length):D (γ++[y]) (ν++[c])=y c*D γ ν-Δ (λp=>y (ν.getD p 0)*Δ (λk=>eN γ ν p k*γ.getD k zr c) γ.length) γ.length:=by
 rw [mJ,aaV];show (-1)^γ.length*Lx y (D γ) (ν++[c])=_;rw [vH];have e1:Lx y (λt=>D γ (t++[c])) ν= - ((-1)^γ.length*Δ (λp=>y (ν.getD p 0)*Δ (λk=>eN γ ν p k*γ.getD k zr c) γ.length) γ.length):=by
  have e2:Lx y (λt=>D γ (t++[c])) ν=Lx y (λt=>Δ (λk=>(-((-1)^(γ.length+k)*γ.getD k zr c))*D (γ.eraseIdx k) t) γ.length) ν:=by refine x8 y (n:=0) ν λt ht=>?_;rw [Nl c γ t];refine ψ λk _=>?_;rw [<-hl,<-ht,show t.length+1+k=t.length+k+1 by omega,Int.pow_succ];grind
  rw [e2,wR y (λk=> -((-1)^(γ.length+k)*γ.getD k zr c)) (λk=>D (γ.eraseIdx k))];have e3:Δ (λk=> -((-1)^(γ.length+k)*γ.getD k zr c)*Lx y (D (γ.eraseIdx k)) ν) γ.length=Δ (λk=>Δ (λp=> -((-1)^γ.length)*(y (ν.getD p 0)*(eN γ ν p k*γ.getD k zr c))) γ.length) γ.length:=by refine ψ λk _=>?_;rw [wC,<-Φ,hl];refine ψ λp _=>?_;unfold eN;rw [Int.pow_add,Int.pow_add];grind
  rw [e3,cY];have e4:Δ (λp=>Δ (λk=> -((-1)^γ.length)*(y (ν.getD p 0)*(eN γ ν p k*γ.getD k zr c))) γ.length) γ.length=Δ (λp=> -((-1)^γ.length)*(y (ν.getD p 0)*Δ (λk=>eN γ ν p k*γ.getD k zr c) γ.length)) γ.length:=by refine ψ λp _=>?_;rw [Φ,Φ]
  rw [e4,Φ];grind
 rw [e1,hl];have s:=OR γ.length;generalize ((-1:Int)^γ.length)=z at *
 generalize Δ _ γ.length=q;grind
theorem IP{γ:List Row}{ν:List Nat}{v:Nat->Int}{e:Int}{i k:Nat}(hl:ν.length=γ.length)(hi:i<γ.length)(hk:k<γ.length)
  (h:∀p,p<γ.length->Δ (λj=>v j*γ.getD j zr (ν.getD p 0)) γ.length=if i=p then e else 0):v k*D γ ν=e*eN γ ν i k:=by
 have a:Δ (λp=>Δ (λj=>v j*γ.getD j zr (ν.getD p 0)) γ.length*eN γ ν p k) γ.length=e*eN γ ν i k:=by rw [iD hi λp hp kM=>by rw [h p hp,if_neg (Ne.symm kM)];simp];rw [h i hi,if_pos rfl]
 have b:Δ (λp=>Δ (λj=>v j*γ.getD j zr (ν.getD p 0)) γ.length*eN γ ν p k) γ.length=Δ (λj=>v j*Δ (λp=>γ.getD j zr (ν.getD p 0)*eN γ ν p k) γ.length) γ.length:=by
  have e1:Δ (λp=>Δ (λj=>v j*γ.getD j zr (ν.getD p 0)) γ.length*eN γ ν p k) γ.length=Δ (λp=>Δ (λj=>v j*(γ.getD j zr (ν.getD p 0)*eN γ ν p k)) γ.length) γ.length:=by refine ψ λp _=>?_;rw [aaR,<-Φ];refine ψ λj _=>?_;grind
  rw [e1,cY];refine ψ λj _=>?_;rw [<-Φ]
 rw [<-a,b,iD hk λj hj kM=>by rw [PA hl hj hk,if_neg kM];simp];rw [PA hl hk hk,if_pos rfl]
def ind(a k:Nat):Int:=if a=k then 1 else 0
def rv(A:Nat->Row)(n:Nat)(w:Row)(x:Nat):Int:=Δ (λk=>w k*A k x) n
theorem mW{f:Nat->Int}{a n:Nat}(h:a<n):Δ (λk=>ind a k*f k) n=f a:=by rw [iD h λi _ kM=>by unfold ind;rw [if_neg (Ne.symm kM)];simp];unfold ind;rw [if_pos rfl];simp
theorem wK{A:Nat->Row}{n:Nat}{w u v:Row}{a b:Int}(h:∀k,w k=a*u k-b*v k)(x:Nat):rv A n w x=a*rv A n u x-b*rv A n v x:=by
 unfold rv;have e:Δ (λk=>w k*A k x) n=Δ (λk=>a*(u k*A k x)+(-b)*(v k*A k x)) n:=ψ λk _=>by rw [h k];grind
 rw [e,gX,Φ,Φ];grind
theorem JP{A:Nat->Row}{n r:Nat}{w:Row}{g:Nat->Int}{u:Nat->Row}(h:∀k,w k=Δ (λj=>g j*u j k) r)(x:Nat):rv A n w x=Δ (λj=>g j*rv A n (u j) x) r:=by
 unfold rv;have e:Δ (λk=>w k*A k x) n=Δ (λk=>Δ (λj=>g j*(u j k*A k x)) r) n:=ψ λk _=>by rw [h k,aaR,<-Φ];exact ψ λj _=>by grind
 rw [e,cY];exact ψ λj _=>Φ _ _ _
theorem Bq{A:Nat->Row}{n a:Nat}(h:a<n)(x:Nat):rv A n (ind a) x=A a x:=by unfold rv;exact mW (f:=λk=>A k x) h
structure St(A:Nat->Row)(n:Nat)(ρ ν:List Nat)(q:Nat->Nat)(d:Int)(W:Nat->Row):Prop where
 lc:ν.length=ρ.length
 rn:ρ.length<=n
 Ma:∀i,i<n->q i<n
 yW:∀j,j<ρ.length->ρ.getD j 0<n
 det:D (ρ.map A) ν=d
 wp:∀i,i<ρ.length->∀k,W i k=Δ (λj=>eN (ρ.map A) ν i j*ind (ρ.getD j 0) k) ρ.length
 wn:∀i,ρ.length<=i->i<n->∀k,W i k=d*ind (q i) k-Δ (λp=>A (q i) (ν.getD p 0)*W p k) ρ.length
 one:∀i p,i<ρ.length->p<ρ.length->rv A n (W i) (ν.getD p 0)=if i=p then d else 0
section
variable{A:Nat->Row}{n:Nat}{ρ ν:List Nat}{q:Nat->Nat}{d:Int}{W:Nat->Row}
theorem sZ{j:Nat}(h:j<ρ.length):(ρ.map A).getD j zr=A (ρ.getD j 0):=by rw [aab,aam,aaa h,aab,aaa h];rfl
theorem St.QK(s:St A n ρ ν q d W){i:Nat}(hi:i<ρ.length)(x:Nat):rv A n (W i) x=Δ (λj=>eN (ρ.map A) ν i j*A (ρ.getD j 0) x) ρ.length:=by rw [JP (u:=λj=>ind (ρ.getD j 0)) (s.wp i hi)];exact ψ λj hj=>by rw [Bq (s.yW j hj)]
theorem St.NX(s:St A n ρ ν q d W){i:Nat}(h1:ρ.length<=i)(hi:i<n)(x:Nat):rv A n (W i) x=d*A (q i) x-Δ (λp=>A (q i) (ν.getD p 0)*rv A n (W p) x) ρ.length:=by
 have h:∀k,W i k=d*ind (q i) k-1*Δ (λp=>A (q i) (ν.getD p 0)*W p k) ρ.length:=λk=>by rw [s.wn i h1 hi k];omega
 rw [wK h x,Bq (s.Ma i hi),JP (w:=λk=>Δ (λp=>A (q i) (ν.getD p 0)*W p k) ρ.length) (u:=W) (λk=>rfl)];omega
theorem St.zero(s:St A n ρ ν q d W){i p:Nat}(h1:ρ.length<=i)(hi:i<n)(hp:p<ρ.length):rv A n (W i) (ν.getD p 0)=0:=by
 rw [s.NX h1 hi];have e:Δ (λp'=>A (q i) (ν.getD p' 0)*rv A n (W p') (ν.getD p 0)) ρ.length=A (q i) (ν.getD p 0)*d:=by rw [iD hp λp' yD kM=>by rw [s.one p' p yD hp,if_neg kM];simp];rw [s.one p p hp hp,if_pos rfl]
 rw [e];grind
theorem St.head(s:St A n ρ ν q d W)(hr:ρ.length<n)(c:Nat):D ((ρ++[q ρ.length]).map A) (ν++[c])=rv A n (W ρ.length) c:=by
 rw [aaS,s.NX (aah _) hr];show D (ρ.map A++[A (q ρ.length)]) (ν++[c])=_;rw [G8 (by rw [aad];exact s.lc),s.det,aad,aaR]
 congr 1
 refine ψ λp hp=>?_;rw [s.QK hp]
 congr 1
 exact ψ λk hk=>by rw [sZ hk]
theorem nC{a j:Nat}{l:List Nat}(h:j<l.length):(l++[a]).getD j 0=l.getD j 0:=by rw [aab,aao h,<-aab]
theorem mP{a:Nat}{l:List Nat}:(l++[a]).getD l.length 0=a:=by simp
theorem mix(f:Nat->Int)(s:St A n ρ ν q d W)(a L:Int)(g:Nat->Int):
  Δ (λj=>(if j<ρ.length then a*g j+L*Δ (λp=>A (q ρ.length) (ν.getD p 0)*eN (ρ.map A) ν p j) ρ.length else -(L*d))*f ((ρ++[q ρ.length]).getD j 0)) (ρ.length+1)
  =a*Δ (λj=>g j*f (ρ.getD j 0)) ρ.length-L*(d*f (q ρ.length)-Δ (λp=>A (q ρ.length) (ν.getD p 0)*Δ (λj=>eN (ρ.map A) ν p j*f (ρ.getD j 0)) ρ.length) ρ.length):=by
 rw [show∀F:Nat->Int,Δ F (ρ.length+1)=Δ F ρ.length+F ρ.length from λ_=>rfl,mP,if_neg (abi _)]
 have e:Δ (λj=>(if j<ρ.length then a*g j+L*Δ (λp=>A (q ρ.length) (ν.getD p 0)*eN (ρ.map A) ν p j) ρ.length else -(L*d))*f ((ρ++[q ρ.length]).getD j 0)) ρ.length
   =Δ (λj=>a*(g j*f (ρ.getD j 0))+L*Δ (λp=>A (q ρ.length) (ν.getD p 0)*(eN (ρ.map A) ν p j*f (ρ.getD j 0))) ρ.length) ρ.length:=by
  refine ψ λj hj=>?_;rw [if_pos hj,nC hj];have e2:Δ (λp=>A (q ρ.length) (ν.getD p 0)*(eN (ρ.map A) ν p j*f (ρ.getD j 0))) ρ.length=f (ρ.getD j 0)*Δ (λp=>A (q ρ.length) (ν.getD p 0)*eN (ρ.map A) ν p j) ρ.length:=by rw [<-Φ];exact ψ λp _=>by grind
  rw [e2];grind
 rw [e,gX,Φ,Φ,cY (λj p=>A (q ρ.length) (ν.getD p 0)*(eN (ρ.map A) ν p j*f (ρ.getD j 0)))]
 have e3:Δ (λp=>Δ (λj=>A (q ρ.length) (ν.getD p 0)*(eN (ρ.map A) ν p j*f (ρ.getD j 0))) ρ.length) ρ.length=Δ (λp=>A (q ρ.length) (ν.getD p 0)*Δ (λj=>eN (ρ.map A) ν p j*f (ρ.getD j 0)) ρ.length) ρ.length:=
  ψ λp _=>Φ _ _ _
 rw [e3];grind
theorem St.step(s:St A n ρ ν q d W)(hr:ρ.length<n)(c:Nat)(d0:d≠0)(h0:rv A n (W ρ.length) c≠0):
  ∃W':Nat->Row,St A n (ρ++[q ρ.length]) (ν++[c]) q (rv A n (W ρ.length) c) W'/\(∀k,W' ρ.length k=W ρ.length k)/\
   ∀i,i<n->i≠ρ.length->∀k,d*W' i k=rv A n (W ρ.length) c*W i k-rv A n (W i) c*W ρ.length k:=by
 have hd:=s.head hr c;generalize hE:rv A n (W ρ.length) c=E at *
 have lr:((ρ++[q ρ.length]).map A).length=ρ.length+1:=by simp
 have ZG:(ν++[c]).length=((ρ++[q ρ.length]).map A).length:=by rw [lr];simp [s.lc]
 have cg:∀p,p<ρ.length->(ν++[c]).getD p 0=ν.getD p 0:=λp hp=>nC (by rw [s.lc];exact hp);have cl:(ν++[c]).getD ρ.length 0=c:=by rw [<-s.lc];exact mP
 have rg:∀j,j<ρ.length+1->((ρ++[q ρ.length]).map A).getD j zr=A ((ρ++[q ρ.length]).getD j 0):=λj hj=>sZ (by simp;omega);have head:∀j,j<ρ.length+1->(if j<ρ.length then (0:Int)*0+(-1)*Δ (λp=>A (q ρ.length) (ν.getD p 0)*eN (ρ.map A) ν p j) ρ.length else -((-1)*d))=eN ((ρ++[q ρ.length]).map A) (ν++[c]) ρ.length j:=λj hj=>by
  have:=IP (γ:=(ρ++[q ρ.length]).map A) (ν:=ν++[c]) (v:=λj=>if j<ρ.length then (0:Int)*0+(-1)*Δ (λp=>A (q ρ.length) (ν.getD p 0)*eN (ρ.map A) ν p j) ρ.length else -((-1)*d)) (e:=E) (i:=ρ.length) (k:=j) ZG (by rw [lr];omega) (by rw [lr];exact hj) (λp hp=>by
   rw [lr] at hp⊢;have e1:=mix (λa=>A a ((ν++[c]).getD p 0)) s 0 (-1) (λ_=>0);have e2:Δ (λj=>(if j<ρ.length then (0:Int)*0+(-1)*Δ (λp=>A (q ρ.length) (ν.getD p 0)*eN (ρ.map A) ν p j) ρ.length else -((-1)*d))*((ρ++[q ρ.length]).map A).getD j zr ((ν++[c]).getD p 0)) (ρ.length+1)=_:=(ψ λj hj=>by rw [rg j hj]).trans e1;rw [e2];have e3:d*A (q ρ.length) ((ν++[c]).getD p 0)-Δ (λp'=>A (q ρ.length) (ν.getD p' 0)*Δ (λj=>eN (ρ.map A) ν p' j*A (ρ.getD j 0) ((ν++[c]).getD p 0)) ρ.length) ρ.length=rv A n (W ρ.length) ((ν++[c]).getD p 0):=by
    rw [s.NX (aah _) hr]
    congr 1
    exact ψ λp' yD=>by rw [s.QK yD]
   rw [e3];by_cases Gh:p<ρ.length
   ·rw [cg p Gh,s.zero (Nat.le_refl _) hr Gh,if_neg (by omega)];simp
   ·have:p=ρ.length:=by omega
    subst this
    rw [cl,hE,if_pos rfl];omega)
  rw [hd] at this;refine aaG h0 ?_;rw [<-this];grind
 have hk:∀k,W ρ.length k=Δ (λj=>eN ((ρ++[q ρ.length]).map A) (ν++[c]) ρ.length j*ind ((ρ++[q ρ.length]).getD j 0) k) (ρ.length+1):=λk=>by
  have e1:=mix (λa=>ind a k) s 0 (-1) (λ_=>0);have e2:Δ (λj=>eN ((ρ++[q ρ.length]).map A) (ν++[c]) ρ.length j*ind ((ρ++[q ρ.length]).getD j 0) k) (ρ.length+1)=_:=(ψ λj hj=>by rw [<-head j hj]).trans e1;rw [e2,s.wn _ (aah _) hr k];have e3:Δ (λp=>A (q ρ.length) (ν.getD p 0)*W p k) ρ.length=Δ (λp=>A (q ρ.length) (ν.getD p 0)*Δ (λj=>eN (ρ.map A) ν p j*ind (ρ.getD j 0) k) ρ.length) ρ.length:=ψ λp hp=>by rw [s.wp p hp k]
  rw [e3];omega
 have above:∀i,i<ρ.length->∀j,j<ρ.length+1->(if j<ρ.length then E*eN (ρ.map A) ν i j+rv A n (W i) c*Δ (λp=>A (q ρ.length) (ν.getD p 0)*eN (ρ.map A) ν p j) ρ.length else -(rv A n (W i) c*d))=d*eN ((ρ++[q ρ.length]).map A) (ν++[c]) i j:=λi hi j hj=>by
  have:=IP (γ:=(ρ++[q ρ.length]).map A) (ν:=ν++[c]) (v:=λj=>if j<ρ.length then E*eN (ρ.map A) ν i j+rv A n (W i) c*Δ (λp=>A (q ρ.length) (ν.getD p 0)*eN (ρ.map A) ν p j) ρ.length else -(rv A n (W i) c*d)) (e:=d*E) (i:=i) (k:=j) ZG (by rw [lr];omega) (by rw [lr];exact hj) (λp hp=>by
   rw [lr] at hp⊢;have e1:=mix (λa=>A a ((ν++[c]).getD p 0)) s E (rv A n (W i) c) (λj=>eN (ρ.map A) ν i j);have e2:Δ (λj=>(if j<ρ.length then E*eN (ρ.map A) ν i j+rv A n (W i) c*Δ (λp=>A (q ρ.length) (ν.getD p 0)*eN (ρ.map A) ν p j) ρ.length else -(rv A n (W i) c*d))*((ρ++[q ρ.length]).map A).getD j zr ((ν++[c]).getD p 0)) (ρ.length+1)=_:=(ψ λj hj=>by rw [rg j hj]).trans e1;rw [e2];have e3:d*A (q ρ.length) ((ν++[c]).getD p 0)-Δ (λp'=>A (q ρ.length) (ν.getD p' 0)*Δ (λj=>eN (ρ.map A) ν p' j*A (ρ.getD j 0) ((ν++[c]).getD p 0)) ρ.length) ρ.length=rv A n (W ρ.length) ((ν++[c]).getD p 0):=by
    rw [s.NX (aah _) hr]
    congr 1
    exact ψ λp' yD=>by rw [s.QK yD]
   rw [e3,<-s.QK hi];by_cases Gh:p<ρ.length
   ·rw [cg p Gh,s.zero (aah _) hr Gh,s.one i p hi Gh];split <;> grind
   ·have:p=ρ.length:=by omega
    subst this
    rw [cl,hE,if_neg (by omega)];grind)
  rw [hd] at this;refine aaG h0 ?_;rw [Int.mul_comm,this];grind
 have Zf:∀i,i<ρ.length->∀k,d*Δ (λj=>eN ((ρ++[q ρ.length]).map A) (ν++[c]) i j*ind ((ρ++[q ρ.length]).getD j 0) k) (ρ.length+1)=E*W i k-rv A n (W i) c*W ρ.length k:=λi hi k=>by
  have e1:=mix (λa=>ind a k) s E (rv A n (W i) c) (λj=>eN (ρ.map A) ν i j);have e2:d*Δ (λj=>eN ((ρ++[q ρ.length]).map A) (ν++[c]) i j*ind ((ρ++[q ρ.length]).getD j 0) k) (ρ.length+1)=_:=((Φ _ _ _).symm.trans (ψ λj hj=>by rw [above i hi j hj];grind)).trans e1;rw [e2,s.wn _ (aah _) hr k,s.wp i hi k];have e3:Δ (λp=>A (q ρ.length) (ν.getD p 0)*W p k) ρ.length=Δ (λp=>A (q ρ.length) (ν.getD p 0)*Δ (λj=>eN (ρ.map A) ν p j*ind (ρ.getD j 0) k) ρ.length) ρ.length:=ψ λp hp=>by rw [s.wp p hp k]
  rw [e3]
 let V:Nat->Row:=λi k=>if i=ρ.length then W ρ.length k else Δ (λj=>eN ((ρ++[q ρ.length]).map A) (ν++[c]) i j*ind ((ρ++[q ρ.length]).getD j 0) k) (ρ.length+1)
 let W':Nat->Row:=λi k=>if i<ρ.length+1 then V i k else E*ind (q i) k-Δ (λp=>A (q i) ((ν++[c]).getD p 0)*V p k) (ρ.length+1)
 have Wr:∀k,W' ρ.length k=W ρ.length k:=λk=>by show (if ρ.length<ρ.length+1 then (if ρ.length=ρ.length then W ρ.length k else _) else _)=_;rw [if_pos (aa8 _),if_pos rfl]
 have Wi:∀i,i<ρ.length->∀k,W' i k=Δ (λj=>eN ((ρ++[q ρ.length]).map A) (ν++[c]) i j*ind ((ρ++[q ρ.length]).getD j 0) k) (ρ.length+1):=λi hi k=>by show (if i<ρ.length+1 then (if i=ρ.length then _ else _) else _)=_;rw [if_pos (by omega),if_neg (by omega)]
 have WV:∀p,p<ρ.length+1->∀k,W' p k=V p k:=λp hp k=>by show (if p<ρ.length+1 then V p k else _)=_;rw [if_pos hp]
 have Wn:∀i,ρ.length+1<=i->∀k,W' i k=E*ind (q i) k-Δ (λp=>A (q i) ((ν++[c]).getD p 0)*W' p k) (ρ.length+1):=λi hi k=>by
  show (if i<ρ.length+1 then V i k else _)=_;rw [if_neg (by omega)]
  congr 1
  exact ψ λp hp=>by rw [WV p hp]
 have H:∀i,i<n->i≠ρ.length->∀k,d*W' i k=E*W i k-rv A n (W i) c*W ρ.length k:=λi hi kM k=>by
  by_cases wj:i<ρ.length
  ·rw [Wi i wj k];exact Zf i wj k
  ·rw [Wn i (by omega) k,s.wn i (by omega) hi k,s.NX (by omega) hi c];rw [show∀F:Nat->Int,Δ F (ρ.length+1)=Δ F ρ.length+F ρ.length from λ_=>rfl,cl,Wr];have e1:d*Δ (λp=>A (q i) ((ν++[c]).getD p 0)*W' p k) ρ.length=Δ (λp=>E*(A (q i) (ν.getD p 0)*W p k)+(-(W ρ.length k))*(A (q i) (ν.getD p 0)*rv A n (W p) c)) ρ.length:=by rw [<-Φ];refine ψ λp hp=>?_;have:=Zf p hp k;rw [cg p hp,Wi p hp k];grind
   rw [gX,Φ,Φ] at e1;grind
 refine ⟨W',⟨by simp [s.lc],by simp;omega,s.Ma,λj hj=>?_,hd,λi hi k=>?_,λi h1 hi k=>?_,λi p hi hp=>?_⟩,Wr,H⟩
 ·by_cases ZH:j<ρ.length
  ·rw [nC ZH];exact s.yW j ZH
  ·have:j=ρ.length:=by simp at hj;omega
   rw [this,mP];exact s.Ma _ hr
 ·rw [show (ρ++[q ρ.length]).length=ρ.length+1 by simp] at hi⊢;by_cases wj:i<ρ.length
  ·exact Wi i wj k
  ·have:i=ρ.length:=by omega
   subst this;rw [Wr k];exact hk k
 ·rw [show (ρ++[q ρ.length]).length=ρ.length+1 by simp] at h1⊢;exact Wn i h1 k
 ·rw [show (ρ++[q ρ.length]).length=ρ.length+1 by simp] at hi hp;have hrr:∀x,rv A n (W' ρ.length) x=rv A n (W ρ.length) x:=λx=>by unfold rv;exact ψ λk _=>by rw [Wr k]
  by_cases wj:i<ρ.length
  ·have XQ:d*rv A n (W' i) ((ν++[c]).getD p 0)=E*rv A n (W i) ((ν++[c]).getD p 0)-rv A n (W i) c*rv A n (W ρ.length) ((ν++[c]).getD p 0):=by have:=wK (A:=A) (n:=n) (w:=λk=>d*W' i k) (u:=W i) (v:=W ρ.length) (a:=E) (b:=rv A n (W i) c) (λk=>H i (by omega) (by omega) k) ((ν++[c]).getD p 0);rw [<-this];unfold rv;rw [<-Φ];exact ψ λk _=>by grind
   refine aaG d0 ?_;rw [XQ];by_cases Gh:p<ρ.length
   ·rw [cg p Gh,s.zero (aah _) hr Gh,s.one i p wj Gh];split <;> grind
   ·have:p=ρ.length:=by omega
    subst this;rw [cl,hE,if_neg (by omega)];grind
  ·have:i=ρ.length:=by omega
   subst this;rw [hrr];by_cases Gh:p<ρ.length
   ·rw [cg p Gh,s.zero (aah _) hr Gh,if_neg (by omega)]
   ·have:p=ρ.length:=by omega
    subst this;rw [cl,hE,if_pos rfl]
end
theorem St.start{A:Nat->Row}{n:Nat}:St A n [] [] id 1 (λi=>ind i) where
 lc:=rfl
 rn:=abK _
 Ma:=λ_ h=>h
 yW:=λ_ h=>absurd h (abm _)
 det:=rfl
 wp:=λ_ h=>absurd h (abm _)
 wn:=λi _ _ k=>by show ind i k=1*ind i k-0;omega
 one:=λ_ _ h=>absurd h (abm _)
theorem St.perm{A:Nat->Row}{n:Nat}{ρ ν:List Nat}{q:Nat->Nat}{d:Int}{W:Nat->Row}(s:St A n ρ ν q d W){π:Nat->Nat}(h1:∀i,i<ρ.length->π i=i)(h2:∀i,ρ.length<=i->i<n->ρ.length<=π i/\π i<n):St A n ρ ν (λi=>q (π i)) d (λi=>W (π i)) where
 lc:=s.lc
 rn:=s.rn
 Ma:=λi hi=>s.Ma _ (by
  by_cases h:i<ρ.length
  ·rw [h1 i h];exact hi
  ·exact (h2 i (by omega) hi).2)
 yW:=s.yW
 det:=s.det
 wp:=λi hi k=>by show W (π i) k=_;rw [h1 i hi];exact s.wp i hi k
 wn:=λi hi hn k=>by
  obtain ⟨a,b⟩:=h2 i hi hn;have:=s.wn (π i) a b k;rw [this]
  congr 1
  exact ψ λp hp=>by rw [h1 p hp]
 one:=λi p hi hp=>by show rv A n (W (π i)) _=_;rw [h1 i hi];exact s.one i p hi hp
def Ab(x B:Int):Prop:= -B<=x/\x<=B
theorem Ab.mul{x y B C:Int}(h:Ab x B)(h':Ab y C):Ab (x*y) (B*C):=by
 obtain ⟨a,b⟩:=h;obtain ⟨c,d⟩:=h';have B0:0<=B:=by omega
 have C0:0<=C:=by omega
 have hb:x.natAbs<=B.natAbs:=by omega
 have hc:y.natAbs<=C.natAbs:=by omega
 have hm:=Nat.mul_le_mul hb hc;rw [<-aaZ,<-aaZ] at hm;have p:=aaY B0 C0;exact ⟨by omega,by omega⟩
theorem Ab.add{x y B C:Int}(h:Ab x B)(h':Ab y C):Ab (x+y) (B+C):=⟨by have:=h.1;have:=h'.1;omega,by have:=h.2;have:=h'.2;omega⟩
theorem Ab.sub{x y B C:Int}(h:Ab x B)(h':Ab y C):Ab (x-y) (B+C):=⟨by have:=h.1;have:=h'.2;omega,by have:=h.2;have:=h'.1;omega⟩
theorem Ab.mono{x B C:Int}(h:Ab x B)(h':B<=C):Ab x C:=⟨by have:=h.1;omega,by have:=h.2;omega⟩
theorem Ab.sum{f:Nat->Int}{B:Int}:∀{n:Nat},(∀i,i<n->Ab (f i) B)->Ab (Δ f n) (n*B)
 |0,_=>⟨by simp [Δ],by simp [Δ]⟩
 |n+1,h=>by
  have i:=Ab.sum (n:=n) λi hi=>h i (by omega);have:=Ab.add i (h n (by omega));have e:(n:Int)*B+B=((n+1:Nat):Int)*B:=by rw [show ((n+1:Nat):Int)=(n:Int)+1 from rfl,Int.add_mul,Int.one_mul]
  rw [e] at this;exact this
theorem Ab.pow{k:Nat}{x B:Int}(h:Ab x B):Ab ((-1)^k*x) B:=by
 rcases (by induction k with
  |zero=>exact .inl rfl
  |succ k ih=>rw [Int.pow_succ];rcases ih with e|e <;> rw [e] <;> simp:((-1:Int)^k=1\/(-1:Int)^k= -1)) with e|e
 ·rw [e,Int.one_mul];exact h
 ·rw [e];obtain ⟨a,b⟩:=h;exact ⟨by omega,by omega⟩
theorem Ab.det{B:Int}(B0:1<=B):∀(γ:List Row) (ν:List Nat),(∀x∈γ,∀c∈ν,Ab (x c) B)->ν.length<=12->Ab (D γ ν) ((12*B)^γ.length)
 |[],ν,_,_=>by
  show Ab (F0 ν) ((12*B)^0);rw [Int.pow_zero];unfold F0;split
  ·exact ⟨by decide,by decide⟩
  ·exact ⟨by decide,by decide⟩
 |x::γ,ν,h,hl=>by
  show Ab (Lx x (D γ) ν) _;rw [wC,aau,abA];have P0:(0:Int)<=(12*B)^γ.length:=abB (by omega);have each:∀p,p<ν.length->Ab ((-1)^p*(x (ν.getD p 0)*D γ (ν.eraseIdx p))) (B*(12*B)^γ.length):=λp hp=>by
   refine Ab.pow (Ab.mul ?_ (Ab.det B0 γ (ν.eraseIdx p) (λy hy c hc=>h y (aac _ hy) c (abY hc)) ?_))
   ·rw [aab,aaa hp];exact h x aae _ (aax hp)
   ·rw [List.length_eraseIdx];split <;> omega
  refine (Ab.sum each).mono ?_;have Q0:0<=B*(12*B)^γ.length:=aaY (by omega) P0;have:=aaA (show (ν.length:Int)<=12 by omega) Q0;refine abf this ?_;have e:12*(B*(12*B)^γ.length)=(12*B)^γ.length*(12*B):=by grind
  omega
section
variable{A:Nat->Row}{n:Nat}{ρ ν:List Nat}{q:Nat->Nat}{d:Int}{W:Nat->Row}
structure Bd(A:Nat->Row)(n m:Nat)(B:Int):Prop where
 b1:1<=B
 ab:∀k x,k<n->x<m->Ab (A k x) B
def top(B:Int)(r:Nat):Int:=(12*B)^(r+3)
theorem xA{B:Int}{a b:Nat}(h:1<=B)(Xz:a<=b):(12*B)^a<=(12*B)^b:=by
 obtain ⟨c,rfl⟩:=Nat.exists_eq_add_of_le Xz;rw [Int.pow_add];have p:(1:Int)<=(12*B)^c:=by have:0<(12*B)^c:=Int.pow_pos (by omega);omega
 have q:(0:Int)<=(12*B)^a:=abB (by omega);have:=aan p q;omega
theorem St.abs(s:St A n ρ ν q d W){m:Nat}{B:Int}(b:Bd A n m B)(hc:∀c∈ν,c<m)(hr:ρ.length<=12):
  (∀i k,i<n->Ab (W i k) (top B ρ.length))/\(∀i x,i<n->x<m->Ab (rv A n (W i) x) (top B ρ.length))/\Ab d (top B ρ.length):=by
 have B0:=b.b1;have mem:∀j,j<ρ.length->ρ.getD j 0∈ρ:=λj hj=>by rw [aab,aaa hj];exact aax hj
 have ρn:∀a∈ρ,a<n:=λa ha=>by obtain ⟨j,hj,e⟩:=aaX ha;have:=s.yW j hj;rw [aab,aaa hj] at this;rw [<-e];exact this
 have ent:∀x∈ρ.map A,∀c∈ν,Ab (x c) B:=λx hx c zb=>by obtain ⟨a,ha,rfl⟩:=aaj.mp hx;exact b.ab a c (ρn a ha) (hc c zb)
 have cl:ν.length<=12:=by rw [s.lc];exact hr
 have hd:Ab d ((12*B)^ρ.length):=by have:=Ab.det B0 (ρ.map A) ν ent cl;rw [s.det,aad] at this;exact this
 have Ux:∀p k,Ab (eN (ρ.map A) ν p k) ((12*B)^ρ.length):=λp k=>by
  unfold eN;refine Ab.pow ((Ab.det B0 _ _ (λx hx c zb=>ent x (abY hx) c (abY zb)) ?_).mono (xA B0 ?_))
  ·rw [List.length_eraseIdx];split <;> omega
  ·rw [List.length_eraseIdx,aad];split <;> omega
 have i1:∀a k,Ab (ind a k) 1:=λa k=>by unfold ind;split <;> exact ⟨by decide,by decide⟩
 have P0:(0:Int)<=(12*B)^ρ.length:=abB (by omega);have LQ:∀{C:Int},0<=C->(ρ.length:Int)*C<=12*C:=λh=>aaA (by omega) h;have c1:12*(12*B)^ρ.length<=(12*B)^(ρ.length+1):=by rw [abA];have:=aan (show (12:Int)<=12*B by omega) P0;omega
 have wp:∀i k,i<ρ.length->Ab (W i k) ((12*B)^(ρ.length+1)):=λi k hi=>by rw [s.wp i hi k];refine (Ab.sum (B:=(12*B)^ρ.length) λj hj=>?_).mono (abf (LQ P0) c1);have:=Ab.mul (Ux i j) (i1 (ρ.getD j 0) k);rw [Int.mul_one] at this;exact this
 have rp:∀i x,i<ρ.length->x<m->Ab (rv A n (W i) x) ((12*B)^(ρ.length+1)):=λi x hi hx=>by
  rw [s.QK hi];have Q0:0<=(12*B)^ρ.length*B:=aaY P0 (by omega);refine (Ab.sum (B:=(12*B)^ρ.length*B) λj hj=>Ab.mul (Ux i j) (b.ab _ x (s.yW j hj) hx)).mono (abf (LQ Q0) ?_);rw [abA];have:12*((12*B)^ρ.length*B)=(12*B)^ρ.length*(12*B):=by grind
  omega
 have S0:(0:Int)<=(12*B)^(ρ.length+1):=abB (by omega);have T0:(0:Int)<=(12*B)^(ρ.length+2):=abB (by omega);have c2:12*(B*(12*B)^(ρ.length+1))=(12*B)^(ρ.length+2):=by rw [show ρ.length+2=ρ.length+1+1 from rfl,Int.pow_succ];grind
 have c3:(12*B)^(ρ.length+2)+(12*B)^(ρ.length+2)<=top B ρ.length:=by unfold top;have e:(12*B)^(ρ.length+3)=(12*B)^(ρ.length+2)*(12*B):=abA _ _;rw [e];have:=aan (show (2:Int)<=12*B by omega) T0;omega
 have c4:(12*B)^(ρ.length+1)<=(12*B)^(ρ.length+2):=xA B0 (by omega);have c5:(12*B)^ρ.length<=(12*B)^(ρ.length+2):=xA B0 (by omega);have c6:(12*B)^ρ.length*B<=(12*B)^(ρ.length+2):=by refine abf ?_ c4;rw [abA];exact aan (by omega) P0
 have U0:0<=B*(12*B)^(ρ.length+1):=aaY (by omega) S0;have TV:∀p,p<ρ.length->ν.getD p 0<m:=λp hp=>by
  have yD:p<ν.length:=by rw [s.lc];exact hp
  rw [aab,aaa yD];exact hc _ (aax yD)
 refine ⟨λi k hi=>?_,λi x hi hx=>?_,hd.mono (by omega)⟩
 ·by_cases wj:i<ρ.length
  ·exact (wp i k wj).mono (by omega)
  ·rw [s.wn i (by omega) hi k];have a1:=Ab.mul hd (i1 (q i) k);rw [Int.mul_one] at a1;refine (Ab.sub a1 (Ab.sum (B:=B*(12*B)^(ρ.length+1)) λp hp=>Ab.mul (b.ab (q i) _ (s.Ma i hi) (TV p hp)) (wp p k hp))).mono ?_;have:=LQ U0;omega
 ·by_cases wj:i<ρ.length
  ·exact (rp i x wj hx).mono (by omega)
  ·rw [s.NX (by omega) hi];refine (Ab.sub (Ab.mul hd (b.ab (q i) x (s.Ma i hi) hx)) (Ab.sum (B:=B*(12*B)^(ρ.length+1)) λp hp=>Ab.mul (b.ab (q i) _ (s.Ma i hi) (TV p hp)) (rp p x hp hx))).mono ?_;have:=LQ U0;omega
end
def cQ(n i:Nat):List Int:=(List.range n).map (ind i)
def j8(ls:List (List Int))(f k:Nat):List (List Int):=ls.take f++[ls.getD k []]++(ls.drop f).take (k-f)++ls.drop (k+1)
def cK(l h:List Int)(c:Nat)(d:Int):List Int:=(l.zip h).map λp=>(h.getD c 0*p.1-l.getD c 0*p.2).fdiv d
def aA(A:Nat->Row)(n m:Nat)(w:Row):List Int:=(List.range m).map (λx=>rv A n w x)++(List.range n).map w
def af(A:Nat->Row)(n m:Nat)(W:Nat->Row):List (List Int):=(List.range n).map λi=>aA A n m (W i)
def arr(γ:List (List Int)):Nat->Row:=λk x=>(γ.getD k []).getD x 0
theorem eF{A:Nat->Row}{n m:Nat}{w:Row}:(aA A n m w).length=m+n:=by unfold aA;simp
theorem hG{A:Nat->Row}{n m x:Nat}{w:Row}(h:x<m):(aA A n m w).getD x 0=rv A n w x:=by unfold aA;rw [List.getD_eq_getElem?_getD,List.getElem?_append_left (by simpa using h),List.getElem?_map,List.getElem?_range h];rfl
theorem ku{A:Nat->Row}{n m i:Nat}{W:Nat->Row}(h:i<n):(af A n m W).getD i []=aA A n m (W i):=by unfold af;rw [aab,aam,aaF h];rfl
theorem cX{A:Nat->Row}{n m:Nat}{W:Nat->Row}:(af A n m W).length=n:=by unfold af;simp
theorem Cy{A:Nat->Row}{n m:Nat}{w u:Row}(h:∀k,w k=u k):aA A n m w=aA A n m u:=by have:w=u:=funext h;rw [this]
theorem zq{γ:List (List Int)}{m:Nat}(hl:∀r∈γ,r.length=m):(List.range γ.length).map (λi=>γ.getD i []++cQ γ.length i)=af (arr γ) γ.length m (λi=>ind i):=by
 unfold af;apply aaT;intro i hi;have hi:=aaW.mp hi;unfold aA cQ
 congr 1
 have g:γ.getD i []=γ[i]:=by rw [aab,aaa hi];rfl
 have ml:=hl γ[i] (aax hi);apply aa4
 ·rw [g,ml];simp
 ·intro x h1 h2;simp only [List.getElem_map,List.getElem_range];rw [Bq hi];unfold arr;rw [aab (l:=γ.getD i []),aaa h1];rfl
def iZ(r k i:Nat):Nat:=if i<r then i else if i=r then k else if i<=k then i-1 else i
theorem yq{A:Nat->Row}{n m r k:Nat}{W:Nat->Row}(hr:r<=k)(hk:k<n):j8 (af A n m W) r k=af A n m (λi=>W (iZ r k i)):=by
 unfold j8;rw [ku hk];unfold af;apply ab9;intro i;rw [aam];simp only [List.append_assoc];by_cases h1:i<r
 ·rw [List.getElem?_append_left (by simp;omega),List.getElem?_take_of_lt h1,List.getElem?_map];rw [aaF (by omega)];have:iZ r k i=i:=by unfold iZ;rw [if_pos h1]
  simp [this]
 ·rw [List.getElem?_append_right (by simp;omega)];have lt:((List.map (λi=>aA A n m (W i)) (List.range n)).take r).length=r:=by simp;omega
  rw [lt];by_cases h2:i=r
  ·subst h2;rw [Nat.sub_self,List.getElem?_append_left (by simp)];rw [aaF (by omega)];have:iZ i k i=k:=by unfold iZ;rw [if_neg (Nat.lt_irrefl _),if_pos rfl]
   simp [this]
  ·rw [List.getElem?_append_right (by simp;omega)];show (_++_)[i-r-1]? =_;have l2:((List.map (λi=>aA A n m (W i)) (List.range n)).drop r |>.take (k-r)).length=k-r:=by simp;omega
   by_cases h3:i<=k
   ·rw [aao (by rw [l2];omega),abX (by omega),List.getElem?_drop,aam,aaF (by omega),aaF (by omega)];have:iZ r k i=i-1:=by unfold iZ;rw [if_neg h1,if_neg h2,if_pos h3]
    simp only [Option.map_some,this];rw [show r+(i-r-1)=i-1 by omega]
   ·rw [aal (by rw [l2];omega),l2,List.getElem?_drop,aam];rw [show k+1+(i-r-1-(k-r))=i by omega];by_cases h4:i<n
    ·rw [aaF h4];have:iZ r k i=i:=by unfold iZ;rw [if_neg h1,if_neg h2,if_neg h3]
     simp [this]
    ·rw [List.getElem?_eq_none (by simpa using h4)];rfl
theorem rG{a b d:Int}(h:d≠0)(e:d*b=a):a.fdiv d=b:=by rw [<-e];exact Int.mul_fdiv_cancel_left b h
theorem sX{A:Nat->Row}{n m c:Nat}{w u v:Row}{d:Int}(hc:c<m)(d0:d≠0)(h:∀k,d*v k=rv A n u c*w k-rv A n w c*u k):cK (aA A n m w) (aA A n m u) c d=aA A n m v:=by
 have hr:∀x,d*rv A n v x=rv A n u c*rv A n w x-rv A n w c*rv A n u x:=λx=>by have:=wK (A:=A) (n:=n) (w:=λk=>d*v k) (u:=w) (v:=u) (a:=rv A n u c) (b:=rv A n w c) h x;rw [<-this];unfold rv;rw [<-Φ];exact ψ λk _=>by grind
 unfold cK;rw [hG hc,hG hc];unfold aA;rw [List.zip_append (by simp),List.map_append]
 congr 1
 ·apply aa4
  ·simp
  ·intro x h1 h2;simp only [List.getElem_map,List.getElem_zip,List.getElem_range];exact rG d0 (hr x)
 ·apply aa4
  ·simp
  ·intro x h1 h2;simp only [List.getElem_map,List.getElem_zip,List.getElem_range];exact rG d0 (h x)
structure Turn(A:Nat->Row)(n:Nat)(col:Nat)(ρ ν:List Nat)(q:Nat->Nat)(d:Int)(W:Nat->Row):Prop where
 st:St A n ρ ν q d W
 d0:d≠0
 cl:∀c∈ν,c<col
 OA:∀i,i<ρ.length->q i=ρ.getD i 0
 PU:∀k,k<n->∃i,i<n/\q i=k
 zero:∀i,ρ.length<=i->i<n->∀x,x<col->rv A n (W i) x=0
 all:ν=List.range col\/∃x,x<col/\x∉ν
theorem Turn.start{A:Nat->Row}{n:Nat}:Turn A n 0 [] [] id 1 (λi=>ind i) where
 st:=St.start
 d0:=by decide
 cl:=λ_ h=>nomatch h
 OA:=λ_ h=>absurd h (abm _)
 PU:=λk h=>⟨k,h,rfl⟩
 zero:=λ_ _ _ _ h=>absurd h (abm _)
 all:= .inl rfl
section
variable{A:Nat->Row}{n col:Nat}{ρ ν:List Nat}{q:Nat->Nat}{d:Int}{W:Nat->Row}
theorem Turn.skip(t:Turn A n col ρ ν q d W)(h:∀i,ρ.length<=i->i<n->rv A n (W i) col=0):Turn A n (col+1) ρ ν q d W where
 st:=t.st
 d0:=t.d0
 cl:=λc hc=>abE (t.cl c hc)
 OA:=t.OA
 PU:=t.PU
 zero:=λi h1 h2 x hx=>by
  by_cases e:x=col
  ·rw [e];exact h i h1 h2
  ·exact t.zero i h1 h2 x (by omega)
 all:= .inr ⟨col,aa8 _,λz=>absurd (t.cl col z) (abi _)⟩
theorem Turn.move(t:Turn A n col ρ ν q d W){k:Nat}(h1:ρ.length<=k)(h2:k<n):Turn A n col ρ ν (λi=>q (iZ ρ.length k i)) d (λi=>W (iZ ρ.length k i)) where
 st:=t.st.perm (λi hi=>by unfold iZ;rw [if_pos hi]) λi a b=>by unfold iZ;split <;> (try split) <;> (try split) <;> omega
 d0:=t.d0
 cl:=t.cl
 OA:=λi hi=>by show q (iZ ρ.length k i)=_;rw [show iZ ρ.length k i=i by unfold iZ;rw [if_pos hi]];exact t.OA i hi
 PU:=λj hj=>by
  obtain ⟨i,hi,e⟩:=t.PU j hj;by_cases a:i<ρ.length
  ·exact ⟨i,hi,by show q (iZ ρ.length k i)=j;rw [show iZ ρ.length k i=i by unfold iZ;rw [if_pos a]];exact e⟩
  ·by_cases b:i=k
   ·exact ⟨ρ.length,by omega,by show q (iZ ρ.length k ρ.length)=j;rw [show iZ ρ.length k ρ.length=k by unfold iZ;rw [if_neg (Nat.lt_irrefl _),if_pos rfl],<-b];exact e⟩
   ·by_cases c:i<k
    ·exact ⟨i+1,by omega,by show q (iZ ρ.length k (i+1))=j;rw [show iZ ρ.length k (i+1)=i by unfold iZ;rw [if_neg (by omega),if_neg (by omega),if_pos (by omega)];omega];exact e⟩
    ·exact ⟨i,hi,by show q (iZ ρ.length k i)=j;rw [show iZ ρ.length k i=i by unfold iZ;rw [if_neg a,if_neg (by omega),if_neg (by omega)]];exact e⟩
 zero:=λi a b x hx=>by
  have:ρ.length<=iZ ρ.length k i/\iZ ρ.length k i<n:=by unfold iZ;split <;> (try split) <;> (try split) <;> omega
  exact t.zero _ this.1 this.2 x hx
 all:=t.all
theorem Turn.step{m:Nat}(t:Turn A n col ρ ν q d W)(hr:ρ.length<n)(hm:col<m)(h0:rv A n (W ρ.length) col≠0):
  ∃W',Turn A n (col+1) (ρ++[q ρ.length]) (ν++[col]) q (rv A n (W ρ.length) col) W'/\
   ((af A n m W).take ρ.length).map (λl=>cK l (aA A n m (W ρ.length)) col d)++[aA A n m (W ρ.length)]++((af A n m W).drop (ρ.length+1)).map (λl=>cK l (aA A n m (W ρ.length)) col d)=af A n m W':=by
 obtain ⟨W',s',e1,e2⟩:=t.st.step hr col t.d0 h0;refine ⟨W',⟨s',h0,λc hc=>?_,λi hi=>?_,t.PU,λi a b x hx=>?_,?_⟩,?_⟩
 ·rcases aaN.mp hc with z|z
  ·exact abE (t.cl c z)
  ·have:c=col:=by simpa using z
   omega
 ·by_cases wj:i<ρ.length
  ·rw [nC wj];exact t.OA i wj
  ·have:i=ρ.length:=by simp at hi;omega
   rw [this,mP]
 ·rw [show (ρ++[q ρ.length]).length=ρ.length+1 by simp] at a;have XQ:d*rv A n (W' i) x=rv A n (W ρ.length) col*rv A n (W i) x-rv A n (W i) col*rv A n (W ρ.length) x:=by have:=wK (A:=A) (n:=n) (w:=λk=>d*W' i k) (u:=W i) (v:=W ρ.length) (λk=>e2 i b (by omega) k) x;rw [<-this];unfold rv;rw [<-Φ];exact ψ λk _=>by grind
  refine aaG t.d0 ?_;rw [XQ];by_cases e:x=col
  ·subst e;grind
  ·rw [t.zero i (by omega) b x (by omega),t.zero ρ.length (Nat.le_refl _) hr x (by omega)];simp
 ·rcases t.all with z|⟨x,a,b⟩
  ·left;rw [z,List.range_succ]
  ·refine .inr ⟨x,by omega,λz=>?_⟩;rcases aaN.mp z with z|z
   ·exact b z
   ·have:x=col:=by simpa using z
    omega
 ·unfold af;rw [<-ab5,<-ab6,aaC,aaC];apply ab9;intro i;simp only [List.append_assoc];have lt:(List.map ((λl=>cK l (aA A n m (W ρ.length)) col d) ∘ λi=>aA A n m (W i)) ((List.range n).take ρ.length)).length=ρ.length:=by simp;omega
  by_cases h1:i<ρ.length
  ·rw [aao (by rw [lt];exact h1),aam,aam,abX h1,aaF (by omega)];show some (cK (aA A n m (W i)) (aA A n m (W ρ.length)) col d)=some _;rw [sX hm t.d0 (e2 i (by omega) (by omega))]
  ·rw [aal (by rw [lt];omega),lt,aam];by_cases h2:i=ρ.length
   ·subst h2;rw [acd,aaF hr];show some (aA A n m (W ρ.length))=some (aA A n m (W' ρ.length));rw [Cy e1]
   ·rw [List.getElem?_append_right (by simp;omega)];show (List.map _ ((List.range n).drop (ρ.length+1)))[i-ρ.length-1]? =_;rw [aam,List.getElem?_drop,show ρ.length+1+(i-ρ.length-1)=i by omega];by_cases h4:i<n
    ·rw [aaF h4];show some (cK (aA A n m (W i)) (aA A n m (W ρ.length)) col d)=some _;rw [sX hm t.d0 (e2 i h4 h2)]
    ·rw [List.getElem?_eq_none (by simpa using h4)];rfl
end
section
variable{A:Nat->Row}{n col:Nat}{ρ ν:List Nat}{q:Nat->Nat}{d:Int}{W:Nat->Row}
theorem Turn.back(t:Turn A n col ρ ν q d W){k y:Nat}(hk:k<n)(hy:y<col):d*A k y=Δ (λp=>A k (ν.getD p 0)*rv A n (W p) y) ρ.length:=by
 obtain ⟨i,hi,e⟩:=t.PU k hk;have s:=t.st;by_cases wj:i<ρ.length
 ·have ek:k=ρ.getD i 0:=by rw [<-e];exact t.OA i wj
  have lr:(ρ.map A).length=ρ.length:=aad _;have e1:Δ (λp=>A k (ν.getD p 0)*rv A n (W p) y) ρ.length=Δ (λp=>Δ (λj=>(A k (ν.getD p 0)*eN (ρ.map A) ν p j)*A (ρ.getD j 0) y) ρ.length) ρ.length:=ψ λp hp=>by rw [s.QK hp,<-Φ];exact ψ λj _=>by grind
  have e2:Δ (λp=>Δ (λj=>(A k (ν.getD p 0)*eN (ρ.map A) ν p j)*A (ρ.getD j 0) y) ρ.length) ρ.length=Δ (λj=>A (ρ.getD j 0) y*Δ (λp=>(ρ.map A).getD i zr (ν.getD p 0)*eN (ρ.map A) ν p j) ρ.length) ρ.length:=by rw [cY];refine ψ λj _=>?_;rw [<-Φ];refine ψ λp _=>?_;rw [sZ wj,<-ek];grind
  rw [e1,e2];have pa:∀j,j<ρ.length->Δ (λp=>(ρ.map A).getD i zr (ν.getD p 0)*eN (ρ.map A) ν p j) ρ.length=if i=j then d else 0:=λj hj=>by have:=PA (γ:=ρ.map A) (ν:=ν) (i:=i) (k:=j) (by rw [lr];exact s.lc) (by rw [lr];exact wj) (by rw [lr];exact hj);rw [lr,s.det] at this;exact this
  rw [iD wj λj hj kM=>by rw [pa j hj,if_neg (Ne.symm kM)];simp];rw [pa i wj,if_pos rfl,ek];grind
 ·have:=s.NX (by omega) hi y;rw [t.zero i (by omega) hi y hy,e] at this;omega
theorem Turn.kernel(t:Turn A n col ρ ν q d W){x:Nat}(hx:x<col)(hf:x∉ν):∃z:Row,z x= -d/\∀k,k<n->Δ (λy=>A k y*z y) col=0:=by
 have s:=t.st;have cm:∀i,i<ρ.length->ν.getD i 0∈ν:=λi hi=>by
  have tj:i<ν.length:=by rw [s.lc];exact hi
  rw [aab,aaa tj];exact aax tj
 refine ⟨λy=>Δ (λi=>rv A n (W i) x*ind (ν.getD i 0) y) ρ.length-d*ind x y,?_,λk hk=>?_⟩
 ·have e1:Δ (λi=>rv A n (W i) x*ind (ν.getD i 0) x) ρ.length=0:=iE λi hi=>by unfold ind;rw [if_neg λz=>hf (by rw [<-z];exact cm i hi)];simp
  show Δ (λi=>rv A n (W i) x*ind (ν.getD i 0) x) ρ.length-d*ind x x= -d;rw [e1];unfold ind;rw [if_pos rfl];omega
 ·have gen:∀f:Row,Δ (λy=>f y*(Δ (λi=>rv A n (W i) x*ind (ν.getD i 0) y) ρ.length-d*ind x y)) col=Δ (λi=>rv A n (W i) x*f (ν.getD i 0)) ρ.length-d*f x:=λf=>by
   have e1:Δ (λy=>f y*(Δ (λi=>rv A n (W i) x*ind (ν.getD i 0) y) ρ.length-d*ind x y)) col=Δ (λy=>Δ (λi=>rv A n (W i) x*(ind (ν.getD i 0) y*f y)) ρ.length+(-d)*(ind x y*f y)) col:=ψ λy _=>by
    have:Δ (λi=>rv A n (W i) x*(ind (ν.getD i 0) y*f y)) ρ.length=f y*Δ (λi=>rv A n (W i) x*ind (ν.getD i 0) y) ρ.length:=by rw [<-Φ];exact ψ λi _=>by grind
    rw [this];grind
   rw [e1,gX,Φ,mW (f:=f) hx,cY];have e2:Δ (λi=>Δ (λy=>rv A n (W i) x*(ind (ν.getD i 0) y*f y)) col) ρ.length=Δ (λi=>rv A n (W i) x*f (ν.getD i 0)) ρ.length:=ψ λi hi=>by rw [Φ,mW (f:=f) (t.cl _ (cm i hi))]
   rw [e2];grind
  refine aaG t.d0 ?_;rw [Int.mul_zero,gen (A k),Int.mul_sub];have b1:=t.back hk hx;have e3:Δ (λi=>rv A n (W i) x*A k (ν.getD i 0)) ρ.length=d*A k x:=by rw [b1];exact ψ λi _=>aaR _ _
  rw [e3];grind
def Pd(A:Nat->Row)(n u:Nat)(z:Row)(N:Int):Prop:=∀k,k<n->Δ (λx=>A k x*z x) u=N*A k u
theorem Pd.line{u:Nat}{z:Row}{N:Int}(h:Pd A n u z N)(w:Row):Δ (λx=>rv A n w x*z x) u=N*rv A n w u:=by
 unfold rv;have e1:Δ (λx=>Δ (λk=>w k*A k x) n*z x) u=Δ (λx=>Δ (λk=>w k*(A k x*z x)) n) u:=ψ λx _=>by rw [aaR,<-Φ];exact ψ λk _=>by grind
 rw [e1,cY,<-Φ];refine ψ λk hk=>?_;rw [Φ,h k hk];grind
theorem Turn.rest(t:Turn A n col ρ ν q d W){z:Row}{N:Int}(hs:Pd A n col z N)(hN:N≠0){i:Nat}(h1:ρ.length<=i)(hi:i<n):rv A n (W i) col=0:=by
 have:=hs.line (W i);rw [iE λx hx=>by rw [t.zero i h1 hi x hx];simp] at this;rcases Int.mul_eq_zero.mp this.symm with e|e
 ·exact absurd e hN
 ·exact e
theorem Turn.told(t:Turn A n col ρ ν q d W)(hc:ν=List.range col){z:Row}{N:Int}(hs:Pd A n col z N){i:Nat}(hi:i<col):d*z i=N*rv A n (W i) col:=by
 have s:=t.st;have hl:ρ.length=col:=by rw [<-s.lc,hc,aaM]
 have g:∀p,p<col->ν.getD p 0=p:=λp hp=>by rw [hc,aab,aaF hp];rfl
 rw [<-hs.line (W i)]
 rw [iD hi λx hx kM=>by
  have:=s.one i x (by rw [hl];exact hi) (by rw [hl];exact hx);rw [g x hx,if_neg (Ne.symm kM)] at this
  rw [this];simp]
 have:=s.one i i (by rw [hl];exact hi) (by rw [hl];exact hi);rw [g i hi,if_pos rfl] at this;rw [this]
end
theorem Turn.exists{A:Nat->Row}{n:Nat}:∀col:Nat,∃ρ ν q d W,Turn A n col ρ ν q d W
 |0=>⟨_,_,_,_,_,Turn.start⟩
 |col+1=>by
  obtain ⟨ρ,ν,q,d,W,t⟩:=Turn.exists (A:=A) (n:=n) col;by_cases h:∃k,ρ.length<=k/\k<n/\rv A n (W k) col≠0
  ·obtain ⟨k,h1,h2,h3⟩:=h;have t':=t.move h1 h2;have e:iZ ρ.length k ρ.length=k:=by unfold iZ;rw [if_neg (Nat.lt_irrefl _),if_pos rfl]
   obtain ⟨W',t2,_⟩:=t'.step (m:=col+1) (by omega) (by omega) (by show rv A n (W (iZ ρ.length k ρ.length)) col≠0;rw [e];exact h3);exact ⟨_,_,_,_,_,t2⟩
  ·refine ⟨_,_,_,_,_,t.skip λi h1 h2=>?_⟩;by_cases e:rv A n (W i) col=0
   ·exact e
   ·exact absurd ⟨i,h1,h2,e⟩ h
section
variable{A:Nat->Row}{n col:Nat}{ρ ν:List Nat}{q:Nat->Nat}{d:Int}{W:Nat->Row}
def Ku(A:Nat->Row)(n:Nat)(W:Nat->Row)(ν:List Nat)(s k:Nat):Row:=λy=>Δ (λi=>rv A n (W i) s*ind (ν.getD i 0) y) k
theorem Turn.LZ(t:Turn A n col ρ ν q d W){x:Nat}(hx:x<col):∀k,k<n->Δ (λy=>A k y*(Ku A n W ν x ν.length y-d*ind x y)) col=0:=λk hk=>by
 have s:=t.st;have cm:∀i,i<ρ.length->ν.getD i 0∈ν:=λi hi=>by
  have tj:i<ν.length:=by rw [s.lc];exact hi
  rw [aab,aaa tj];exact aax tj
 unfold Ku;rw [s.lc];have gen:∀f:Row,Δ (λy=>f y*(Δ (λi=>rv A n (W i) x*ind (ν.getD i 0) y) ρ.length-d*ind x y)) col=Δ (λi=>rv A n (W i) x*f (ν.getD i 0)) ρ.length-d*f x:=λf=>by
  have e1:Δ (λy=>f y*(Δ (λi=>rv A n (W i) x*ind (ν.getD i 0) y) ρ.length-d*ind x y)) col=Δ (λy=>Δ (λi=>rv A n (W i) x*(ind (ν.getD i 0) y*f y)) ρ.length+(-d)*(ind x y*f y)) col:=ψ λy _=>by
   have:Δ (λi=>rv A n (W i) x*(ind (ν.getD i 0) y*f y)) ρ.length=f y*Δ (λi=>rv A n (W i) x*ind (ν.getD i 0) y) ρ.length:=by rw [<-Φ];exact ψ λi _=>by grind
   rw [this];grind
  rw [e1,gX,Φ,mW (f:=f) hx,cY];have e2:Δ (λi=>Δ (λy=>rv A n (W i) x*(ind (ν.getD i 0) y*f y)) col) ρ.length=Δ (λi=>rv A n (W i) x*f (ν.getD i 0)) ρ.length:=ψ λi hi=>by rw [Φ,mW (f:=f) (t.cl _ (cm i hi))]
  rw [e2];grind
 refine aaG t.d0 ?_;rw [Int.mul_zero,gen (A k),Int.mul_sub];have b1:=t.back hk hx;have e3:Δ (λi=>rv A n (W i) x*A k (ν.getD i 0)) ρ.length=d*A k x:=by rw [b1];exact ψ λi _=>aaR _ _
 rw [e3];grind
theorem Turn.RL(t:Turn A n col ρ ν q d W)(h:∀i,ρ.length<=i->i<n->rv A n (W i) col=0):Pd A n col (Ku A n W ν col ν.length) d:=λk hk=>by
 have:=(t.skip h).LZ (x:=col) (by omega) k hk;have e:Δ (λy=>A k y*(Ku A n W ν col ν.length y-d*ind col y)) (col+1)=Δ (λy=>A k y*(Ku A n W ν col ν.length y-d*ind col y)) col+A k col*(Ku A n W ν col ν.length col-d*ind col col):=rfl;have e1:Δ (λy=>A k y*(Ku A n W ν col ν.length y-d*ind col y)) col=Δ (λy=>A k y*Ku A n W ν col ν.length y) col:=ψ λy hy=>by
  have:ind col y=0:=by unfold ind;rw [if_neg (by omega)]
  rw [this];grind
 have e2:Ku A n W ν col ν.length col=0:=iE λi hi=>by
  have hm:ν.getD i 0∈ν:=by rw [aab,aaa hi];exact aax hi
  have:ind (ν.getD i 0) col=0:=by unfold ind;rw [if_neg (by have:=t.cl _ hm;omega)]
  rw [this,Int.mul_zero]
 have e3:ind col col=1:=by unfold ind;rw [if_pos rfl]
 rw [e,e1,e2,e3] at this;have:A k col*(0-d*1)= -(d*A k col):=by grind
 omega
theorem St.Wb(s:St A n ρ ν q d W){m:Nat}{B:Int}(b:Bd A n m B)(hc:∀c∈ν,c<m)(hr:ρ.length<=12):Ab d ((12*B)^ρ.length):=by
 have ρn:∀a∈ρ,a<n:=λa ha=>by obtain ⟨j,hj,e⟩:=aaX ha;have:=s.yW j hj;rw [aab,aaa hj] at this;rw [<-e];exact this
 have:=Ab.det b.b1 (ρ.map A) ν (λx hx c zb=>by
  obtain ⟨a,ha,rfl⟩:=aaj.mp hx
  exact b.ab a c (ρn a ha) (hc c zb)) (by rw [s.lc];exact hr)
 rw [s.det,aad] at this;exact this
end
end Bz
seal L2.JE L2.JT L2.JW L2.JA L2.JS L2.Bg L2.JI L2.JK
local macro_rules | `(tactic| walk_at "vc")=>`(tactic| dsimp only [L2.gN,L2.Tu,L2.Q7,L2.Tw,L2.S4,L2.Nu,L2.Zz,L2.QU,L2.KY,L2.Hk,L2.NU,L2.Av,L2.kX,L2.Uu,L2.AG,L2.dC,L2.Oj,L2.Jg,L2.QZ,L2.RI,L2.om,L2.Zb,L2.RS,L2.Td,L2.Q5,L2.Zr,L2.jW,List.map_cons,List.map_nil,List.length_cons,List.length_nil,List.cons_append,List.nil_append,List.replicate,List.getElem?_cons_zero,List.getElem?_cons_succ,List.set_cons_zero,List.set_cons_succ,Nat.reduceSub,Nat.reduceAdd,Nat.zero_add])
namespace Pg
open PySem L2
def top(i:Nat):Stmt:=PySem.Challenge.pw_chanceduel_k35_whole_plans_that_hold.main.body.getD i (.Pass ⟨0,0,0,0⟩)
def cls(i j:Nat):Stmt:=match top i with
 |.ClassDef _ _ _ b _ _ _ _ _ _ _=>b.getD j (.Pass ⟨0,0,0,0⟩)
 |_=> .Pass ⟨0,0,0,0⟩
abbrev gE:Stmt:=top 9
abbrev oz:Stmt:=top 10
abbrev Hg:Stmt:=top 11
abbrev BC:Stmt:=top 12
abbrev BA:Stmt:=top 13
abbrev A5:Stmt:=top 14
abbrev qW:Stmt:=top 19
abbrev nL:Stmt:=top 20
abbrev iq:Stmt:=top 21
abbrev jj:Stmt:=top 22
abbrev lX:Stmt:=top 23
abbrev qF:Stmt:=top 24
abbrev mf:Stmt:=top 25
abbrev mz:Stmt:=top 30
abbrev qI:Stmt:=top 31
abbrev oN:Stmt:=top 32
abbrev B9:Stmt:=top 33
abbrev js:Stmt:=top 36
abbrev h_:Stmt:=top 37
abbrev jX:Stmt:=top 38
abbrev i6:Stmt:=top 39
abbrev qB:Stmt:=top 40
abbrev my:Stmt:=top 41
abbrev og:Stmt:=top 43
abbrev nV:Stmt:=top 45
abbrev mj:Stmt:=top 46
abbrev q5:Stmt:=top 47
abbrev rS:Stmt:=top 48
abbrev je:Stmt:=top 49
abbrev n8:Stmt:=top 50
abbrev nY:Stmt:=top 51
abbrev xJ:Stmt:=top 52
abbrev Bc:Stmt:=top 53
abbrev nO:Stmt:=top 54
abbrev oV:Stmt:=top 55
abbrev gQ:Stmt:=top 57
abbrev qY:Stmt:=top 58
abbrev sF:Stmt:=top 60
abbrev wN:Stmt:=top 61
abbrev vS:Stmt:=top 62
abbrev AJ:Stmt:=top 64
abbrev mB:Stmt:=top 65
abbrev md:Stmt:=top 66
abbrev vU:Stmt:=top 67
abbrev pk:Stmt:=top 68
abbrev ju:Stmt:=top 69
abbrev mE:Stmt:=top 70
abbrev jN:Stmt:=top 71
abbrev oQ:Stmt:=top 72
abbrev qu:Stmt:=top 73
abbrev rN:Stmt:=top 74
abbrev oO:Stmt:=top 75
abbrev pe:Stmt:=top 76
abbrev lG:Stmt:=top 77
abbrev Pw:Stmt:=top 78
abbrev mr:Stmt:=cls 34 0
abbrev lS:Stmt:=cls 34 1
abbrev ko:Stmt:=cls 34 2
abbrev lH:Stmt:=cls 34 3
abbrev kD:Stmt:=cls 34 4
abbrev ou:Stmt:=cls 34 5
abbrev kz:Stmt:=cls 34 7
abbrev gW:Stmt:=cls 34 8
abbrev l7:Stmt:=cls 34 9
abbrev mn:Stmt:=cls 34 10
open PySem L2 Fr0 Tx
structure Ev(K:PySem.W.Frag)(mg:Str->Option Value)(w:World)(Cm:Addr):Prop where
 bo:mg "len"=none
 rD:mg "abs"=none
 cn:mg "isinstance"=none
 uN:mg "int"=none
 xf:mg "bool"=none
 IZ:mg "str"=none
 qa:mg "tuple"=none
 kn:mg "list"=none
 bW:mg "range"=none
 dY:mg "enumerate"=none
 Ds:mg "any"=none
 Du:mg "all"=none
 zz:mg "sum"=none
 vh:mg "zip"=none
 qH:mg "dict"=none
 An:mg "min"=none
 Dc:mg "max"=none
 ib:PySem.W.kitOne K (.type "int") (.type "bool")=some false
 kis:PySem.W.kitOne K (.type "int") (.type "str")=some false
 kts:PySem.W.kitOne K (.type "tuple") (.type "str")=some false
 Z8:PySem.W.kitOne K (.type "tuple") (.type "int")=some false
 kls:PySem.W.kitOne K (.type "list") (.type "str")=some false
 kli:PySem.W.kitOne K (.type "list") (.type "int")=some false
 ktl:PySem.W.kitOne K (.type "tuple") (.type "list")=some false
 klt:PySem.W.kitOne K (.type "list") (.type "tuple")=some false
 dh:Dp K Cm
 ck:ik K Cm "kept_rows"
 fj:ik K Cm "kept_share"
 wd:∃a o its n,mg "HANDS"=some (.ref a)/\K.lookup a=some o/\o.cls= .type "tuple"/\o.data= .seq its n/\its.size<=sizeLine/\Paired (λ(z:Str) (u:Value)=>∃tk,u= .str z tk) ["one","other"] its.toList
 lh:Qz K w mg "TURNED_KINDS" [("one","other"),("other","one"),("chance","chance")]
 pE:∃tk,mg "MOST_DOORS"=some (.int 6 tk)
 jg:∃tk,mg "MOST_BOTTOM"=some (.int 1000000 tk)
 mX:∃tk,mg "MOST_PLACES"=some (.int 12 tk)
 gH:∃tk,mg "MOST_SHARE_BOTTOM"=some (.int 1000 tk)
theorem B1{K:PySem.W.Frag}{T:String}:PySem.W.kitOne K (.type T) (.type T)=some true:=by unfold PySem.W.kitOne;rw [if_pos (beq_self_eq_true _)]
section
variable{P:Program}{w:World}{K:PySem.W.Frag}{mg:Str->Option Value}{base:Heap}{Cm:Addr}
def Hx:DF:=λds M q _=>match ds with
 |[.int a,.int b]=>q (.int (g a b)) M
 |_=>False
theorem bI:Ε ["one","other","great","small","rest"] ["one","other"] (τ gE):= .of rfl
theorem ot{f:Addr}{fd:FuncData}(F:cI K "common_divisor" "common_divisor" gE f fd)(E:Ev K mg w Cm):aq P w K mg base (bV P w) 1 f fd ["one","other"] (cC K Hx):=by
 refine F.de bI (λds M q x h=>?_) (λaV A outer s H E' hr=>⟨_,(θ (Γ 2 bI.nd (D5 E.rD (Ρ (jv 0) η)))
   (θ (Γ 3 bI.nd (D5 E.rD (Ρ (jv 1) η)))
   (θ (ng (qt hr (jv 3) χ) (θ (Γ 4 bI.nd (bL (jv 2) (jv 3)))
   (θ (Γ 2 bI.nd (jv 3))
   (μ (Γ 3 bI.nd (jv 4))))))
   (μ (Ζ (jv 2)))))),λds M q x h=>?_⟩)
 ·unfold Hx at h;split at h; · rfl
  ·exact h.elim
 ·unfold Hx at h;split at h
  ·rename_i a b;refine ⟨λm ρ M'=>M'=M/\∃(x y:Int) (r:Option Dt),ρ=[some (.int a),some (.int b),some (.int x),some (.int y),r]/\0<=x/\0<=y/\g x y=g a b/\m=y.toNat,⟨_,rfl,_,_,_,rfl,by split <;> omega,by split <;> omega,Ng a b,rfl⟩,?_⟩;rintro m ρ M' ⟨rfl,x,y,r,rfl,hx,hy,e,rfl⟩;refine ⟨λhb=>?_,λhb=>?_⟩
   ·have K0:y≠0:=by simpa using hb
    refine ⟨_,λρ' M2 h2=>h2,?_⟩;refine ⟨by omega,(x%y).toNat,?_,rfl,y,x%y,_,rfl,hy,aaP _ K0,?_,rfl⟩
    ·have:=aaL x (show 0<y by omega);have:=aaP x K0;omega
    ·rw [<-abx x hy,He (by omega)];exact e
   ·have K0:y=0:=by simpa using hb
    subst K0;rw [J6 hx] at e;subst e;exact h
  ·exact h.elim
theorem Fo{i j:Int}(h:iw j)(l:i.natAbs<=j.natAbs):iw i:=aaK l h
def sD:DF:=λds M q _=>match ds with
 |[.int t,.int b]=>iw b/\(b=0->False)/\(b≠0->q (.tup [.int (aw t b).1,.int (aw t b).2]) M)
 |_=>False
theorem lB:Ε ["top","bottom","divisor"] ["top","bottom"] (τ oz):= .of rfl
theorem zW{f:Addr}{fd:FuncData}(F:cI K "fraction" "fraction" oz f fd)(E:Ev K mg w Cm){gZ:Addr}{gR:FuncData}(bH:av P w K mg base 1 "common_divisor" ["one","other"] Hx gZ gR):aq P w K mg base (bV P w) 2 f fd ["top","bottom"] (cC K sD):=by
 refine F.de lB (λds M q x h=>?_) (λaV A outer s H E' hr=>⟨_,(θ (aD (d9 hr (jv 1) χ) (μ fq) Υ)
   (θ (Γ 2 lB.nd (ae bH hr ξ (Ρ (jv 0) (Ρ (jv 1) η))))
   (θ (h9 (aD (sj (jv 1) χ) (μ (Γ 2 lB.nd (TN (jv 2)))) Υ))
   (μ (Ζ (fv (ι (Bi (jv 0) (jv 2)) (ι (Bi (jv 1) (jv 2)) η (hs:=bY)) (hs:=bY)))))))),λds M q x h=>?_⟩)
 ·unfold sD at h;split at h; · rfl
  ·exact h.elim
 ·unfold sD at h;split at h
  ·rename_i t b;obtain ⟨hB,h0,h1⟩:=h;refine ⟨λhb=>?_,λhb=>?_⟩
   ·exact h0 (by simpa using hb)
   ·have Kt:b≠0:=by simpa using hb
    refine ⟨λρ M'=>M'=M/\ρ=[some (.int t),some (.int b),some (.int (dv t b))],⟨λhn=>?_,λhn=>?_⟩,?_⟩
    ·have Rn:b<0:=by simpa using hn
     exact ⟨rfl,by unfold dv;rw [if_pos Rn];rfl⟩
    ·have Rn:¬b<0:=by simpa using hn
     exact ⟨rfl,by unfold dv;rw [if_neg Rn];rfl⟩
    ·rintro ρ M' ⟨rfl,rfl⟩;have hd:=DP (t:=t) Kt;have Zo:iw (dv t b):=Fo hB (xw Kt);exact ⟨⟨hd,Zo⟩,⟨hd,Zo⟩,(by show 2<=sizeLine;decide),h1 Kt⟩
  ·exact h.elim
abbrev Fr:=Int×Int
def Ξ(p:Fr):Dt:= .tup [.int p.1,.int p.2]
def bx(p:Fr):Bool:=decide ((if p.1<0 then -p.1 else p.1)<=10^30)&&decide (p.2<=1000000)
def sL:DF:=λds M q _=>∃p,ds=[Ξ p]/\q (.bl (bx p)) M
theorem EG:Ε ["pay"] ["pay"] (τ qW):= .of rfl
theorem A3{f:Addr}{fd:FuncData}(F:cI K "fits_pay" "fits_pay" qW f fd)(E:Ev K mg w Cm):aq P w K mg base (bV P w) 1 f fd ["pay"] (cC K sL):=by
 refine F.de EG (λds M q x h=>?_) (λaV A outer s H E' hr=>⟨_,(μ (Ζ (iy (zt (D5 E.rD (ι (Μ (jv 0) χ) η (hs:=aQ))) (iQ χ χ)) (lE (zt (Μ (jv 0) χ) (rq E.jg)))))),λds M q x h=>?_⟩)
 ·obtain ⟨p,rfl,_⟩:=h;rfl
 ·obtain ⟨p,rfl,h⟩:=h;refine ⟨⟨by decide,by decide,by decide⟩,λh1=>?_,λh1=>?_⟩
  ·have e:bx p=decide (p.2<=1000000):=by unfold bx;rw [show decide ((if p.1<0 then -p.1 else p.1)<=10^30)=true from h1];rfl
   rw [e] at h;exact h
  ·have e:bx p=false:=by unfold bx;rw [show decide ((if p.1<0 then -p.1 else p.1)<=10^30)=false from h1];rfl
   rw [e] at h;exact h
theorem ql{M:Ms}{d:Dt}{xs:List Dt}{ok:Ms->Prop}(h:k4 M d=some (xs,ok)):ok M:=by
 cases d with
 |lst ds=>cases h;trivial
 |iY ns=>cases h;trivial
 |loc k=>
  have h:(match M[k]? with|some (.lst xs)=>some (xs,λM':Ms=>M'[k]? =some (.lst xs))|_=>none)=some (xs,ok):=h;split at h
  ·rename_i ys hm;cases h;exact hm
  ·cases h
 |_=>cases h
theorem zK{M:Ms}{d:Dt}{xs:List Dt}{ok:Ms->Prop}(h:k4 M d=some (xs,ok)):pI M d=some (xs,ok):=by
 cases d with
 |lst ds=>cases h;rfl
 |iY ns=>cases h;rfl
 |loc k=>exact h
 |_=>cases h
theorem dZ{i:Nat}{ρ:En}{M:Ms}{d:Dt}{xs:List Dt}{ok:Ms->Prop}{q:List Dt->(Ms->Prop)->Ms->Prop}{x:DX}(hv:ρ[i]? =some (some d))(hl:k4 M d=some (xs,ok))(h:q xs ok M):gC (AG i) ρ M q x:=by unfold gC AG;rw [hv];show (match pI M d with|some (xs,ok)=>q xs ok M|none=>False);rw [zK hl];exact h
theorem bg{n:Int}{k:Nat}(h:n.natAbs<2^k)(hk:k<=8000:=by decide):iw n:=aap h (abQ (by decide) hk)
def aH(t:Int)(p:Fr)(size:Int):Bool:=decide (0<=t)&&(decide (t<size)&&bx p)
def uu:DF:=λds M q _=>∃t p r size,ds=[.tup (.int t::Ξ p::r),.int size]/\q (.bl (aH t p size)) M
theorem Be:Ε ["door","size"] ["door","size"] (τ nL):= .of rfl
theorem yo{f:Addr}{fd:FuncData}(F:cI K "fits_door" "fits_door" nL f fd)(E:Ev K mg w Cm){se:Addr}{sV:FuncData}(gq:av P w K mg base 1 "fits_pay" ["pay"] sL se sV):aq P w K mg base (bV P w) 2 f fd ["door","size"] (cC K uu):=by
 refine F.de Be (λds M q x h=>?_) (λaV A outer s H E' hr=>⟨_,(μ (Ζ (iy (zt χ (Μ (jv 0) χ)) (iy (Mx (Μ (jv 0) χ) (jv 1)) (lE (ae gq hr ξ (ι (Μ (jv 0) χ) η (hs:=aQ)))))))),λds M q x h=>?_⟩)
 ·obtain ⟨t,p,r,size,rfl,_⟩:=h;rfl
 ·obtain ⟨t,p,r,size,rfl,h⟩:=h;walk_at "vc";refine Η rfl a_ ?_;refine ⟨λh1=>?_,λh1=>?_⟩
  ·refine Η rfl a_ ⟨λh2=>?_,λh2=>?_⟩
   ·refine Η rfl (Κ (j:=1) rfl) ⟨p,rfl,?_⟩;have e:aH t p size=bx p:=by unfold aH;rw [h1,h2];rfl
    rw [<-e];exact h
   ·have e:aH t p size=false:=by unfold aH;rw [h1,h2];rfl
    rw [<-e];exact h
  ·have e:aH t p size=false:=by unfold aH;rw [h1];rfl
   rw [<-e];exact h
abbrev cj:=Int×Fr×List Fr
def eO(d:cj):Dt:= .tup (.int d.1::Ξ d.2.1::d.2.2.map Ξ)
def ai(ds:List cj)(size:Int):Bool:=decide (1<=ds.length)&&decide (ds.length<=6)&&ds.all λd=>aH d.1 d.2.1 size
def qZ:DF:=λas M q _=>∃d size ds ok,as=[d,.int size]/\k4 M d=some (ds.map eO,ok)/\ds.length<=100/\q (.bl (ai ds size)) M
theorem pJ:Ε ["doors","size"] ["doors","size"] (τ lX):= .of rfl
theorem wO{f:Addr}{fd:FuncData}(F:cI K "fits_doors" "fits_doors" lX f fd)(E:Ev K mg w Cm){Gk:Addr}{FX:FuncData}(mC:av P w K mg base 2 "fits_door" ["door","size"] uu Gk FX):aq P w K mg base (bV P w) 3 f fd ["doors","size"] (cC K qZ):=by
 refine F.de pJ (λds M q x h=>?_) (λaV A outer s H E' hr=>⟨_,(θ (aD (JW.jt (jB (sj (bU E.bo (Ρ (jv 0) η)) χ) (i9 (CJ (bU E.bo (Ρ (jv 0) η)) (rq E.pE))))) (μ (Ζ CB)) Υ)
   (μ (Ζ (Sm E.Du (ι (fS (ys:=["size"]) (ak:=[1]) (.of pJ rfl rfl rfl) (bR (jv 0)) (λC s H fp=>(ae mC hr (jA (P:=P) (w:=w)) (Ρ (jv 0) (Ρ (jv 1) η))))) η))))),λds M q x h=>?_⟩)
 ·obtain ⟨d,size,ds,ok,rfl,_⟩:=h;rfl
 ·obtain ⟨d,size,ds,ok,rfl,hl,hz,h⟩:=h;have hs:=mM hl;walk_at "vc";refine au hs ⟨λh1=>?_,λh1=>?_⟩
  ·refine ⟨λ_=>?_,λz=>(nomatch z)⟩;have e:ai ds size=false:=by
    have:(ds.length:Int)<1:=by simpa using h1
    unfold ai;rw [decide_eq_false (by omega)];rfl
   rw [<-e];exact h
  ·have h1:¬(ds.length:Int)<1:=by simpa using h1
   refine au hs ⟨λh2=>?_,λh2=>?_⟩
   ·have e:ai ds size=false:=by
     have:6<(ds.length:Int):=by simpa using h2
     unfold ai;rw [decide_eq_false (p:=ds.length<=6) (by omega),Bool.and_false];rfl
    rw [<-e];exact h
   ·have h2:¬6<(ds.length:Int):=by simpa using h2
    refine dZ rfl hl ⟨by rw [aad];exact aaq hz (by decide),?_⟩;refine gu (f:=λd=> .bl (match d with|.tup (.int t:: .tup [.int a,.int b]::_)=>aH t (a,b) size|_=>false)) (ql hl) (λx hx q hq=>?_) ?_
    ·obtain ⟨y,_,rfl⟩:=aaj.mp hx;exact ⟨y.1,y.2.1,y.2.2.map Ξ,size,rfl,hq⟩
    ·refine ⟨ds.map λd=>aH d.1 d.2.1 size,?_,?_⟩
     ·rw [aaC,aaO,aaC];rfl
     ·have e:ai ds size=(ds.map λd=>aH d.1 d.2.1 size).all id:=by unfold ai;rw [decide_eq_true (show 1<=ds.length by omega),decide_eq_true (show ds.length<=6 by omega),List.all_map];rfl
      rw [<-e];exact h
def bG(cs:List Fr):Int:=cs.foldl (λb c=>b*c.2/g b c.2) 1
theorem mG{b c:Int}(hb:0<b)(hc:0<c):0<b*c/g b c/\b*c/g b c<=b*c/\0<g b c/\g b c<=c:=by
 have hg:0<g b c:=Aa (by omega);have hbc:0<b*c:=aaH hb hc;have hd:g b c∣c:=Int.gcd_dvd_right ..;have hle:g b c<=c:=abN hc hd;have h1:c<=b*c:=by have:=aaA (show 1<=b by omega) (show 0<=c by omega);simpa using this
 refine ⟨Int.ediv_pos_of_pos_of_dvd hbc (by omega) (Int.dvd_mul_of_dvd_right hd),?_,hg,hle⟩;exact abU _ (by omega)
def Pz(cs:List Fr):Prop:=cs.length<=12/\∀c∈cs,0<c.2/\c.2<2^200/\c.1.natAbs<2^200
def OkB(cs:List Fr):Prop:=cs.length<=13/\∀c∈cs,0<c.2/\c.2<2^200
theorem oB:∀(cs:List Fr) (b:Int) (k:Nat),0<b->b<=2^(200*k)->(∀c∈cs,0<c.2/\c.2<2^200)->0<cs.foldl (λb c=>b*c.2/g b c.2) b/\cs.foldl (λb c=>b*c.2/g b c.2) b<=2^(200*(k+cs.length))
 |[],b,k,h0,h1,_=>⟨h0,h1⟩
 |c::cs,b,k,h0,h1,hc=>by
  obtain ⟨c0,c1⟩:=hc c aae;obtain ⟨s0,s1,_⟩:=mG h0 c0;have hlt:b*c.2/g b c.2<=2^(200*(k+1)):=by refine abf s1 ?_;rw [show 200*(k+1)=200*k+200 by omega,Int.pow_add];exact abj h1 (aai c1) (aai c0) (aai (Int.pow_pos (by decide)))
  have:=oB cs _ (k+1) s0 hlt λd hd=>hc d (aac _ hd);rw [abl,aau,show k+(cs.length+1)=k+1+cs.length by omega];exact this
theorem S6{n:Int}{k:Nat}(h0:0<=n)(h:n<=2^k)(hk:k<8000):iw n:=by
 refine bg (k:=k+1) ?_ hk;have:(n.natAbs:Int)<((2^(k+1):Nat):Int):=by rw [aa0 h0,Int.natCast_pow,abA];have:(0:Int)<2^k:=Int.pow_pos (by decide);show n<2^k*2;omega
 exact abr.mp this
theorem fo:∀(cs:List Fr) (b:Int),0<b->(∀c∈cs,0<c.2)->0<cs.foldl (λb c=>b*c.2/g b c.2) b
 |[],_,h0,_=>h0
 |c::cs,b,h0,hc=>fo cs _ (mG h0 (hc c aae)).1 λd hd=>hc d (aac _ hd)
theorem pO{n:Int}{k:Nat}(h0:0<=n)(h:n<2^k)(hk:k<=8000):iw n:=by
 refine bg (k:=k) ?_ hk;have:(n.natAbs:Int)<((2^k:Nat):Int):=by rw [aa0 h0,Int.natCast_pow];exact h
 exact abr.mp this
def iz:DF:=λds M q _=>∃cs:List Fr,ds=[.lst (cs.map Ξ)]/\OkB cs/\q (.int (bG cs)) M
theorem eG:Ε ["chances","bottom","chance"] ["chances"] (τ iq):= .of rfl
theorem pW{f:Addr}{fd:FuncData}(F:cI K "common_bottom" "common_bottom" iq f fd)(E:Ev K mg w Cm){gZ:Addr}{gR:FuncData}(bH:av P w K mg base 1 "common_divisor" ["one","other"] Hx gZ gR):aq P w K mg base (bV P w) 2 f fd ["chances"] (cC K iz):=by
 refine F.de eG (λds M q x h=>?_) (λaV A outer s H E' hr=>⟨_,(θ (Γ 1 eG.nd χ)
   (θ (dw (bR (jv 0)) (ax (i:=2) eG.nd rfl (Or.inl rfl)) aS (μ (Γ 1 eG.nd (iG (aL (jv 1) (Μ (jv 2) χ)) (ae bH hr ξ (Ρ (jv 1) (ι (Μ (jv 2) χ) η (hs:=aQ))))))))
   (μ (Ζ (jv 1))))),λds M q x h=>?_⟩)
 ·obtain ⟨cs,rfl,_⟩:=h;rfl
 ·obtain ⟨cs,rfl,⟨hz,hc⟩,h⟩:=h;walk_at "vc";refine dZ (i:=0) rfl rfl ?_;refine bZ (λxs ρ M'=>M'=M/\∃gz rest r,cs=gz++rest/\xs=rest.map Ξ/\ρ=[some (.lst (cs.map Ξ)),some (.int (bG gz)),r]) (λ_ _ _ _=>trivial) (λx xs ρ M' hj fH=>?_) (λρ M' hj=>?_) _ _ _ ⟨rfl,[],cs,none,rfl,rfl,rfl⟩
  ·obtain ⟨rfl,gz,rest,r,e,ex,rfl⟩:=hj;cases rest with
   |nil=>cases ex
   |cons c rest=>
    cases ex;have hd:∀d∈gz,0<d.2/\d.2<2^200:=λd hd=>by obtain ⟨a,b⟩:=hc d (by rw [e];exact List.mem_append_left _ hd);exact ⟨a,b⟩
    obtain ⟨c0,c1⟩:=hc c (by rw [e];exact aav _ aae);obtain ⟨b0,b1⟩:=oB gz 1 0 (by decide) (by decide) hd;have hl:gz.length<=13:=by have:=congrArg List.length e;rw [aag] at this;omega
    obtain ⟨s0,s1,g0,g1⟩:=mG b0 c0;refine ⟨⟨S6 (aai b0) b1 (by omega),pO (aai c0) c1 (by decide)⟩,⟨g0,pO (aai g0) (aaw g1 c1) (by decide)⟩,?_⟩;refine fH _ _ ⟨rfl,gz++[c],rest,some (Ξ c),by rw [e];simp,rfl,?_⟩;have e2:bG (gz++[c])=bG gz*c.2/g (bG gz) c.2:=by unfold bG;rw [List.foldl_append];rfl
    rw [e2];rfl
  ·obtain ⟨rfl,gz,rest,r,e,ex,rfl⟩:=hj;cases rest with
   |nil=>rw [aaV] at e;subst e;exact h
   |cons c rest=>cases ex
def aj(cs:List Fr):Bool:= !(cs.any λc=>decide (c.1<=0))&&(decide ((cs.map λc=>c.1*(bG cs/c.2)).sum=bG cs)&&decide (bG cs<=1000000))
def mL:DF:=λds M q _=>∃cs:List Fr,ds=[.lst (cs.map Ξ)]/\Pz cs/\q (.bl (aj cs)) M
theorem df:Ε ["chances","bottom","whole"] ["chances"] (τ jj):= .of rfl
theorem sG{f:Addr}{fd:FuncData}(F:cI K "fits_chances" "fits_chances" jj f fd)(E:Ev K mg w Cm){ir:Addr}{ix:FuncData}(b7:av P w K mg base 2 "common_bottom" ["chances"] iz ir ix):aq P w K mg base (bV P w) 3 f fd ["chances"] (cC K mL):=by
 refine F.de df (λds M q x h=>?_) (λaV A outer s H E' hr=>⟨_,(θ (aD (bB (Rh E.Ds (ι (fS (ys:=[]) (ak:=[]) (.of df rfl rfl rfl) (bR (jv 0)) (λC s H fp=>(zt (Μ (jv 0) χ) χ))) η))) (μ (Ζ CB)) Υ)
   (θ (Γ 1 df.nd (ae b7 hr ξ (Ρ (jv 0) η)))
   (θ (Γ 2 df.nd (NH E.zz (ι (fS (ys:=["bottom"]) (ak:=[1]) (.of df rfl rfl rfl) (bR (jv 0)) (λC s H fp=>(aL (Μ (jv 0) χ) (iG (jv 1) (Μ (jv 0) χ))))) η)))
   (μ (Ζ (iy (KD hr (jv 2) (jv 1)) (lE (zt (jv 1) (rq E.jg))))))))),λds M q x h=>?_⟩)
 ·obtain ⟨cs,rfl,_⟩:=h;rfl
 ·obtain ⟨cs,rfl,Kx,h⟩:=h;obtain ⟨hz,hc⟩:=id Kx;have YG:(cs.map Ξ).length<=sizeLine:=by rw [aad];exact aaq hz (by decide)
  obtain ⟨b0,b1⟩:=oB cs 1 0 (by decide) (by decide) λc h=>⟨(hc c h).1,(hc c h).2.1⟩;walk_at "vc";refine dZ (i:=0) rfl rfl ⟨YG,?_⟩;refine gu (f:=λd=> .bl (match d with|.tup [.int a,.int b]=>decide (a<=0)|_=>false)) trivial (λx hx q hq=>?_) ?_
  ·obtain ⟨y,_,rfl⟩:=aaj.mp hx;exact hq
  ·refine ⟨cs.map λc=>decide (c.1<=0),by rw [aaC,aaO,aaC];rfl,λ_ z=>(nomatch z),λ_ z=>(nomatch z),?_⟩;have ea:(cs.map λc=>decide (c.1<=0)).any id=cs.any λc=>decide (c.1<=0):=by rw [List.any_map];rfl
   rw [ea];refine ⟨λh1=>?_,λh1=>?_⟩
   ·have e:aj cs=false:=by unfold aj;rw [h1];rfl
    rw [<-e];exact h
   ·refine ⟨cs,rfl,⟨by omega,λc h=>⟨(hc c h).1,(hc c h).2.1⟩⟩,?_⟩;walk_at "vc";refine dZ (i:=0) rfl rfl ⟨YG,?_⟩;refine gu (f:=λd=> .int (match d with|.tup [.int a,.int b]=>a*(bG cs/b)|_=>0)) trivial (λx hx q hq=>?_) ?_
    ·obtain ⟨y,hy,rfl⟩:=aaj.mp hx;obtain ⟨y0,y1,y2⟩:=hc y hy;refine ⟨⟨y0,pO (aai y0) y1 (by decide)⟩,⟨bg y2,?_⟩,hq⟩;refine S6 (k:=200*(0+cs.length)) (Int.ediv_nonneg (aai b0) (aai y0)) (abf (abU _ (aai b0)) b1) (by omega)
    ·refine ⟨cs.map λc=>c.1*(bG cs/c.2),by rw [aaC,aaO,aaC];rfl,⟨_,_,rfl⟩,?_⟩;refine ⟨λh2=>?_,λh2=>?_⟩
     ·have e:aj cs=decide (bG cs<=1000000):=by unfold aj;rw [h1,h2];rfl
      rw [e] at h;exact h
     ·have e:aj cs=false:=by unfold aj;rw [h1,h2];rfl
      rw [<-e];exact h
inductive Rw where
 |fin (p:Fr)
 |υ (k:Str) (ds:List cj)
def ω(d:cj):Fr:=d.2.2.headD (0,1)
def fP:Rw->Prop
 |.fin p=>0<p.2
 |.υ k ds=>k≠"end"/\ds.length<=12/\(k="chance"->(∀d∈ds,d.2.2=[ω d])/\Pz (ds.map ω))/\∀d∈ds,d.2.2.length<=1/\0<d.2.1.2
def j9(M:Ms)(d:Dt):Rw->Prop
 |.fin p=>d= .tup [.str "end",Ξ p]
 |.υ k ds=>∃e ok,d= .tup [.str k,e]/\k4 M e=some (ds.map eO,ok)
def aU:Rw->Dt
 |.fin p=> .tup [.str "end",Ξ p]
 |.υ k ds=> .tup [.str k,.lst (ds.map eO)]
theorem LJ(M:Ms)(r:Rw):j9 M (aU r) r:=by
 cases r with
 |fin p=>rfl
 |υ k ds=>exact ⟨_,_,rfl,rfl⟩
theorem lP{n:Nat}(p:Fr):(Ξ p).under n:=⟨trivial,trivial,trivial⟩
theorem CO{n:Nat}:∀(ps:List Fr),Dt.bF n (ps.map Ξ)
 |[]=>trivial
 |p::ps=>⟨lP p,CO ps⟩
theorem OZ{n:Nat}(d:cj):(eO d).under n:=⟨trivial,lP _,CO _⟩
theorem hV{n:Nat}:∀(ds:List cj),Dt.bF n (ds.map eO)
 |[]=>trivial
 |d::ds=>⟨OZ d,hV ds⟩
theorem Md{n:Nat}(r:Rw):(aU r).under n:=by
 cases r with
 |fin p=>exact ⟨trivial,lP p,trivial⟩
 |υ k ds=>exact ⟨trivial,hV ds,trivial⟩
theorem sQ{n:Nat}:∀(rs:List Rw),Dt.bF n (rs.map aU)
 |[]=>trivial
 |r::rs=>⟨Md r,sQ rs⟩
def Β(k:Str):Bool:=k=="one" || k=="other"
def fh(r:Rw)(size:Int):Bool:=match r with
 |.fin p=>bx p
 |.υ k ds=>if Β k then ai ds size else if k="chance" then ai ds size&&aj (ds.map ω) else false
theorem Jz{i:Nat}{j:Int}{ρ:En}{M:Ms}{d:Dt}{ds xs:List Dt}{ok:Ms->Prop}{q:List Dt->(Ms->Prop)->Ms->Prop}{x:DX}(hv:ρ[i]? =some (some (.tup ds)))(hj:nE ds j=some d)(hl:k4 M d=some (xs,ok))(h:q xs ok M):gC (kX dF (AG i) (dC (.int j))) ρ M q x:=by unfold gC kX AG;rw [hv];show dF (.tup ds) (.int j) M (λd M1=>match pI M1 d with|some (xs,ok)=>q xs ok M1|none=>False);refine Η rfl hj ?_;show (match pI M d with|some (xs,ok)=>q xs ok M|none=>False);rw [zK hl];exact h
theorem rV{k:Str}:Oy (.str k) [.str "one",.str "other"]=Β k:=by show ((("one":Str)==k) || ((("other":Str)==k) || false))=(k=="one" || k=="other");rw [Bool.or_false,BEq.comm (a:=("one":Str)),BEq.comm (a:=("other":Str))]
def yh:DF:=λas M q _=>∃d r size,as=[d,.int size]/\j9 M d r/\fP r/\q (.bl (fh r size)) M
theorem oJ:Ε ["row","size","kind"] ["row","size"] (τ qF):= .of rfl
theorem Bs {f:Addr}{fd:FuncData}(F:cI K "fits_row" "fits_row" qF f fd) (E:Ev K mg w Cm) {se:Addr}{sV:FuncData}(gq:av P w K mg base 1 "fits_pay" ["pay"] sL se sV) {Bf:Addr}{Co:FuncData}(hW:av P w K mg base 3 "fits_doors" ["doors","size"] qZ Bf Co) {xB:Addr}{vZ:FuncData}(iu:av P w K mg base 3 "fits_chances" ["chances"] mL xB vZ):aq P w K mg base (bV P w) 4 f fd ["row","size"] (cC K yh):=by
 refine F.de oJ (λds M q x h=>?_) (λaV A outer s H E' hr=>⟨_,(θ (Γ 2 oJ.nd (Μ (jv 0) χ))
   (θ (aD (d9 hr (jv 2) jx) (μ (Ζ (ae gq hr ξ (ι (Μ (jv 0) χ) η (hs:=aQ))))) Υ)
   (θ (aD (HP (jv 2) (GZ E.wd)) (μ (Ζ (ae hW hr ξ (ι (Μ (jv 0) χ) (Ρ (jv 1) η) (hs:=aQ))))) Υ)
   (θ (aD (d9 hr (jv 2) jx) (μ (Ζ (iy (ae hW hr ξ (ι (Μ (jv 0) χ) (Ρ (jv 1) η) (hs:=aQ))) (lE (ae iu hr ξ (ι (fS (ys:=[]) (ak:=[]) (.of oJ rfl rfl rfl) (bR (Μ (jv 0) χ)) (λC s H fp=>(Μ (jv 0) χ))) η)))))) Υ)
   (μ (Ζ CB)))))),λds M q x h=>?_⟩)
 ·obtain ⟨d,r,size,rfl,_⟩:=h;rfl
 ·obtain ⟨d,r,size,rfl,ra,ro,h⟩:=h;cases r with
  |fin p=>
   have ra:d= .tup [.str "end",Ξ p]:=ra;subst ra;exact ⟨λ_=>⟨p,rfl,h⟩,λz=>(nomatch z)⟩
  |υ k ds=>
   obtain ⟨e,ok,rfl,hl⟩:=ra;obtain ⟨hk,hz,Au,_⟩:=ro;refine ⟨λz=>absurd (of_decide_eq_true z) hk,λ_=>?_⟩;refine ⟨.str k,[.str "one",.str "other"],[.str "one",.str "other"],rfl,rfl,rfl,?_⟩;rw [rV];refine ⟨λh1=>?_,λh1=>?_⟩
   ·refine ⟨e,size,ds,ok,rfl,hl,by omega,?_⟩;have e1:fh (.υ k ds) size=ai ds size:=by show (if Β k then _ else _)=_;rw [if_pos h1]
    rw [<-e1];exact h
   ·have e1:fh (.υ k ds) size=if k="chance" then ai ds size&&aj (ds.map ω) else false:=by show (if Β k then _ else _)=_;rw [if_neg (by rw [h1];decide)]
    rw [e1] at h;refine ⟨λh2=>?_,λh2=>?_⟩
    ·have h2:k="chance":=of_decide_eq_true h2;rw [if_pos h2] at h;obtain ⟨LS,Kx⟩:=Au h2;refine ⟨e,size,ds,ok,rfl,hl,by omega,λh3=>?_,λh3=>?_⟩
     ·rw [h3,Bool.true_and] at h;show gC _ _ _ _ _;refine Jz (i:=0) (j:=1) (ds:=[.str k,e]) rfl (Κ (j:=1) rfl) hl ⟨by rw [aad];exact aaq hz (by decide),?_⟩;refine gu (f:=λd=>match d with|.tup [_,_,c]=>c|_=> .bq) (ql hl) (λx hx q hq=>?_) ?_
      ·obtain ⟨y,hy,rfl⟩:=aaj.mp hx;have ey:eO y= .tup [.int y.1,Ξ y.2.1,Ξ (ω y)]:=by unfold eO;rw [LS y hy];rfl
       rw [ey] at hq⊢;exact hq
      ·refine ⟨ds.map ω,?_,Kx,h⟩;rw [aaO,aaC,aaC];have:∀y∈ds,((λd=>match d with|Dt.tup [_,_,c]=>c|_=>Dt.bq) ∘ eO) y=(Ξ ∘ ω) y:=λy hy=>by
        have ey:eO y= .tup [.int y.1,Ξ y.2.1,Ξ (ω y)]:=by unfold eO;rw [LS y hy];rfl
        show (match eO y with|Dt.tup [_,_,c]=>c|_=>Dt.bq)=Ξ (ω y);rw [ey]
       rw [aaT this]
     ·rw [h3,Bool.false_and] at h;exact h
    ·have h2:k≠"chance":=of_decide_eq_false h2;rw [if_neg h2] at h;exact h
def qO:DF:=λas M q _=>∃d r,as=[d]/\j9 M d r/\fP r/\match r with
 |.fin p=>q (.tup [.str "end",Ξ p]) M
 |.υ k ds=>q (.tup [.str k,.loc M.length]) (M++[.lst (ds.map eO)])
theorem zg:Ε ["row"] ["row"] (τ mf):= .of rfl
theorem xo{f:Addr}{fd:FuncData}(F:cI K "copied_row" "copied_row" mf f fd)(E:Ev K mg w Cm):aq P w K mg base (bV P w) 1 f fd ["row"] (cC K qO):=by
 refine F.de zg (λds M q x h=>?_) (λaV A outer s H E' hr=>⟨_,(θ (aD (d9 hr (Μ (jv 0) χ) jx) (μ (Ζ (fv (ι (Μ (jv 0) χ) (ι (Μ (jv 0) χ) η (hs:=aQ)) (hs:=aQ))))) Υ)
   (μ (Ζ (fv (ι (Μ (jv 0) χ) (ι (wb E.kn (ι (Μ (jv 0) χ) η (hs:=aQ))) η (hs:=aG)) (hs:=aQ)))))),λds M q x h=>?_⟩)
 ·obtain ⟨d,r,rfl,_⟩:=h;rfl
 ·obtain ⟨d,r,rfl,ra,ro,h⟩:=h;cases r with
  |fin p=>
   have ra:d= .tup [.str "end",Ξ p]:=ra;subst ra;exact ⟨λ_=>⟨by show 2<=sizeLine;decide,h⟩,λz=>(nomatch z)⟩
  |υ k ds=>
   obtain ⟨e,ok,rfl,hl⟩:=ra;refine ⟨λz=>absurd (of_decide_eq_true z) ro.1,λ_=>?_⟩;show (match jU M e with|some xs=>_|none=>False);rw [mM hl];exact ⟨by show 2<=sizeLine;decide,h⟩
def aT(p:Fr):Bool:=decide (0<=p.1)&&(decide (p.1<p.2)&&decide (p.2<=1000))
def qM:DF:=λas M q _=>∃p,as=[Ξ p]/\q (.bl (aT p)) M
theorem zC:Ε ["share"] ["share"] (τ mz):= .of rfl
theorem vV{f:Addr}{fd:FuncData}(F:cI K "fits_share" "fits_share" mz f fd)(E:Ev K mg w Cm):aq P w K mg base (bV P w) 1 f fd ["share"] (cC K qM):=by
 refine F.de zC (λds M q x h=>?_) (λaV A outer s H E' hr=>⟨_,(μ (Ζ (iy (zt χ (Μ (jv 0) χ)) (iy (Mx (Μ (jv 0) χ) (Μ (jv 0) χ)) (lE (zt (Μ (jv 0) χ) (rq E.gH))))))),λds M q x h=>?_⟩)
 ·obtain ⟨p,rfl,_⟩:=h;rfl
 ·obtain ⟨p,rfl,h⟩:=h;unfold aT at h;refine ⟨λh1=>⟨λh2=>?_,λh2=>?_⟩,λh1=>?_⟩
  ·rw [show decide (0<=p.1)=true from h1,show decide (p.1<p.2)=true from h2] at h;exact h
  ·rw [show decide (0<=p.1)=true from h1,show decide (p.1<p.2)=false from h2] at h;exact h
  ·rw [show decide (0<=p.1)=false from h1] at h;exact h
theorem MX{b c S:Int}(hb:b∣S)(hc:c∣S)(Kt:0<b)(hc0:0<c):b*c/g b c∣S/\b∣b*c/g b c/\c∣b*c/g b c:=by
 have e:b*c/g b c=(Int.lcm b c:Nat):=by
  have h:=Int.gcd_mul_lcm b c;have hg:0<g b c:=Aa (by omega);have h2:((Int.gcd b c:Nat):Int)*((Int.lcm b c:Nat):Int)=b*c:=by rw [<-Int.natCast_mul,h,Int.natCast_mul,aa0 (aai Kt),aa0 (aai hc0)]
  rw [<-h2];exact Int.mul_ediv_cancel_left _ (by unfold g at hg;omega)
 rw [e];exact ⟨Int.coe_lcm_dvd hb hc,Int.dvd_lcm_left ..,Int.dvd_lcm_right ..⟩
theorem iJ:∀(cs:List Fr) (b S:Int),0<b->b∣S->(∀c∈cs,0<c.2/\c.2∣S)->cs.foldl (λb c=>b*c.2/g b c.2) b∣S/\b∣cs.foldl (λb c=>b*c.2/g b c.2) b/\∀c∈cs,c.2∣cs.foldl (λb c=>b*c.2/g b c.2) b
 |[],b,S,_,h,_=>⟨h,Int.dvd_refl b,λc hc=>nomatch hc⟩
 |c::cs,b,S,h0,h,hc=>by
  obtain ⟨c0,cS⟩:=hc c aae;obtain ⟨d1,d2,d3⟩:=MX h cS h0 c0;obtain ⟨i1,i2,i3⟩:=iJ cs _ S (mG h0 c0).1 d1 λx hx=>hc x (aac _ hx);rw [abl];refine ⟨i1,Int.dvd_trans d2 i2,λx hx=>?_⟩;rcases aay.mp hx with rfl|hx
  ·exact Int.dvd_trans d3 i2
  ·exact i3 x hx
theorem pq(m:Int)(f:Int->Int):∀(ws:List Int),(ws.map λw=>m*f w).sum=m*(ws.map f).sum
 |[]=>by simp
 |w::ws=>by simp only [List.map_cons,List.sum_cons];rw [pq m f ws,Int.mul_add]
theorem zF{t b:Int}(h:0<b):(aw t b).2∣b:=by obtain ⟨p,q,e,_,_,_,eb⟩:=gm (t:=t) (show b≠0 by omega);rw [e];exact ⟨dv t b,by show b=q*dv t b;rw [aaR];exact eb⟩
theorem yg{t b:Int}(ht:0<t)(h:0<b):0<(aw t b).1:=by have hc:=cv (t:=t) (show b≠0 by omega);have hp:=cB (t:=t) (show b≠0 by omega);have h1:0<t*(aw t b).2:=aaH ht hp;rw [hc] at h1;exact Int.pos_of_mul_pos_right h1 h |> λz=>z
theorem BI{ws:List Int}{S:Int}(hS:ws.sum=S)(hw:∀w∈ws,0<w)(hn:ws≠[])(hS1:S<=1000000)(hz:ws.length<=12):aj (ws.map λw=>aw w S)=true/\Pz (ws.map λw=>aw w S):=by
 have pos:∀{l:List Int},(∀w∈l,0<w)->0<=l.sum/\(l≠[]->0<l.sum)/\∀w∈l,w<=l.sum:=by
  intro l
  induction l with
  |nil=>exact λ_=>⟨by simp,λz=>absurd rfl z,λw hw=>nomatch hw⟩
  |cons a l ih=>
   intro h;obtain ⟨i1,i2,i3⟩:=ih λw hw=>h w (aac _ hw);have:=h a aae;rw [List.sum_cons];refine ⟨by omega,λ_=>by omega,λw hw=>?_⟩;rcases aay.mp hw with rfl|hw
   ·omega
   ·have:=i3 w hw;omega
 obtain ⟨_,p2,p3⟩:=pos hw;have S0:0<S:=by rw [<-hS];exact p2 hn
 have QA:S≠0:=by omega
 have hd:∀c∈ws.map (λw=>aw w S),0<c.2/\c.2∣S:=λc hc=>by obtain ⟨w,_,rfl⟩:=aaj.mp hc;exact ⟨cB QA,zF S0⟩
 obtain ⟨⟨m,hm⟩,_,hB⟩:=iJ (ws.map λw=>aw w S) 1 S (by decide) (Int.one_dvd _) hd;have B0:0<bG (ws.map λw=>aw w S):=by refine (fo (ws.map λw=>aw w S) 1 (by decide) λc hc=>(hd c hc).1)
 generalize Vq:bG (ws.map λw=>aw w S)=B at *
 have hm:S=B*m:=by rw [<-Vq];exact hm
 have m0:0<m:=by
  rcases Int.lt_trichotomy m 0 with h|h|h
  ·have:=abC B0 h;omega
  ·rw [h,Int.mul_zero] at hm;omega
  ·exact h
 have key:((ws.map λw=>aw w S).map λc=>c.1*(B/c.2)).sum=B:=by
  have e1:∀w∈ws,m*((aw w S).1*(B/(aw w S).2))=w:=λw hw=>by
   have hb:(aw w S).2∣B:=by rw [<-Vq];exact hB _ (aaj.mpr ⟨w,hw,rfl⟩)
   obtain ⟨k,hk⟩:=hb;have q0:=cB (t:=w) QA;have e2:B/(aw w S).2=k:=by rw [hk];exact aba _ (by omega)
   have hc:=cv (t:=w) QA;rw [e2];have hS':S=(aw w S).2*k*m:=by rw [<-hk];exact hm
   generalize (aw w S).1=x at *
   generalize (aw w S).2=y at *
   have e4:S*x=y*(m*(x*k)):=by rw [hS'];simp only [Int.mul_assoc,Int.mul_comm,Int.mul_left_comm]
   have e3:y*(m*(x*k))=y*w:=by rw [<-e4,<-hc,aaR]
   exact aaG (by omega) e3
  have e5:m*((ws.map λw=>aw w S).map λc=>c.1*(B/c.2)).sum=m*B:=by rw [aaC];show m*(ws.map λw=>(aw w S).1*(B/(aw w S).2)).sum=m*B;rw [<-pq,aaT e1,List.map_id',hS,hm,aaR]
  exact aaG (by omega) e5
 refine ⟨?_,⟨by rw [aad];exact hz,λc hc=>?_⟩⟩
 ·unfold aj;rw [Vq,key];have ha:((ws.map λw=>aw w S).any λc=>decide (c.1<=0))=false:=by rw [List.any_eq_false];intro c hc;obtain ⟨w,Ug,rfl⟩:=aaj.mp hc;have:=yg (hw w Ug) S0;simpa using this
  have hle:B<=S:=by have:=aan (show 1<=m by omega) (aai B0);rw [Int.mul_one,<-hm] at this;exact this
  rw [ha,decide_eq_true rfl,decide_eq_true (show B<=1000000 by omega)];rfl
 ·obtain ⟨w,Ug,rfl⟩:=aaj.mp hc;have q0:=cB (t:=w) QA;have l1:=qV (t:=w) QA;have l2:=jT (t:=w) QA;have:=p3 w Ug;have w0:=hw w Ug;have big:(1000000:Int)<2^200:=by decide
  have afJ:1000000<2^200:=by decide
  exact ⟨q0,by omega,by omega⟩
theorem dI{α:Type}{te:DE}{cs:En}{ok:Ms->Prop}{F:Dt->α->Prop}{f:α->Dt}{M:Ms}{k:List Dt->Ms->Prop}(ho:ok M)(ht:∀x a,F x a->∀q:DQ,q (f a) M->te (some x::cs) M q k8):∀{xs:List Dt}{as:List α}{Ι:List Dt},Paired F xs as->k (Ι++as.map f) M->uK te cs ok xs Ι M k
 |_,_,Ι,.nil,h=>⟨ho,by simpa using h⟩
 |_,_,Ι,.cons r t,h=>⟨ho,ht _ _ r _ (dI ho ht t (by simpa using h))⟩
theorem zG{M:Ms}{k:Nat}{C C':Addr}{ns ns':List Str}{xs xs':List Dt}{e:Dt}{ys:List Dt}{ok:Ms->Prop}(hk:M[k]? =some (.ins C ns xs))(h:k4 M e=some (ys,ok)):k4 (M.set k (.ins C' ns' xs')) e=some (ys,ok):=by
 cases e with
 |lst ds=>exact h
 |iY ns=>exact h
 |loc j=>
  have h:(match M[j]? with|some (.lst xs)=>some (xs,λM':Ms=>M'[j]? =some (.lst xs))|_=>none)=some (ys,ok):=h;have ne:k≠j:=λz=>by subst z;rw [hk] at h;cases h
  show (match (M.set k (.ins C' ns' xs'))[j]? with|some (.lst xs)=>some (xs,λM':Ms=>M'[j]? =some (.lst xs))|_=>none)=some (ys,ok);rw [abq ne];exact h
 |_=>cases h
theorem ED{M:Ms}{k:Nat}{C C':Addr}{ns ns':List Str}{xs xs':List Dt}{d:Dt}{r:Rw}(hk:M[k]? =some (.ins C ns xs))(h:j9 M d r):j9 (M.set k (.ins C' ns' xs')) d r:=by
 cases r with
 |fin p=>exact h
 |υ k' ds=>
  obtain ⟨e,ok,h1,h2⟩:=h;exact ⟨e,ok,h1,zG hk h2⟩
def az(C:Addr)(ε:Fr)(γ:List Rw):Dt:= .obj C ["kept_share","kept_rows"] [Ξ ε,.lst (γ.map aU)]
def Ni(Cm:Addr):DF:=λas M q _=>∃k d ε ds γ ok,as=[.loc k,Ξ ε,d]/\M[k]? =some (.ins Cm [] [])/\k4 M d=some (ds,ok)/\Paired (j9 M) ds γ/\aT ε=true/\1<=γ.length/\γ.length<=12/\
 (∀r∈γ,fP r/\fh r γ.length=true)/\q .bq (M.set k (.ins Cm ["kept_share","kept_rows"] [Ξ ε,.lst (γ.map aU)]))
theorem hU:Ε ["self","share","rows","place","row"] ["self","share","rows"] (τ mr):= .of rfl
theorem wc{f:Addr}{fd:FuncData}(F:cI K "__init__" "Floor.__init__" mr f fd)(E:Ev K mg w Cm){Bx:Addr}{AM:FuncData}(jS:av P w K mg base 1 "fits_share" ["share"] qM Bx AM){HB:Addr}{IL:FuncData}(pd:av P w K mg base 4 "fits_row" ["row","size"] yh HB IL){BG:Addr}{AN:FuncData}(jO:av P w K mg base 1 "copied_row" ["row"] qO BG AN):aq P w K mg base (bV P w) 5 f fd ["self","share","rows"] (cC K (Ni Cm)):=by
 refine F.de hU (λds M q x h=>?_) (λaV A outer s H E' hr=>⟨_,(θ (aD (eR (bB (ae jS hr ξ (Ρ (jv 1) η)))) (μ fq) Υ)
   (θ (aD (JW.jt (jB (sj (bU E.bo (Ρ (jv 2) η)) χ) (i9 (CJ (bU E.bo (Ρ (jv 2) η)) (rq E.mX))))) (μ fq) Υ)
   (θ (dw (xc E.dY (Ρ (jv 2) η)) (nP rfl (cz (ax (i:=3) hU.nd rfl (Or.inl rfl)) (cz (ax (i:=4) hU.nd rfl (Or.inl rfl)) kK))) oi (μ (aD (eR (bB (ae pd hr ξ (Ρ (jv 4) (ι (bU E.bo (Ρ (jv 2) η)) η (hs:=aG)))))) (μ fq) Υ)))
   (θ (CN E.dh E.fj (jv 0) (jv 1))
   (μ (CN E.dh E.ck (jv 0) (fS (ys:=[]) (ak:=[]) (.of hU rfl rfl rfl) (bR (jv 2)) (λC s H fp=>(cc (ae jO hr (jA (P:=P) (w:=w)) (Ρ (jv 0) η))))))))))),λds M q x h=>?_⟩)
 ·obtain ⟨k,d,ε,ds,γ,ok,rfl,_⟩:=h;rfl
 ·obtain ⟨k,d,ε,ds,γ,ok,rfl,hk,hl,hp,hs,h1,h12,xS,h⟩:=h;have hlen:ds.length=γ.length:=Paired.length hp;walk_at "vc";refine ⟨ε,rfl,λz=>?_,λ_=>?_⟩
  ·rw [hs] at z;exact nomatch z
  have WS:=mM hl;refine au WS ⟨λz=>?_,λ_=>?_⟩
  ·have:(ds.length:Int)<1:=by simpa using z
   omega
  refine au WS ⟨λz=>?_,λ_=>?_⟩
  ·have:12<(ds.length:Int):=by simpa using z
   omega
  refine ⟨d,ds,ok,rfl,hl,?_⟩;refine bZ (λxs ρ M'=>M'=M/\∃n mS Df a b,xs=iO n mS/\Paired (j9 M) mS Df/\(∀r∈Df,r∈γ)/\ρ=[some (.loc k),some (Ξ ε),some d,a,b]) (λxs ρ M' hj=>by obtain ⟨rfl,_⟩:=hj;exact ql hl) (λx xs ρ M' hj fH=>?_) (λρ M' hj=>?_) _ _ _ ⟨rfl,0,ds,γ,none,none,rfl,hp,λ_ h=>h,rfl⟩
  ·obtain ⟨rfl,n,mS,Df,a,b,ex,yD,U1,rfl⟩:=hj;cases yD with
   |nil=>cases ex
   |cons ra t=>
    rename_i d1 r1 ds1 RO;cases ex;refine au WS ⟨d1,r1,ds.length,rfl,ra,(xS r1 (U1 r1 aae)).1,λz=>?_,λ_=>?_⟩
    ·rw [hlen,(xS r1 (U1 r1 aae)).2] at z;exact nomatch z
    ·exact fH _ _ ⟨rfl,n+1,ds1,RO,_,_,rfl,t,λr hr=>U1 r (aac _ hr),rfl⟩
  ·obtain ⟨rfl,n,mS,Df,a,b,ex,yD,U1,rfl⟩:=hj;have hkl:k<M'.length:=(aaf.mp hk).1;refine ⟨k,[],[],rfl,hk,(λz=>(nomatch z)),by decide,?_⟩;have Xl:=zG (C':=Cm) (ns':=["kept_share"]) (xs':=[Ξ ε]) hk hl;dsimp only [NP,List.nil_append];show gC _ _ _ _ _;refine dZ (i:=2) rfl Xl ⟨by rw [hlen];exact aaq h12 (by decide),?_⟩;have TH:Paired (λx a=>j9 (M'.set k (.ins Cm ["kept_share"] [Ξ ε])) x a/\fP a) ds γ:=by
    have:∀{xs:List Dt} {rs:List Rw},Paired (j9 M') xs rs->(∀r∈rs,fP r)->Paired (λx a=>j9 (M'.set k (.ins Cm ["kept_share"] [Ξ ε])) x a/\fP a) xs rs:=by
     intro xs rs hp
     induction hp with
     |nil=>exact λ_=> .nil
     |cons r t ih=>exact λh=> .cons ⟨ED hk r,h _ aae⟩ (ih λy hy=>h y (aac _ hy))
    exact this hp λr hr=>(xS r hr).1
   refine dI (f:=aU) (ql Xl) (λx a ha q' hq=> ?ht) TH ?fin
   case ht=>
    obtain ⟨ha,ho⟩:=ha;refine ⟨x,a,rfl,ha,ho,?_⟩;cases a with
    |fin p=>exact Lj ⟨trivial,lP p,trivial⟩ hq
    |υ k2 yw=>exact j3 (.tup (.cons (.old trivial) (.cons (.Eh (Nat.le_refl _) (by simp) (iN.old (hV yw))) .nil))) hq
   case fin=>
    refine ⟨k,["kept_share"],[Ξ ε],rfl,by rw [aa1 hkl],by decide,by decide,?_⟩;rw [List.set_set];exact h
def kindOf:Rw->Str
 |.fin _=>"end"
 |.υ k _=>k
def Ν:Rw->List cj
 |.fin _=>[]
 |.υ _ ds=>ds
def RE:Rw->Dt
 |.fin p=>Ξ p
 |.υ _ _=> .bq
theorem mN{γ:List Rw}{i:Nat}{r:Rw}(h:γ[i]? =some r):(γ.map aU)[i]? =some (aU r):=by rw [aam,h];rfl
theorem HM{r:Rw}:∃e,aU r= .tup [.str (kindOf r),e]:=by
 cases r with
 |fin p=>exact ⟨_,rfl⟩
 |υ k ds=>exact ⟨_,rfl⟩
def zT(C:Addr):DF:=λas M q _=>∃ε γ,as=[az C ε γ]/\q (.int γ.length) M
theorem z6:Ε ["self"] ["self"] (τ lS):= .of rfl
theorem xt{f:Addr}{fd:FuncData}(F:cI K "size" "Floor.size" lS f fd)(E:Ev K mg w Cm):aq P w K mg base (bV P w) 1 f fd ["self"] (cC K (zT Cm)):=by
 refine F.de z6 (λds M q x h=>?_) (λaV A outer s H E' hr=>⟨_,(μ (Ζ (bU E.bo (ι (rM E.dh E.ck (jv 0)) η)))),λds M q x h=>?_⟩)
 ·obtain ⟨ε,γ,rfl,_⟩:=h;rfl
 ·obtain ⟨ε,γ,rfl,h⟩:=h;refine ⟨_,_,_,.inl rfl,rfl,?_⟩;show eZ [.lst (γ.map aU)] M _;refine au (xs:=γ.map aU) rfl ?_;rw [aad];exact h
def JV(C:Addr):DF:=λas M q _=>∃ε γ,as=[az C ε γ]/\q (Ξ ε) M
theorem wu:Ε ["self"] ["self"] (τ ko):= .of rfl
theorem tD{f:Addr}{fd:FuncData}(F:cI K "share" "Floor.share" ko f fd)(E:Ev K mg w Cm):aq P w K mg base (bV P w) 1 f fd ["self"] (cC K (JV Cm)):=by
 refine F.de wu (λds M q x h=>?_) (λaV A outer s H E' hr=>⟨_,(μ (Ζ (rM E.dh E.fj (jv 0)))),λds M q x h=>?_⟩)
 ·obtain ⟨ε,γ,rfl,_⟩:=h;rfl
 ·obtain ⟨ε,γ,rfl,h⟩:=h;exact ⟨_,_,_,.inl rfl,rfl,h⟩
def mI(C:Addr):DF:=λas M q _=>∃ε γ i r,as=[az C ε γ,.int (i:Nat)]/\γ[i]? =some r/\q (.str (kindOf r)) M
theorem yB:Ε ["self","place"] ["self","place"] (τ lH):= .of rfl
theorem v7{f:Addr}{fd:FuncData}(F:cI K "kind" "Floor.kind" lH f fd)(E:Ev K mg w Cm):aq P w K mg base (bV P w) 1 f fd ["self","place"] (cC K (mI Cm)):=by
 refine F.de yB (λds M q x h=>?_) (λaV A outer s H E' hr=>⟨_,(μ (Ζ (Μ (Μ (rM E.dh E.ck (jv 0)) (jv 1)) χ))),λds M q x h=>?_⟩)
 ·obtain ⟨ε,γ,i,r,rfl,_⟩:=h;rfl
 ·obtain ⟨ε,γ,i,r,rfl,hi,h⟩:=h;refine ⟨_,_,_,.inl rfl,rfl,?_⟩;walk_at "vc";refine Η (xs:=γ.map aU) rfl (Κ (mN hi)) ?_;obtain ⟨e,er⟩:=HM (r:=r);rw [er];exact h
def rX(C:Addr):DF:=λas M q _=>∃ε γ i r,as=[az C ε γ,.int (i:Nat)]/\γ[i]? =some r/\fP r/\q (.loc M.length) (M++[.lst ((Ν r).map eO)])
theorem vz:Ε ["self","place"] ["self","place"] (τ kD):= .of rfl
theorem tO{f:Addr}{fd:FuncData}(F:cI K "doors" "Floor.doors" kD f fd)(E:Ev K mg w Cm){aO:Addr}{aM:FuncData}(Τ:cU P w K mg base 1 Cm "kind" ["self","place"] (mI Cm) aO aM):aq P w K mg base (bV P w) 2 f fd ["self","place"] (cC K (rX Cm)):=by
 refine F.de vz (λds M q x h=>?_) (λaV A outer s H E' hr=>⟨_,(θ (aD (d9 hr (bQ Τ hr ξ (jv 0) (Ρ (jv 1) η)) jx) (μ (Ζ (kq η))) Υ)
   (μ (Ζ (wb E.kn (ι (Μ (Μ (rM E.dh E.ck (jv 0)) (jv 1)) χ) η (hs:=aQ)))))),λds M q x h=>?_⟩)
 ·obtain ⟨ε,γ,i,r,rfl,_⟩:=h;rfl
 ·obtain ⟨ε,γ,i,r,rfl,hi,ro,h⟩:=h;refine ⟨⟨_,_,.inl rfl,rfl⟩,ε,γ,i,r,rfl,hi,?_⟩;cases r with
  |fin p=>exact ⟨λ_=>⟨by decide,h⟩,λz=>(nomatch z)⟩
  |υ k ds=>
   refine ⟨λz=>absurd (of_decide_eq_true z) ro.1,λ_=>?_⟩;refine ⟨_,_,_,.inl rfl,rfl,?_⟩;walk_at "vc";refine Η (xs:=γ.map aU) rfl (Κ (mN hi)) ?_;exact h
def OE(C:Addr):DF:=λas M q _=>∃ε γ i r,as=[az C ε γ,.int (i:Nat)]/\γ[i]? =some r/\fP r/\q (RE r) M
theorem B4:Ε ["self","place"] ["self","place"] (τ ou):= .of rfl
theorem yu{f:Addr}{fd:FuncData}(F:cI K "pay" "Floor.pay" ou f fd)(E:Ev K mg w Cm){aO:Addr}{aM:FuncData}(Τ:cU P w K mg base 1 Cm "kind" ["self","place"] (mI Cm) aO aM):aq P w K mg base (bV P w) 2 f fd ["self","place"] (cC K (OE Cm)):=by
 refine F.de B4 (λds M q x h=>?_) (λaV A outer s H E' hr=>⟨_,(θ (aD (d9 hr (bQ Τ hr ξ (jv 0) (Ρ (jv 1) η)) jx) (μ (Ζ (Μ (Μ (rM E.dh E.ck (jv 0)) (jv 1)) χ))) Υ)
   (μ (Ζ Me))),λds M q x h=>?_⟩)
 ·obtain ⟨ε,γ,i,r,rfl,_⟩:=h;rfl
 ·obtain ⟨ε,γ,i,r,rfl,hi,ro,h⟩:=h;refine ⟨⟨_,_,.inl rfl,rfl⟩,ε,γ,i,r,rfl,hi,?_⟩;cases r with
  |fin p=>
   refine ⟨λ_=>?_,λz=>(nomatch z)⟩;refine ⟨_,_,_,.inl rfl,rfl,?_⟩;walk_at "vc";refine Η (xs:=γ.map aU) rfl (Κ (mN hi)) ?_;exact h
  |υ k ds=>exact ⟨λz=>absurd (of_decide_eq_true z) ro.1,λ_=>h⟩
theorem ky{α:Type}(f:α->Dt):∀(xs ys:List α),(∀x∈xs,x∈ys)->Paired (λx a=>x=f a/\a∈ys) (xs.map f) xs
 |[],_,_=> .nil
 |x::xs,ys,h=> .cons ⟨rfl,h x aae⟩ (ky f xs ys λy hy=>h y (aac _ hy))
theorem cT{M:Ms}{q:DQ}{ds:List Dt}(u:Dt.bF M.length ds)(h:q (.lst ds) M):rP M q (.loc M.length) (M++[.lst ds]):=j3 (.Eh (aah _) (by rw [acd];rfl) (iN.old u)) h
theorem KU{M:Ms}{q:DQ}{ds:List Dt}(u:Dt.bF M.length ds)(h:q (.lst ds) M):yY [.lst ds] M (rP M q):=by show rP M q (.loc M.length) (M++[.lst ds]);exact cT u h
theorem Nx{d:cj}{M:Ms}{q:DQ}(h:q (Ξ d.2.1) M):dF (eO d) (.int 1) M q:=Η (xs:= .int d.1::Ξ d.2.1::d.2.2.map Ξ) rfl (Κ (j:=1) rfl) h
theorem GL{d:cj}{M:Ms}{q:DQ}(h:q (.int d.1) M):dF (eO d) (.int 0) M q:=Η (xs:= .int d.1::Ξ d.2.1::d.2.2.map Ξ) rfl a_ h
theorem NN{k:Str}{e:Dt}{M:Ms}{q:DQ}(h:q e M):dF (.tup [.str k,e]) (.int 1) M q:=Η (xs:=[.str k,e]) rfl (Κ (j:=1) rfl) h
theorem cL{g:Dt->En->(En->Prop)->Prop}{tb:DS}{Dn:k9}(J:List Dt->En->Ms->Prop)
  (step:∀x xs ρ M,J (x::xs) ρ M->(∀ρ M,J xs ρ M->vR g tb Dn xs ρ M)->g x ρ λρ'=>tb {Dn with nx:=vR g tb Dn xs,ct:=vR g tb Dn xs,bk:=Dn.nx} ρ' M)
  (fin:∀ρ M,J [] ρ M->Dn.nx ρ M):∀(xs:List Dt) (ρ:En) (M:Ms),J xs ρ M->vR g tb Dn xs ρ M
 |[],ρ,M,h=>fin _ _ h
 |x::xs,ρ,M,h=>step x xs ρ M h λρ' M' h'=>cL J step fin xs ρ' M' h'
theorem cE{lo:Int}{n:Nat}{x:Dt}{xs:List Dt}(h:x::xs=dU lo n):∃m,n=m+1/\x= .int lo/\xs=dU (lo+1) m:=by
 cases n with
 |zero=>exact nomatch h
 |succ m=>
  unfold dU at h;rw [abv,aaB,aaC] at h;cases h;refine ⟨m,rfl,by simp,?_⟩;unfold dU;apply aaT;intro k _;show Dt.int (lo+((k+1:Nat):Int))=Dt.int (lo+1+(k:Int))
  congr 1
  omega
theorem sY{lo:Int}{n:Nat}{x:Dt}(h:x∈dU lo n):∃k:Nat,k<n/\x= .int (lo+k):=by unfold dU at h;obtain ⟨k,hk,rfl⟩:=aaj.mp h;exact ⟨k,aaW.mp hk,rfl⟩
theorem gD{lo:Int}{n:Nat}:(dU lo n).length=n:=by unfold dU;simp
theorem gc{n:Nat}:∀(xs:List Int),Dt.bF n (xs.map Dt.int)
 |[]=>trivial
 |_::xs=>⟨trivial,gc xs⟩
theorem GK{m:Int}:∀{l:List Int},(∀w∈l,w<=m)->l.sum<=l.length*m
 |[],_=>by simp
 |a::l,h=>by have i:=GK (l:=l) λw hw=>h w (aac _ hw);have:=h a aae;rw [List.sum_cons,aau,abF,Int.add_mul];omega
def qb(aP:Int)(r:Rw):Prop:=fP r/\fh r aP=true
theorem Lz{k:Str}{ds:List cj}{aP:Int}(hk:Β k=true)(hz:1<=ds.length)(XC:ds.length<=6)(hd:∀d∈ds,aH d.1 d.2.1 aP=true)(hs:∀d∈ds,d.2.2=[]/\0<d.2.1.2):qb aP (.υ k ds):=by
 have fd:ai ds aP=true:=by unfold ai;rw [decide_eq_true hz,decide_eq_true XC,abz.mpr hd];rfl
 have ne:k≠"end"/\k≠"chance":=by refine ⟨λz=>?_,λz=>?_⟩ <;> (subst z;exact absurd hk (by decide))
 refine ⟨⟨ne.1,by omega,λz=>absurd z ne.2,λd h=>⟨by rw [(hs d h).1];exact abK _,(hs d h).2⟩⟩,?_⟩;show (if Β k then _ else _)=true;rw [if_pos hk];exact fd
theorem Fd{ds:List cj}{aP:Int}(hz:1<=ds.length)(XC:ds.length<=6)(hd:∀d∈ds,aH d.1 d.2.1 aP=true)(h1:∀d∈ds,d.2.2=[ω d])(hc:aj (ds.map ω)=true)(ho:Pz (ds.map ω))(hp:∀d∈ds,0<d.2.1.2):qb aP (.υ "chance" ds):=by
 have fd:ai ds aP=true:=by unfold ai;rw [decide_eq_true hz,decide_eq_true XC,abz.mpr hd];rfl
 refine ⟨⟨by decide,by omega,λ_=>⟨h1,ho⟩,λd h=>⟨by rw [h1 d h];exact aah _,hp d h⟩⟩,?_⟩;have e:fh (.υ "chance" ds) aP=(ai ds aP&&aj (ds.map ω)):=by dsimp only [fh];rw [if_neg (by decide),if_pos rfl]
 rw [e,fd,hc];rfl
theorem MB{t aP:Int}{p:Fr}(h0:0<=t)(h1:t<aP)(hp:bx p=true):aH t p aP=true:=by unfold aH;rw [decide_eq_true h0,decide_eq_true h1,hp];rfl
theorem fK{xs:List Int}{j:Nat}(h:j<xs.length):nE (xs.map Dt.int) (j:Int)=some (.int xs[j]):=Κ (by rw [aam,aaa h];rfl)
theorem CL:∀{l:List Int},(∀w∈l,0<w)->l≠[]->0<l.sum
 |[],_,z=>absurd rfl z
 |[a],h,_=>by have:=h a List.mem_cons_self;simpa using this
 |a::b::l,h,_=>by have i:=CL (l:=b::l) (λw hw=>h w (List.mem_cons_of_mem _ hw)) (by simp);have:=h a aae;rw [List.sum_cons];omega
def Sz(k:Nat)(p:Fr):Prop:=p.1.natAbs<2^k/\0<p.2/\p.2.natAbs<2^k
def fQ(p q:Fr):Fr:=aw (p.1*q.2+q.1*p.2) (p.2*q.2)
def aZ(p q:Fr):Fr:=aw (p.1*q.1) (p.2*q.2)
def cM(p q:Fr):Bool:=decide (p.1*q.2<q.1*p.2)
theorem qg{k k':Nat}{p:Fr}(h:Sz k p)(hk:k<=k'):Sz k' p:=
 ⟨aap h.1 (abQ (by decide) hk),h.2.1,aap h.2.2 (abQ (by decide) hk)⟩
theorem cw{a b k l:Nat}(h:a<2^k)(h':b<2^l):a*b<2^(k+l):=by rw [Nat.pow_add];exact Nat.mul_lt_mul'' h h'
theorem C1{t b:Int}{k:Nat}(hb:0<b)(h1:t.natAbs<2^k)(h2:b.natAbs<2^k):Sz k (aw t b):=
 ⟨aaK (qV (by omega)) h1,cB (by omega),aaK (jT (by omega)) h2⟩
theorem uE{p q:Fr}{k l:Nat}(hp:Sz k p)(hq:Sz l q):(p.1*q.2+q.1*p.2).natAbs<2^(k+l+1)/\(p.2*q.2).natAbs<2^(k+l+1)/\0<p.2*q.2:=by
 have a:=cw hp.1 hq.2.2;have b:=cw hq.1 hp.2.2;have c:=cw hp.2.2 hq.2.2;rw [Nat.add_comm l k] at b;have e:(2:Nat)^(k+l+1)=2^(k+l)+2^(k+l):=by rw [Nat.pow_succ];omega
 have hn:=Int.natAbs_add_le (p.1*q.2) (q.1*p.2);rw [aaZ,aaZ] at hn;refine ⟨by rw [e];omega,?_,aaH hp.2.1 hq.2.1⟩;rw [aaZ,e];omega
theorem L_{p q:Fr}{k l:Nat}(hp:Sz k p)(hq:Sz l q):Sz (k+l+1) (fQ p q):=
 let ⟨a,b,c⟩:=uE hp hq
 C1 c a b
theorem sk{p q:Fr}{k l:Nat}(hp:Sz k p)(hq:Sz l q):(p.1*q.1).natAbs<2^(k+l)/\(p.2*q.2).natAbs<2^(k+l)/\0<p.2*q.2:=by have a:=cw hp.1 hq.1;have c:=cw hp.2.2 hq.2.2;exact ⟨by rw [aaZ];exact a,by rw [aaZ];exact c,aaH hp.2.1 hq.2.1⟩
theorem yy{p q:Fr}{k l:Nat}(hp:Sz k p)(hq:Sz l q):Sz (k+l) (aZ p q):=
 let ⟨a,b,c⟩:=sk hp hq
 C1 c a b
theorem fT{p:Fr}{k:Nat}(h:Sz k p)(hk:k<=8000):iw p.1:=bg h.1 hk
theorem c7{p:Fr}{k:Nat}(h:Sz k p)(hk:k<=8000):iw p.2:=bg h.2.2 hk
theorem OF{p:Fr}(h:bx p=true)(h0:0<p.2):Sz 101 p:=by
 unfold bx at h;rw [aar,decide_eq_true_iff,decide_eq_true_iff] at h;obtain ⟨h1,h2⟩:=h;have e1:(10:Int)^30<2^101:=by decide
 have n1:(p.1.natAbs:Int)<=10^30:=by split at h1 <;> omega
 refine ⟨?_,h0,?_⟩
 ·have:(p.1.natAbs:Int)<((2^101:Nat):Int):=aaw n1 (by decide);exact abr.mp this
 ·have:(p.2.natAbs:Int)<((2^101:Nat):Int):=aaw (show (p.2.natAbs:Int)<=1000000 by omega) (by decide);exact abr.mp this
theorem mZ{p:Fr}(h:aT p=true):Sz 11 p:=by unfold aT at h;rw [aar,aar,decide_eq_true_iff,decide_eq_true_iff,decide_eq_true_iff] at h;obtain ⟨h1,h2,h3⟩:=h;exact ⟨by omega,by omega,by omega⟩
theorem DC{p:Fr}{M:Ms}{q:DQ}(h:q (.int p.1) M):dF (Ξ p) (.int 0) M q:=Η (xs:=[.int p.1,.int p.2]) rfl a_ h
theorem yT{p:Fr}{M:Ms}{q:DQ}(h:q (.int p.2) M):dF (Ξ p) (.int 1) M q:=Η (xs:=[.int p.1,.int p.2]) rfl (Κ (j:=1) rfl) h
def Hs:DF:=λas M q _=>∃p r k l,as=[Ξ p,Ξ r]/\Sz k p/\Sz l r/\k+l+1<=8000/\q (Ξ (fQ p r)) M
theorem O9:Ε ["one","other"] ["one","other"] (τ Hg):= .of rfl
theorem Mi{f:Addr}{fd:FuncData}(F:cI K "plus" "plus" Hg f fd)(E:Ev K mg w Cm){e6:Addr}{e9:FuncData}(bj:av P w K mg base 2 "fraction" ["top","bottom"] sD e6 e9):aq P w K mg base (bV P w) 3 f fd ["one","other"] (cC K Hs):=by
 refine F.de O9 (λds M q x h=>?_) (λaV A outer s H E' hr=>⟨_,(μ (Ζ (ae bj hr ξ (ι (cG (aL (Μ (jv 0) χ) (Μ (jv 1) χ)) (aL (Μ (jv 1) χ) (Μ (jv 0) χ))) (ι (aL (Μ (jv 0) χ) (Μ (jv 1) χ)) η (hs:=bY)) (hs:=bY))))),λds M q x h=>?_⟩)
 ·obtain ⟨p,r,k,l,rfl,_⟩:=h;rfl
 ·obtain ⟨p,r,k,l,rfl,hp,g7,hk,h⟩:=h;obtain ⟨a,b,c⟩:=uE hp g7;refine ⟨⟨fT hp (by omega),c7 g7 (by omega)⟩,⟨fT g7 (by omega),c7 hp (by omega)⟩,⟨c7 hp (by omega),c7 g7 (by omega)⟩,bg b hk,λz=>absurd z (by omega),λ_=>h⟩
def vv:DF:=λas M q _=>∃p r k l,as=[Ξ p,Ξ r]/\Sz k p/\Sz l r/\k+l+1<=8000/\q (Ξ (aZ p r)) M
theorem MG:Ε ["one","other"] ["one","other"] (τ BA):= .of rfl
theorem Kb{f:Addr}{fd:FuncData}(F:cI K "times" "times" BA f fd)(E:Ev K mg w Cm){e6:Addr}{e9:FuncData}(bj:av P w K mg base 2 "fraction" ["top","bottom"] sD e6 e9):aq P w K mg base (bV P w) 3 f fd ["one","other"] (cC K vv):=by
 refine F.de MG (λds M q x h=>?_) (λaV A outer s H E' hr=>⟨_,(μ (Ζ (ae bj hr ξ (ι (aL (Μ (jv 0) χ) (Μ (jv 1) χ)) (ι (aL (Μ (jv 0) χ) (Μ (jv 1) χ)) η (hs:=bY)) (hs:=bY))))),λds M q x h=>?_⟩)
 ·obtain ⟨p,r,k,l,rfl,_⟩:=h;rfl
 ·obtain ⟨p,r,k,l,rfl,hp,g7,hk,h⟩:=h;obtain ⟨a,b,c⟩:=sk hp g7;refine ⟨⟨fT hp (by omega),fT g7 (by omega)⟩,⟨c7 hp (by omega),c7 g7 (by omega)⟩,bg b (by omega),λz=>absurd z (by omega),λ_=>h⟩
def ip(p q:Fr):Fr:=aw (p.1*q.2-q.1*p.2) (p.2*q.2)
theorem AY{p q:Fr}{k l:Nat}(hp:Sz k p)(hq:Sz l q):(p.1*q.2-q.1*p.2).natAbs<2^(k+l+1)/\(p.2*q.2).natAbs<2^(k+l+1)/\0<p.2*q.2:=by
 have a:=cw hp.1 hq.2.2;have b:=cw hq.1 hp.2.2;have c:=cw hp.2.2 hq.2.2;rw [Nat.add_comm l k] at b;have e:(2:Nat)^(k+l+1)=2^(k+l)+2^(k+l):=by rw [Nat.pow_succ];omega
 have hn:(p.1*q.2-q.1*p.2).natAbs<=(p.1*q.2).natAbs+(q.1*p.2).natAbs:=by omega
 rw [aaZ,aaZ] at hn;refine ⟨by rw [e];omega,?_,aaH hp.2.1 hq.2.1⟩;rw [aaZ,e];omega
def Hf:DF:=λas M q _=>∃p r k l,as=[Ξ p,Ξ r]/\Sz k p/\Sz l r/\k+l+1<=8000/\q (Ξ (ip p r)) M
theorem Mb:Ε ["one","other"] ["one","other"] (τ BC):= .of rfl
theorem IE{f:Addr}{fd:FuncData}(F:cI K "minus" "minus" BC f fd)(E:Ev K mg w Cm){e6:Addr}{e9:FuncData}(bj:av P w K mg base 2 "fraction" ["top","bottom"] sD e6 e9):aq P w K mg base (bV P w) 3 f fd ["one","other"] (cC K Hf):=by
 refine F.de Mb (λds M q x h=>?_) (λaV A outer s H E' hr=>⟨_,(μ (Ζ (ae bj hr ξ (ι (yx (aL (Μ (jv 0) χ) (Μ (jv 1) χ)) (aL (Μ (jv 1) χ) (Μ (jv 0) χ))) (ι (aL (Μ (jv 0) χ) (Μ (jv 1) χ)) η (hs:=bY)) (hs:=bY))))),λds M q x h=>?_⟩)
 ·obtain ⟨p,r,k,l,rfl,_⟩:=h;rfl
 ·obtain ⟨p,r,k,l,rfl,hp,g7,hk,h⟩:=h;obtain ⟨a,b,c⟩:=AY hp g7;refine ⟨⟨fT hp (by omega),c7 g7 (by omega)⟩,⟨fT g7 (by omega),c7 hp (by omega)⟩,⟨c7 hp (by omega),c7 g7 (by omega)⟩,bg b hk,λz=>absurd z (by omega),λ_=>h⟩
def lI(B:Int)(c:Fr):Int:=c.1*(B/c.2)
structure IU(cs:List Fr):Prop where
 pos:∀c∈cs,0<lI (bG cs) c
 sum:(cs.map (lI (bG cs))).sum=bG cs
 b0:0<bG cs
 b1:bG cs<=1000000
 ne:cs≠[]
 Kx:Pz cs
theorem Sv{cs:List Fr}(h:aj cs=true)(o:Pz cs)(n:cs≠[]):IU cs:=by
 unfold aj at h;rw [aar,aar,decide_eq_true_iff,decide_eq_true_iff,Bool.not_eq_true'] at h;obtain ⟨h1,h2,h3⟩:=h;have B0:0<bG cs:=fo cs 1 (by decide) λc hc=>(o.2 c hc).1;obtain ⟨_,_,hB⟩:=iJ cs 1 0 (by decide) (ace _) λc hc=>⟨(o.2 c hc).1,ace _⟩;refine ⟨λc hc=>?_,h2,B0,h3,n,o⟩;have c1:0<c.1:=by have:=List.any_eq_false.mp h1 c hc;simpa using this
 exact aaH c1 (Int.ediv_pos_of_pos_of_dvd B0 (aai (o.2 c hc).1) (hB c hc))
def val(p:Fr):Rat:=(p.1:Rat)/(p.2:Rat)
structure Red(p:Fr):Prop where
 pos:0<p.2
 low:Int.gcd p.1 p.2=1
theorem bc{b:Int}(h:b≠0):(b:Rat)≠0:=λz=>h (Rat.intCast_eq_zero_iff.mp z)
theorem MY{a b c d:Int}(h:a*b=c*d):(a:Rat)*b=c*d:=by rw [<-aaD,<-aaD,h]
theorem cy{t b:Int}(h:b≠0):Red (aw t b):=⟨cB h,x6 h⟩
theorem j2{t b:Int}(h:b≠0):val (aw t b)=(t:Rat)/(b:Rat):=by
 have hq:=cB (t:=t) h;have hx:=MY (cv (t:=t) h);have h1:=bc h;have h2:=bc (show (aw t b).2≠0 by omega);unfold val;generalize ((aw t b).1:Rat)=x at *
 generalize ((aw t b).2:Rat)=y at *
 generalize (t:Rat)=t' at *
 generalize (b:Rat)=b' at *
 grind
theorem xR{p q:Fr}(hp:Red p)(hq:Red q)(h:val p=val q):p=q:=by
 have h1:=bc (show p.2≠0 by have:=hp.pos;omega);have h2:=bc (show q.2≠0 by have:=hq.pos;omega);have e:p.1*q.2=p.2*q.1:=by
  unfold val at h;have e1:(p.1:Rat)*(q.2:Rat)=(p.2:Rat)*(q.1:Rat):=by
   generalize (p.1:Rat)=a at *
   generalize (p.2:Rat)=b at *
   generalize (q.1:Rat)=c at *
   generalize (q.2:Rat)=d at *
   grind
  rw [<-aaD,<-aaD] at e1;exact Rat.intCast_inj.mp e1
 have a:=xu (show p.2≠0 by have:=hp.pos;omega) hq.pos hq.low e;have b:=uS hp.pos hp.low;rw [<-Prod.eta p,<-b,a]
theorem yM{p q:Fr}(hp:0<p.2)(hq:0<q.2):val (fQ p q)=val p+val q:=by
 unfold fQ;rw [j2 (abb (aaH hp hq))];have h1:=bc (show p.2≠0 by omega);have h2:=bc (show q.2≠0 by omega);rw [Rat.intCast_add,aaD,aaD,aaD];unfold val;generalize (p.1:Rat)=a at *
 generalize (p.2:Rat)=b at *
 generalize (q.1:Rat)=c at *
 generalize (q.2:Rat)=d at *
 grind
theorem oo{p q:Fr}(hp:0<p.2)(hq:0<q.2):val (aZ p q)=val p*val q:=by
 unfold aZ;rw [j2 (abb (aaH hp hq))];have h1:=bc (show p.2≠0 by omega);have h2:=bc (show q.2≠0 by omega);rw [aaD,aaD];unfold val;generalize (p.1:Rat)=a at *
 generalize (p.2:Rat)=b at *
 generalize (q.1:Rat)=c at *
 generalize (q.2:Rat)=d at *
 grind
def g9(p:Fr)(E:Int):Prop:=∃N,p.1*E=N*p.2
theorem oy{t b E N:Int}(h:b≠0)(e:t*E=N*b):g9 (aw t b) E:=by
 have hx:=cv (t:=t) h;generalize hf:aw t b=f at *
 obtain ⟨x,y⟩:=f;refine ⟨N,?_⟩;show x*E=N*y;have hx:t*y=b*x:=hx;have:b*(x*E)=b*(N*y):=by grind
 exact aaG h this
theorem Ac{p:Fr}{E:Int}(k:Int)(h:g9 p E):g9 p (E*k):=by obtain ⟨N,e⟩:=h;exact ⟨N*k,by grind⟩
theorem Gd(p:Fr):g9 p p.2:=⟨p.1,rfl⟩
theorem Gj{p q:Fr}{E:Int}(hp:0<p.2)(hq:0<q.2)(h:g9 p E)(h':g9 q E):g9 (fQ p q) E:=by obtain ⟨N,e⟩:=h;obtain ⟨N',e'⟩:=h';unfold fQ;exact oy (N:=N+N') (Int.ne_of_gt (Int.mul_pos hp hq)) (by grind)
theorem rW{p q:Fr}{E F:Int}(hp:0<p.2)(hq:0<q.2)(h:g9 p E)(h':g9 q F):g9 (aZ p q) (E*F):=by obtain ⟨N,e⟩:=h;obtain ⟨N',e'⟩:=h';unfold aZ;exact oy (N:=N*N') (Int.ne_of_gt (Int.mul_pos hp hq)) (by grind)
theorem w_{p:Fr}{E:Int}(hp:Red p)(h:g9 p E):p.2∣E:=by
 obtain ⟨N,e⟩:=h;have d:p.2∣p.1*E:=⟨N,by rw [e,aaR]⟩;have d2:p.2.natAbs∣p.1.natAbs*E.natAbs:=by rw [<-aaZ];exact Int.natAbs_dvd_natAbs.mpr d
 have co:Nat.Coprime p.2.natAbs p.1.natAbs:=by have:=hp.low;unfold Int.gcd at this;rw [Nat.coprime_comm];exact this
 exact Int.natAbs_dvd_natAbs.mp (co.dvd_of_dvd_mul_left d2)
def d7(p:Fr)(C:Int):Prop:=p.1<=p.2*C/\ -(p.2*C)<=p.1
theorem nA{t b C:Int}(h:0<b)(h1:t<=b*C)(h2: -(b*C)<=t):d7 (aw t b) C:=by
 have hx:=cv (t:=t) (show b≠0 by omega);have hq:=cB (t:=t) (show b≠0 by omega);generalize hf:aw t b=f at *
 obtain ⟨x,y⟩:=f;have hx:t*y=b*x:=hx;have hq:0<y:=hq;constructor
 ·show x<=y*C;have:=aaA h1 (aai hq);rw [hx] at this;have e:b*C*y=b*(y*C):=by grind
  rw [e] at this;exact abS this h
 ·show -(y*C)<=x;have:=aaA h2 (aai hq);rw [hx] at this;have e: -(b*C)*y=b*(-(y*C)):=by grind
  rw [e] at this;exact abS this h
theorem bX{a b c:Int}(h:a<=b)(hc:0<=c):a*c<=b*c:=aaA h hc
theorem HY{p q:Fr}{C D:Int}(hp:0<p.2)(hq:0<q.2)(h:d7 p C)(h':d7 q D):d7 (fQ p q) (C+D):=by
 unfold fQ;have a:=bX h.1 (aai hq);have b:=bX h'.1 (aai hp);have c:=bX h.2 (aai hq);have d:=bX h'.2 (aai hp);refine nA (aaH hp hq) ?_ ?_
 ·have e:p.2*q.2*(C+D)=p.2*C*q.2+q.2*D*p.2:=by grind
  omega
 ·have e: -(p.2*q.2*(C+D))= -(p.2*C)*q.2+ -(q.2*D)*p.2:=by grind
  omega
def gG(c:Fr):Prop:=0<=c.1/\c.1<=c.2
theorem Fj{c p:Fr}{C:Int}(hc:0<c.2)(hp:0<p.2)(u:gG c)(h:d7 p C)(hC:0<=C):d7 (aZ c p) C:=by
 unfold aZ;have pc:0<=p.2*C:=aaY (aai hp) hC;have a:=bX h.1 u.1;have b:=bX u.2 pc;have c':=bX h.2 u.1;refine nA (aaH hc hp) ?_ ?_
 ·have e:c.2*p.2*C=c.2*(p.2*C):=by grind
  have e1:c.1*p.1=p.1*c.1:=aaR ..;have e2:p.2*C*c.1=c.1*(p.2*C):=aaR ..;omega
 ·have e: -(c.2*p.2*C)= -(c.2*(p.2*C)):=by grind
  have e1:c.1*p.1=p.1*c.1:=aaR ..;have e2: -(p.2*C)*c.1= -(c.1*(p.2*C)):=by grind
  omega
theorem Bl{c s:Fr}(hc:0<c.2)(hs:0<s.2)(u:gG c)(v:gG s):gG (aZ c s):=by
 unfold aZ;have hx:=cv (t:=c.1*s.1) (abb (aaH hc hs));have hq:=cB (t:=c.1*s.1) (abb (aaH hc hs));have t0:0<=c.1*s.1:=aaY u.1 v.1
 have t1:c.1*s.1<=c.2*s.2:=abf (bX u.2 v.1) (by
  have:=bX v.2 (aai hc)
  rw [aaR c.2 s.1,aaR c.2 s.2];exact this)
 have bp:=aaH hc hs;generalize c.1*s.1=t at *
 generalize c.2*s.2=b at *
 generalize hf:aw t b=f at *
 obtain ⟨x,y⟩:=f;have hx:t*y=b*x:=hx;have hq:0<y:=hq;constructor
 ·show 0<=x;rcases abZ x 0 with z|z
  ·have:=abC bp z;have:=aaY t0 (aai hq);omega
  ·exact z
 ·show x<=y;have:=bX t1 (aai hq);rw [hx] at this;exact abS this bp
theorem Nn{p:Fr}{E C:Int}{k m:Nat}(r:Red p)(h:g9 p E)(e0:0<E)(e1:E<2^k)(a:d7 p C)(c0:0<=C)(c1:C<2^m):Sz (k+m) p:=by
 have d:=abN e0 (w_ r h);have rp:=r.pos;have b1:p.2.natAbs<2^k:=by
  have:(p.2.natAbs:Int)<((2^k:Nat):Int):=by rw [aa0 (aai rp)];exact aaw d (by exact_mod_cast e1)
  exact abr.mp this
 have b2:C.natAbs<2^m:=by
  have:(C.natAbs:Int)<((2^m:Nat):Int):=by
   rw [aa0 c0]
   exact_mod_cast c1
  exact abr.mp this
 have b3:=cw b1 b2;refine ⟨?_,rp,aap b1 (abQ (by decide) (aby _ _))⟩;refine aaK ?_ b3;rw [<-aaZ];have q0:0<=p.2*C:=aaY (aai rp) c0;have:=a.1;have:=a.2;omega
theorem NO{cs:List Fr}{j:Nat}(h:j<cs.length):nE (cs.map Ξ) (j:Int)=some (Ξ cs[j]):=Κ (by rw [aam,aaa h];rfl)
theorem SJ{ds:List cj}{j:Nat}(h:j<ds.length):nE (ds.map eO) (j:Int)=some (eO ds[j]):=Κ (by rw [aam,aaa h];rfl)
structure OT(ε:Fr)(γ:List Rw):Prop where
 sh:aT ε=true
 len:γ.length<=12
 row:∀r∈γ,fP r/\fh r γ.length=true
structure Tv(γ:List Rw)(k:Str)(ds:List cj):Prop where
 ro:fP (.υ k ds)
 l1:1<=ds.length
 l6:ds.length<=6
 kd:Β k=true\/(Β k=false/\k="chance"/\IU (ds.map ω))
 to:∀d∈ds,0<=d.1/\d.1<γ.length
 py:∀d∈ds,bx d.2.1=true/\0<d.2.1.2
theorem et{ε:Fr}{γ:List Rw}{k:Str}{ds:List cj}(f:OT ε γ)(h:Rw.υ k ds∈γ):Tv γ k ds:=by
 obtain ⟨ro,h2⟩:=f.row _ h;have h2:(if Β k then ai ds γ.length else if k="chance" then ai ds γ.length&&aj (ds.map ω) else false)=true:=h2;have key:ai ds γ.length=true/\(Β k=true\/(Β k=false/\k="chance"/\aj (ds.map ω)=true)):=by
  by_cases hk:Β k=true
  ·rw [if_pos hk] at h2;exact ⟨h2,.inl hk⟩
  ·rw [if_neg hk] at h2;by_cases hc:k="chance"
   ·rw [if_pos hc,Bool.and_eq_true] at h2;exact ⟨h2.1,.inr ⟨by simpa using hk,hc,h2.2⟩⟩
   ·rw [if_neg hc] at h2;cases h2
 obtain ⟨fd,hk⟩:=key;unfold ai at fd;rw [aar,aar,decide_eq_true_iff,decide_eq_true_iff] at fd;obtain ⟨⟨d1,d6⟩,fa⟩:=fd;have each:∀d∈ds,0<=d.1/\d.1<γ.length/\bx d.2.1=true:=λd hd=>by have h3:=abz.mp fa d hd;unfold aH at h3;rw [aar,aar,decide_eq_true_iff,decide_eq_true_iff] at h3;exact ⟨h3.1,h3.2.1,h3.2.2⟩
 refine ⟨ro,d1,d6,?_,λd hd=>⟨(each d hd).1,(each d hd).2.1⟩,λd hd=>⟨(each d hd).2.2,(ro.2.2.2 d hd).2⟩⟩;rcases hk with hk|⟨hk,hc,hf⟩
 ·exact .inl hk
 ·refine .inr ⟨hk,hc,Sv hf (ro.2.2.1 hc).2 λz=>?_⟩;have:=congrArg List.length z;rw [aad] at this;have:ds.length=0:=this;omega
theorem DR{α:Type}(xs:List α)(a:α)(f:α->Dt):(dU 0 xs.length).map (λx=>match x with|.int j=>f (xs.getD j.toNat a)|_=> .bq)=xs.map f:=by
 unfold dU;rw [aaC];apply aa4
 ·simp
 ·intro i h1 h2;simp only [List.getElem_map,List.getElem_range,Function.comp];rw [show (0+(i:Int)).toNat=i by omega];have hi:i<xs.length:=by simpa using h2
  rw [aab,aaa hi];rfl
abbrev d0:cj:=(0,(0,1),[])
def s_(tb:List Fr)(t:Int):Fr:=tb.getD t.toNat (0,1)
def aa(ε:Fr)(tb:List Fr)(d:cj):Fr:=fQ d.2.1 (aZ ε (s_ tb d.1))
def h8(ps:List (Fr×Fr)):Fr:=ps.foldl (λw p=>fQ w (aZ p.1 p.2)) (0,1)
structure Nb(E C:Int)(p:Fr):Prop where
 pos:0<p.2
 he:g9 p E
 ab:d7 p C
 sz:Sz 2600 p
structure Bd(E C:Int):Prop where
 e0:0<E
 e1:E<2^2200
 c0:0<=C
 c1:C<2^400
theorem Jx{E C:Int}{p:Fr}(r:Red p)(h:g9 p E)(a:d7 p C)(b:Bd E C):Nb E C p:=⟨r.pos,h,a,Nn (k:=2200) (m:=400) r h b.e0 b.e1 a b.c0 b.c1⟩
theorem Lq{E C D:Int}{p q:Fr}(h:Nb E C p)(h':Nb E D q)(b:Bd E (C+D)):Nb E (C+D) (fQ p q):=Jx (cy (abb (aaH h.pos h'.pos))) (Gj h.pos h'.pos h.he h'.he) (HY h.pos h'.pos h.ab h'.ab) b
theorem zk{E F C:Int}{c p:Fr}(c0:0<c.2)(hc:g9 c F)(u:gG c)(h:Nb E C p)(b:Bd (F*E) C):Nb (F*E) C (aZ c p):=Jx (cy (abb (aaH c0 h.pos))) (rW c0 h.pos hc h.he) (Fj c0 h.pos u h.ab b.c0) b
theorem Ow{p:Fr}{C D:Int}(h0:0<p.2)(h:d7 p C)(hd:C<=D):d7 p D:=by have:=aan hd (aai h0);obtain ⟨a,b⟩:=h;exact ⟨by omega,by omega⟩
theorem Ti{E:Int}:Nb E 0 (0,1):=⟨by decide,⟨0,by simp⟩,⟨by decide,by decide⟩,qg (k:=1) ⟨by decide,by decide,by decide⟩ (by decide)⟩
theorem IS{p:Fr}(h:aT p=true):0<p.2/\p.2<=1000/\gG p:=by unfold aT at h;rw [aar,aar,decide_eq_true_iff,decide_eq_true_iff,decide_eq_true_iff] at h;obtain ⟨h1,h2,h3⟩:=h;exact ⟨by omega,h3,h1,by omega⟩
theorem wz{n p:Nat}(h:p<n):Jp n (p:Int)=some p:=by unfold Jp;rw [if_pos (by omega),if_pos (by omega),abt]
theorem J'{M:Ms}{d:Dt}{xs:List Dt}(h:z7 M d=some xs):jU M d=some xs:=by cases d <;> first|exact h|cases h
theorem GI{M:Ms}{d:Dt}{xs:List Dt}(h:z7 M d=some xs):lJ M d=some xs:=by cases d <;> first|exact h|cases h
theorem Ew{M:Ms}{d:Dt}{xs:List Dt}(h:z7 M d=some xs):CU M d=some (.type "list"):=by
 cases d with
 |lst ds=>rfl
 |loc k=>
  have h:(match M[k]? with|some (.lst xs)=>some xs|_=>none)=some xs:=h;show (match M[k]? with|some (.lst _)=>some (Value.type "list")|_=>none)=_;split at h
  ·rfl
  ·cases h
 |_=>cases h
theorem aI{M:Ms}{o:MO}:(M++[o])[M.length]? =some o:=by simp
theorem kI{M:Ms}{k:Nat}{xs:List Dt}(h:M[k]? =some (MO.lst xs)):z7 M (.loc k)=some xs:=by show (match M[k]? with|some (MO.lst xs)=>some xs|_=>none)=some xs;rw [h]
theorem dE{M:Ms}{a c:MO}:(M++[a]).set M.length c=M++[c]:=by simp [List.set_append]
theorem Om{M E:Ms}{o:MO}:(M++o::E)[M.length]? =some o:=by simp
theorem LD{M E:Ms}{o c:MO}:(M++o::E).set M.length c=M++c::E:=by simp [List.set_append]
abbrev b9(l:List Int):Dt:= .lst (l.map Dt.int)
abbrev jI(ls:List (List Int)):Dt:= .lst (ls.map b9)
theorem CF{ls:List (List Int)}{j:Nat}(h:j<ls.length):nE (ls.map b9) (j:Int)=some (b9 ls[j]):=Κ (by rw [aam,aaa h];rfl)
theorem ji{n:Nat}:∀(ls:List (List Int)),Dt.bF n (ls.map b9)
 |[]=>trivial
 |l::ls=>⟨gc l,ji ls⟩
abbrev cQ:=Bz.cQ
theorem x_{n i:Nat}(h:i<n):((List.replicate (n:Int).toNat [Dt.int 0]).flatten).set i (Dt.int 1)=(cQ n i).map Dt.int:=by
 have e:(List.replicate (n:Int).toNat [Dt.int 0]).flatten=List.replicate n (Dt.int 0):=by
  rw [show ((n:Int)).toNat=n by omega];clear h
  induction n with
  |zero=>rfl
  |succ n ih=>rw [aa3,abh,ih];rfl
 rw [e];unfold cQ Bz.cQ;apply aa4
 ·simp
 ·intro j h1 h2;rw [List.getElem_set];simp only [List.getElem_replicate,List.getElem_map,List.getElem_range,Bz.ind];split <;> rfl
def Nk:DF:=λas M q _=>∃γ:List (List Int),as=[jI γ]/\γ.length<=12/\(∀r∈γ,r.length<=13)/\∀E,q (.loc M.length) (M++MO.lst (((List.range γ.length).map λi=>γ.getD i []++cQ γ.length i).map b9)::E)
theorem dq:Ε ["rows","told","number","row","weights"] ["rows"] (τ js):= .of rfl
theorem rR{f:Addr}{fd:FuncData}(F:cI K "with_weights" "with_weights" js f fd)(E:Ev K mg w Cm):aq P w K mg base (bV P w) 1 f fd ["rows"] (cC K Nk):=by
 refine F.de dq (λds M q x h=>?_) (λaV A outer s H E' hr=>⟨_,(θ (Γ 1 dq.nd (kq η))
   (θ (dw (xc E.dY (Ρ (jv 0) η)) (nP rfl (cz (ax (i:=2) dq.nd rfl (Or.inl rfl)) (cz (ax (i:=3) dq.nd rfl (Or.inl rfl)) kK))) oi (θ (Γ 4 dq.nd (A6 (eE 3 (d:= .lst [.int 0]) (by rfl)) (bU E.bo (Ρ (jv 0) η))))
   (θ (mR (jv 4) (jv 2) χ)
   (μ (eh (fC (jv 1) (ι (ma (jv 3) (jv 4)) η (hs:=bY))))))))
   (μ (Ζ (jv 1))))),λds M q x h=>?_⟩)
 ·obtain ⟨γ,rfl,_⟩:=h;rfl
 ·obtain ⟨γ,rfl,r12,r13,h⟩:=h;refine ⟨by decide,?_⟩;refine ⟨jI γ,γ.map b9,λ_=>True,rfl,rfl,?_⟩;refine bZ (λxs ρ M'=>∃(k:Nat) (rest:List (List Int)) (E:Ms) (o1 o2 o3:Option Dt),xs=iO k (rest.map b9)/\γ.drop k=rest/\k<=γ.length/\M'=M++MO.lst (((List.range k).map λi=>γ.getD i []++cQ γ.length i).map b9)::E/\ρ=[some (jI γ),some (.loc M.length),o1,o2,o3]) (λxs ρ M' hj=>trivial) (λx xs ρ M' hj fH=>?_) (λρ M' hj=>?_) _ _ _ ⟨0,γ,[],none,none,none,rfl,rfl,abK _,rfl,rfl⟩
  ·obtain ⟨k,rest,E,o1,o2,o3,ex,hd,hk,rfl,rfl⟩:=hj;cases rest with
   |nil=>cases ex
   |cons r rest=>
    cases ex;have tm:k<γ.length:=by
     rcases Nat.lt_or_ge k γ.length with z|z
     ·exact z
     ·rw [List.drop_of_length_le z] at hd;cases hd
    have rk:γ[k]=r:=by have:=aa7 tm;rw [hd] at this;exact (List.cons.inj this).1.symm
    have rg:γ.getD k []=r:=by rw [aab,aaa tm,rk];rfl
    have ac8:=r13 r (by rw [<-rk];exact aax tm);have LX:γ.drop (k+1)=rest:=by have:=aa7 tm;rw [hd] at this;exact (List.cons.inj this).2.symm
    dsimp only [g2];walk_at "vc";refine (au (d:=jI γ) (xs:=γ.map b9) rfl ?_:eZ [jI γ] _ _);rw [aad];refine ⟨[.int 0],γ.length,rfl,rfl,by omega,by omega,?_,?_⟩
    ·show 1*((γ.length:Int)).toNat<=sizeLine;exact aaq (show _<=12 by omega) (by decide)
    generalize hM2:M++MO.lst (((List.range k).map λi=>γ.getD i []++cQ γ.length i).map b9)::E=M2;refine ⟨M2.length,k,_,k,rfl,rfl,aI,?_,?_⟩
    ·have:((List.replicate (γ.length:Int).toNat [Dt.int 0]).flatten).length=γ.length:=by have:=congrArg List.length (x_ tm);rw [aa2,aad] at this;rw [this];unfold cQ Bz.cQ;simp
     rw [this];exact wz tm
    rw [dE,x_ tm];subst hM2;have eM:(M++MO.lst (((List.range k).map λi=>γ.getD i []++cQ γ.length i).map b9)::E)++[MO.lst ((cQ γ.length k).map Dt.int)]=M++MO.lst (((List.range k).map λi=>γ.getD i []++cQ γ.length i).map b9)::(E++[MO.lst ((cQ γ.length k).map Dt.int)]):=by simp
    have ZJ:((M++MO.lst (((List.range k).map λi=>γ.getD i []++cQ γ.length i).map b9)::E)++[MO.lst ((cQ γ.length k).map Dt.int)])[M.length]? =some (.lst (((List.range k).map λi=>γ.getD i []++cQ γ.length i).map b9)):=by rw [eM];exact Om
    refine ⟨⟨M.length,_,rfl,ZJ⟩,r.map Dt.int,(cQ γ.length k).map Dt.int,rfl,kI aI,?_,M.length,_,_,rfl,rfl,ZJ,?_,?_⟩
    ·rw [aad,aad];unfold cQ Bz.cQ;rw [aad,aaM];exact aaq (show _<=30 by omega) (by decide)
    ·rw [aad,aad,aaM];exact aaK (show k<=12 by omega) (by decide)
    rw [eM,LD];refine fH _ _ ⟨k+1,rest,E++[MO.lst ((cQ γ.length k).map Dt.int)],_,_,_,rfl,LX,tm,?_,rfl⟩;rw [List.range_succ,aaS,aaS];simp only [List.map_cons,List.map_nil];rw [rg,<-aaS]
  ·obtain ⟨k,rest,E,o1,o2,o3,ex,hd,hk,rfl,rfl⟩:=hj;cases rest with
   |cons r rest=>cases ex
   |nil=>
    have:k=γ.length:=by have:=congrArg List.length hd;rw [abp] at this;simp at this;omega
    subst this;exact h E
def Rf:DF:=λas M q _=>∃(ls:List (List Int)) (f c:Nat),as=[jI ls,.int (f:Int),.int (c:Int)]/\f<=ls.length/\ls.length<=12/\(∀l∈ls,c<l.length)/\
 ((∀(k:Nat),f<=k->k<ls.length->(ls.getD k []).getD c 0=0)->q .bq M)/\
 (∀(k:Nat),f<=k->k<ls.length->(ls.getD k []).getD c 0≠0->q (.int (k:Int)) M)
theorem jQ:Ε ["lines","first","column","number"] ["lines","first","column"] (τ h_):= .of rfl
theorem pT{f:Addr}{fd:FuncData}(F:cI K "number_of_head" "number_of_head" h_ f fd)(E:Ev K mg w Cm):aq P w K mg base (bV P w) 1 f fd ["lines","first","column"] (cC K Rf):=by
 refine F.de jQ (λds M q x h=>?_) (λaV A outer s H E' hr=>⟨_,(θ (ie (va E.bW (Ρ (jv 1) (ι (bU E.bo (Ρ (jv 0) η)) η (hs:=aG)))) (ax (i:=3) jQ.nd rfl (Or.inl rfl)) aS (μ (aD (qt hr (Μ (Μ (jv 0) (jv 3)) (jv 2)) χ) (μ (Ζ (jv 3))) Υ)))
   (μ (Ζ Me))),λds M q x h=>?_⟩)
 ·obtain ⟨ls,f,c,rfl,_⟩:=h;rfl
 ·obtain ⟨ls,f,c,rfl,hf,lF,hc,h1,h2⟩:=h;walk_at "vc";dsimp only [A8];walk_at "vc";refine (au (d:=jI ls) (xs:=ls.map b9) rfl ?_:eZ [jI ls] _ _);rw [aad];refine ⟨⟨by omega,by omega,by omega,by omega⟩,?_⟩;refine cL (λzs ρ M'=>M'=M/\∃(n k:Nat) (o:Option Dt),zs=dU k n/\f<=k/\k+n=ls.length/\(∀j,f<=j->j<k->(ls.getD j []).getD c 0=0)/\ρ=[some (jI ls),some (.int (f:Int)),some (.int (c:Int)),o]) (λx zs ρ M' hj fH=>?_) (λρ M' hj=>?_) _ _ _ ⟨rfl,ls.length-f,f,none,?_,aah _,by omega,λj a b=>absurd a (by omega),rfl⟩
  ·obtain ⟨rfl,n,k,o,ex,hk,hn,hz,rfl⟩:=hj;obtain ⟨m,rfl,rfl,rfl⟩:=cE ex;have kl:k<ls.length:=by omega
   have hl:=hc _ (aax kl);have e1:(ls.getD k []).getD c 0=(ls[k])[c]:=by rw [aab,aab,aaa kl];show ((ls[k])[c]?).getD 0=_;rw [aaa hl];rfl
   walk_at "vc";refine (Η (d:=jI ls) rfl (CF kl) ?_:dF (jI ls) (.int (k:Int)) _ _);refine (Η (d:=b9 ls[k]) rfl (fK hl) ?_:dF (b9 ls[k]) (.int (c:Int)) _ _);refine ⟨λz=>?_,λz=>?_⟩
   ·have z:(!decide ((ls[k])[c]=0))=true:=z;refine h2 k hk kl ?_;rw [e1];intro y;rw [decide_eq_true y] at z;exact nomatch z
   ·have z:(!decide ((ls[k])[c]=0))=false:=z;have z0:(ls[k])[c]=0:=by
     rcases Decidable.em ((ls[k])[c]=0) with y|y
     ·exact y
     ·rw [decide_eq_false y] at z;exact nomatch z
    refine fH _ _ ⟨rfl,m,k+1,_,by simp,by omega,by omega,λj a b=>?_,rfl⟩;by_cases e:j=k
    ·rw [e,e1];exact z0
    ·exact hz j a (by omega)
  ·obtain ⟨rfl,n,k,o,ex,hk,hn,hz,rfl⟩:=hj;have Ur:n=0:=by have:=congrArg List.length ex;unfold dU at this;simpa using this.symm
   exact h1 λj a b=>hz j a (by omega)
  ·rw [show ((ls.length:Int)-(f:Int)).toNat=ls.length-f by omega]
abbrev j8:=Bz.j8
def IV:DF:=λas M q _=>∃(ls:List (List Int)) (f k:Nat),as=[jI ls,.int (f:Int),.int (k:Int)]/\f<=k/\k<ls.length/\ls.length<=12/\q (jI (j8 ls f k)) M
theorem vQ:Ε ["lines","first","number"] ["lines","first","number"] (τ jX):= .of rfl
theorem tH{f:Addr}{fd:FuncData}(F:cI K "moved_ahead" "moved_ahead" jX f fd)(E:Ev K mg w Cm):aq P w K mg base (bV P w) 1 f fd ["lines","first","number"] (cC K IV):=by
 refine F.de vQ (λds M q x h=>?_) (λaV A outer s H E' hr=>⟨_,(μ (Ζ (ma (ma (ma (cc (vo (jv 0) (jv 1))) (lq (ι (Μ (jv 0) (jv 2)) η (hs:=aQ)))) (cc (ui (jv 0) (jv 1) (jv 2)))) (cc (nN (jv 0) (cG (jv 2) χ)))))),λds M q x h=>?_⟩)
 ·obtain ⟨ls,f,k,rfl,_⟩:=h;rfl
 ·obtain ⟨ls,f,k,rfl,hf,hk,lF,h⟩:=h;have gk:ls.getD k []=ls[k]:=by rw [aab,aaa hk];rfl
  have sz:∀{n:Nat},n<=40->n<=sizeLine:=λh=>aaq h (by decide);refine ⟨ls.map b9,f,rfl,rfl,?_⟩;rw [<-ab5];refine cT (ji _) ?_;walk_at "vc";refine (Η (d:=jI ls) rfl (CF hk) ?_:dF (jI ls) (.int (k:Int)) _ _);refine ⟨sz (by show 1<=40;decide),(ls.take f).map b9,[b9 ls[k]],rfl,rfl,sz (by simp;omega),?_⟩;refine ⟨f,rfl,ls.map b9,k,rfl,rfl,?_⟩;rw [<-ab6,<-ab5];refine cT (ji _) ?_;refine ⟨(ls.take f).map b9++[b9 ls[k]],((ls.drop f).take (k-f)).map b9,rfl,rfl,sz (by simp;omega),?_⟩;refine ⟨ls.map b9,k+1,rfl,rfl,?_⟩;rw [<-ab6];refine cT (ji _) ?_;refine ⟨(ls.take f).map b9++[b9 ls[k]]++((ls.drop f).take (k-f)).map b9,(ls.drop (k+1)).map b9,rfl,rfl,sz (by simp;omega),?_⟩;unfold j8 Bz.j8 at h;rw [gk] at h;have e:(ls.take f).map b9++[b9 ls[k]]++((ls.drop f).take (k-f)).map b9++(ls.drop (k+1)).map b9=(ls.take f++[ls[k]]++(ls.drop f).take (k-f)++ls.drop (k+1)).map b9:=by rw [aaS,aaS,aaS];rfl
  rw [e];exact h
abbrev cK:=Bz.cK
def BP:DF:=λas M q _=>∃(l h:List Int) (c:Nat) (d:Int),as=[b9 l,b9 h,.int (c:Int),.int d]/\l.length=h.length/\h.length<=30/\c<h.length/\(∀x∈l,iw x)/\(∀x∈h,iw x)/\d≠0/\iw d/\q (b9 (cK l h c d)) M
theorem lj:Ε ["line","head","column","divisor"] ["line","head","column","divisor"] (τ i6):= .of rfl
theorem sA{f:Addr}{fd:FuncData}(F:cI K "cleared_line" "cleared_line" i6 f fd)(E:Ev K mg w Cm):aq P w K mg base (bV P w) 1 f fd ["line","head","column","divisor"] (cC K BP):=by
 refine F.de lj (λds M q x h=>?_) (λaV A outer s H E' hr=>⟨_,(μ (Ζ (Dq (ys:=["divisor","head","column","line"]) (ak:=[3,1,2,0]) (.of lj rfl rfl rfl) (Bm E.vh (Ρ (jv 0) (Ρ (jv 1) η))) (λC s H fp=>(Bi (yx (aL (Μ (jv 3) (jv 4)) (jv 0)) (aL (Μ (jv 5) (jv 4)) (jv 1))) (jv 2)))))),λds M q x h=>?_⟩)
 ·obtain ⟨l,h',c,d,rfl,_⟩:=h;rfl
 ·obtain ⟨l,hd,c,d,rfl,hl,h30,hc,bl,bh,d0,bd,h⟩:=h;have cl:c<l.length:=by omega
  have g1:hd.getD c 0=hd[c]:=by rw [aab,aaa hc];rfl
  have g2':l.getD c 0=l[c]:=by rw [aab,aaa cl];rfl
  refine ⟨b9 l,b9 hd,l.map Dt.int,hd.map Dt.int,λ_=>True,λ_=>True,rfl,rfl,rfl,?_⟩;have ez:pU (l.map Dt.int) (hd.map Dt.int)=(l.zip hd).map λp=> .tup [.int p.1,.int p.2]:=by unfold pU;rw [List.zip_map,aaC];rfl
  rw [ez];refine ⟨?_,?_⟩
  ·rw [aad,abe];exact aaq (show _<=30 by omega) (by decide)
  refine oh ⟨trivial,trivial⟩ (λx=>match x with|.tup [.int a,.int b]=> .int ((hd.getD c 0*a-l.getD c 0*b).fdiv d)|_=> .bq) _ _ (λx hx q' hq=>?_) ?_
  ·obtain ⟨p,hp,rfl⟩:=aaj.mp hx;have hq:q' (.int ((hd.getD c 0*p.1-l.getD c 0*p.2).fdiv d)) M:=hq;have p1:=bl p.1 (abk hp).1;have p2:=bh p.2 (abk hp).2;rw [g1,g2'] at hq;have key:dF (b9 hd) (.int (c:Int)) M (λx M1=>Hq x (.int p.1) M1 λy M2=>dF (b9 l) (.int (c:Int)) M2 λz M3=>Hq z (.int p.2) M3 λu M4=>A_ y u M4 λv M5=>DW v (.int d) M5 q'):=by refine Η (d:=b9 hd) rfl (fK hc) ⟨⟨bh _ (aax hc),p1⟩,?_⟩;refine Η (d:=b9 l) rfl (fK cl) ⟨⟨bl _ (aax cl),p2⟩,?_⟩;exact ⟨⟨d0,bd⟩,hq⟩
   exact key
  ·rw [aaO,aaC];unfold cK Bz.cK at h;rw [show b9 ((l.zip hd).map λp=>(hd.getD c 0*p.1-l.getD c 0*p.2).fdiv d)= .lst ((l.zip hd).map λp=>Dt.int ((hd.getD c 0*p.1-l.getD c 0*p.2).fdiv d)) by show Dt.lst _=_;rw [aaC];rfl] at h;exact h
theorem Am{a b:Int}(h0:0<=a)(h:a<=b):∀n:Nat,a^n<=b^n
 |0=>by rw [Int.pow_zero,Int.pow_zero];exact Int.le_refl _
 |n+1=>by rw [abA,abA];exact abj (Am h0 h n) h h0 (abB (by omega))
theorem BR{x B:Int}{r:Nat}(h:Bz.Ab x (Bz.top B r))(h1:1<=B)(hB:B<=2^450)(hr:r<=12):iw x:=by
 have e1:Bz.top B r<=(12*B)^15:=Bz.xA h1 (by omega);have e2:(12*B)^15<=(12*2^450)^15:=Am (by omega) (by omega) 15;have e3:((12*2^450)^15:Int)<((2^8000:Nat):Int):=by decide
 have:(x.natAbs:Int)<((2^8000:Nat):Int):=by obtain ⟨a,b⟩:=h;omega
 exact abr.mp this
section
variable{A:Nat->Bz.Row}{n col:Nat}{ρ ν:List Nat}{qq:Nat->Nat}{d:Int}{W:Nat->Bz.Row}
theorem zS{m:Nat}{B:Int}(t:Bz.Turn A n col ρ ν qq d W)(b:Bz.Bd A n m B)(hB:B<=2^450)(hm:col<=m)(hr:ρ.length<=12):(∀i,i<n->∀x∈Bz.aA A n m (W i),iw x)/\iw d:=by
 obtain ⟨a1,a2,a3⟩:=t.st.abs b (λc hc=>aap (t.cl c hc) hm) hr;refine ⟨λi hi x hx=>?_,BR a3 b.b1 hB hr⟩;unfold Bz.aA at hx;rcases aaN.mp hx with z|z
 ·obtain ⟨y,hy,rfl⟩:=aaj.mp z;exact BR (a2 i y hi (aaW.mp hy)) b.b1 hB hr
 ·obtain ⟨y,hy,rfl⟩:=aaj.mp z;exact BR (a1 i y hi) b.b1 hB hr
end
def nh(n:Nat):Dt:= .int n
theorem DH{n:Nat}:∀(l:List Nat),Dt.bF n (l.map nh)
 |[]=>trivial
 |_::l=>⟨trivial,DH l⟩
theorem uP{A:Nat->Bz.Row}{n m:Nat}{W:Nat->Bz.Row}{l:List Int}(h:l∈Bz.af A n m W):∃i,i<n/\l=Bz.aA A n m (W i):=by unfold Bz.af at h;obtain ⟨i,hi,e⟩:=aaj.mp h;exact ⟨i,aaW.mp hi,e.symm⟩
theorem sU{α:Type}(a:α):∀u:Nat,(List.replicate u [a]).flatten=List.replicate u a
 |0=>rfl
 |u+1=>by rw [aa3,abh,sU a u];rfl
structure Bp(γ:List (List Int))(u:Nat)(B:Int):Prop where
 n1:1<=γ.length
 Ax:γ.length<=12
 QE:u<=12
 ml:∀r∈γ,r.length=u+1
 bd:Bz.Bd (Bz.arr γ) γ.length (u+1) B
 g8:B<=2^450
def Ah:DF:=λas M q _=>∃(γ:List (List Int)) (u:Nat) (B:Int),as=[jI γ,.int (u:Int)]/\Bp γ u B/\
 ∀ρ ν qq d W,Bz.Turn (Bz.arr γ) γ.length u ρ ν qq d W->q (.tup [jI (Bz.af (Bz.arr γ) γ.length (u+1) W),.loc M.length]) (M++[.lst (ν.map nh)])
theorem bb:Ε ["rows","unknowns","lines","columns","divisor","column","rank","number","head","above","below"] ["rows","unknowns"] (τ qB):= .of rfl
theorem AV{f:Addr}{fd:FuncData}(F:cI K "cleared" "cleared" qB f fd)(E:Ev K mg w Cm){wL:Addr}{wZ:FuncData}(ig:av P w K mg base 1 "with_weights" ["rows"] Nk wL wZ){tN:Addr}{tW:FuncData}(gY:av P w K mg base 1 "number_of_head" ["lines","first","column"] Rf tN tW){y8:Addr}{yp:FuncData}(i7:av P w K mg base 1 "moved_ahead" ["lines","first","number"] IV y8 yp){wH:Addr}{vK:FuncData}(fk:av P w K mg base 1 "cleared_line" ["line","head","column","divisor"] BP wH vK):aq P w K mg base (bV P w) 2 f fd ["rows","unknowns"] (cC K Ah):=by
 refine F.de bb (λds M q x h=>?_) (λaV A outer s H E' hr=>⟨_,(θ (Γ 2 bb.nd (cc (ae ig hr ξ (Ρ (jv 0) η))))
   (θ (Γ 3 bb.nd (kq η))
   (θ (Γ 4 bb.nd χ)
   (θ (ie (cR E.bW (Ρ (jv 1) η)) (ax (i:=5) bb.nd rfl (Or.inr rfl)) aS (θ (Γ 6 bb.nd (bU E.bo (Ρ (jv 3) η)))
   (θ (Γ 7 bb.nd (ae gY hr ξ (Ρ (jv 2) (Ρ (jv 6) (Ρ (jv 5) η)))))
   (θ (aD (JC (jv 7) Me) (μ pH) Υ)
   (θ (Γ 2 bb.nd (ae i7 hr ξ (Ρ (jv 2) (Ρ (jv 6) (Ρ (jv 7) η)))))
   (θ (Γ 8 bb.nd (Μ (jv 2) (jv 6)))
   (θ (jY (i:=9) bb.nd rfl (Or.inl rfl) (ys:=["head","column","divisor"]) (ak:=[8,5,4]) (.of bb rfl rfl rfl) (bR (cc (vo (jv 2) (jv 6)))) (λC s H fp=>(ae fk hr (jA (P:=P) (w:=w)) (Ρ (jv 0) (Ρ (jv 1) (Ρ (jv 2) (Ρ (jv 3) η)))))))
   (θ (jY (i:=10) bb.nd rfl (Or.inl rfl) (ys:=["head","column","divisor"]) (ak:=[8,5,4]) (.of bb rfl rfl rfl) (bR (cc (nN (jv 2) (cG (jv 6) χ)))) (λC s H fp=>(ae fk hr (jA (P:=P) (w:=w)) (Ρ (jv 0) (Ρ (jv 1) (Ρ (jv 2) (Ρ (jv 3) η)))))))
   (θ (Γ 2 bb.nd (ma (ma (jv 9) (lq (Ρ (jv 8) η))) (jv 10)))
   (θ (Γ 4 bb.nd (Μ (jv 8) (jv 5)))
   (μ (eh (fC (jv 3) (Ρ (jv 5) η))))))))))))))
   (μ (Ζ (fv (Ρ (jv 2) (Ρ (jv 3) η))))))))),λds M q x h=>?_⟩)
 ·obtain ⟨γ,u,B,rfl,_⟩:=h;rfl
 ·obtain ⟨γ,u,B,rfl,ro,h⟩:=h;have n1:=ro.n1;have Ax:=ro.Ax;have QE:=ro.QE;refine ⟨γ,rfl,Ax,λr g7=>by rw [ro.ml r g7];omega,λE0'=>?_⟩;rw [Bz.zq ro.ml];refine j3 (d':=jI (Bz.af (Bz.arr γ) γ.length (u+1) λi=>Bz.ind i)) (.Eh (Nat.le_refl _) (by simp) (iN.old (ji _))) ?_;generalize hA:Bz.arr γ=A at *
  generalize hn:γ.length=n at *
  refine ⟨by decide,?_⟩;walk_at "vc";refine ⟨⟨by omega,by omega⟩,?_⟩;refine cL (λzs ρ' M'=>∃(c k:Nat) (ρ ν:List Nat) (qq:Nat->Nat) (d:Int) (W:Nat->Bz.Row) (o1 o2 o3 o4 o5 o6:Option Dt),zs=dU k c/\k+c=u/\Bz.Turn A n k ρ ν qq d W/\M'=M++[MO.lst (ν.map nh)]/\ρ'=[some (jI γ),some (.int (u:Int)),some (jI (Bz.af A n (u+1) W)),some (.loc M.length),some (.int d),o1,o2,o3,o4,o5,o6]) (λx zs ρ' M' hj fH=>?_) (λρ' M' hj=>?_) _ _ _ ⟨u,0,[],[],id,1,_,none,none,none,none,none,none,by simp,by simp,Bz.Turn.start,rfl,rfl⟩
  ·obtain ⟨c,k,ρ,ν,qq,d,W,o1,o2,o3,o4,o5,o6,ex,hkc,t,rfl,rfl⟩:=hj;obtain ⟨m,rfl,rfl,rfl⟩:=cE ex;have lc:ν.length=ρ.length:=t.st.lc;have rn:ρ.length<=n:=t.st.rn;have hs1:jU (M++[MO.lst (ν.map nh)]) (.loc M.length)=some (ν.map nh):=J' (kI aI);walk_at "vc";refine (au (d:= .loc M.length) hs1 ?_:eZ [.loc M.length] _ _);rw [aad,lc];refine ⟨Bz.af A n (u+1) W,ρ.length,k,rfl,by rw [Bz.cX];exact rn,by rw [Bz.cX];exact Ax,λl hl=>?_,λhz=>?_,λk' h1 h2 h0=>?_⟩
   ·obtain ⟨i,_,rfl⟩:=uP hl;rw [Bz.eF];omega
   ·refine ⟨λ_=>?_,λz=>(nomatch z)⟩;refine fH _ _ ⟨m,k+1,ρ,ν,qq,d,W,_,_,_,_,_,_,by simp,by omega,t.skip λi a b=>?_,rfl,rfl⟩;have:=hz i a (by rw [Bz.cX];exact b);rw [Bz.ku b,Bz.hG (by omega)] at this;exact this
   ·rw [Bz.cX] at h2;rw [Bz.ku h2,Bz.hG (show k<u+1 by omega)] at h0;refine ⟨λz=>(nomatch z),λ_=>?_⟩;refine ⟨Bz.af A n (u+1) W,ρ.length,k',rfl,h1,by rw [Bz.cX];exact h2,by rw [Bz.cX];exact Ax,?_⟩;rw [show j8 (Bz.af A n (u+1) W) ρ.length k'=_ from Bz.yq h1 h2];have t1:=t.move h1 h2;have QC:ρ.length<n:=by omega
    have YW:Bz.rv A n (W (Bz.iZ ρ.length k' ρ.length)) k≠0:=by
     have:Bz.iZ ρ.length k' ρ.length=k':=by unfold Bz.iZ;rw [if_neg (Nat.lt_irrefl _),if_pos rfl]
     rw [this];exact h0
    clear h0 h1 h2 t;generalize Z7:(λi=>W (Bz.iZ ρ.length k' i))=W1 at *
    generalize Mq:(λi=>qq (Bz.iZ ρ.length k' i))=q1 at *
    have e1:W (Bz.iZ ρ.length k' ρ.length)=W1 ρ.length:=by rw [<-Z7]
    rw [e1] at YW;obtain ⟨bl,bd⟩:=zS t1 (m:=u+1) (by subst hA hn;exact ro.bd) ro.g8 (by omega) (by omega);obtain ⟨W',t2,el⟩:=t1.step (m:=u+1) QC (by omega) YW;have Od:(Bz.af A n (u+1) W1).length=n:=Bz.cX;have hdg:(Bz.af A n (u+1) W1)[ρ.length]'(by rw [Od];exact QC)=Bz.aA A n (u+1) (W1 ρ.length):=by have:=Bz.ku (A:=A) (m:=u+1) (W:=W1) QC;rw [aab,aaa (by rw [Od];exact QC)] at this;exact this
    have YM:∀l∈Bz.af A n (u+1) W1,∀q':DQ,q' (b9 (cK l (Bz.aA A n (u+1) (W1 ρ.length)) k d)) (M++[MO.lst (ν.map nh)])->BP [b9 l,b9 (Bz.aA A n (u+1) (W1 ρ.length)),.int (k:Int),.int d] (M++[MO.lst (ν.map nh)]) q' (λC fs M'=>k8 [] C fs M'):=λl hl q' xW=>by obtain ⟨i,hi,rfl⟩:=uP hl;exact ⟨_,_,k,d,rfl,by rw [Bz.eF,Bz.eF],by rw [Bz.eF];omega,by rw [Bz.eF];omega,bl i hi,bl _ QC,t1.d0,bd,xW⟩
    walk_at "vc";refine (Η (d:=jI (Bz.af A n (u+1) W1)) rfl (CF (by rw [Od];exact QC)) ?_:dF (jI (Bz.af A n (u+1) W1)) (.int (ρ.length:Int)) _ _);rw [hdg];have sz:∀{z:Nat},z<=40->z<=sizeLine:=λh=>aaq h (by decide);refine ⟨(Bz.af A n (u+1) W1).map b9,ρ.length,rfl,rfl,?_⟩;rw [<-ab5];refine cT (ji _) ⟨sz (by rw [aad,abT];omega),?_⟩;refine dI (F:=λx a=>x=b9 a/\a∈Bz.af A n (u+1) W1) (f:=λl=>b9 (cK l (Bz.aA A n (u+1) (W1 ρ.length)) k d)) trivial (λx a ha q' xW=>by obtain ⟨rfl,ha⟩:=ha;exact YM a ha q' xW) (ky b9 _ _ λ_ h=>List.mem_of_mem_take h) ?_;rw [aaO];refine ⟨(Bz.af A n (u+1) W1).map b9,ρ.length+1,rfl,rfl,?_⟩;rw [<-ab6];refine cT (ji _) ⟨sz (by rw [aad,abp];omega),?_⟩;refine dI (F:=λx a=>x=b9 a/\a∈Bz.af A n (u+1) W1) (f:=λl=>b9 (cK l (Bz.aA A n (u+1) (W1 ρ.length)) k d)) trivial (λx a ha q' xW=>by obtain ⟨rfl,ha⟩:=ha;exact YM a ha q' xW) (ky b9 _ _ λ_ h=>List.mem_of_mem_drop h) ?_;rw [aaO];refine ⟨by show 1<=sizeLine;decide,_,_,rfl,rfl,sz (by simp;omega),_,_,rfl,rfl,sz (by simp;omega),?_⟩;have ek:k<(Bz.aA A n (u+1) (W1 ρ.length)).length:=by rw [Bz.eF];omega
    have ev:(Bz.aA A n (u+1) (W1 ρ.length))[k]=Bz.rv A n (W1 ρ.length) k:=by have:=Bz.hG (A:=A) (n:=n) (m:=u+1) (x:=k) (w:=W1 ρ.length) (by omega);rw [aab,aaa ek] at this;exact this
    refine Η (d:=b9 (Bz.aA A n (u+1) (W1 ρ.length))) rfl (fK ek) ?_;rw [ev];refine ⟨⟨M.length,_,rfl,aI⟩,M.length,_,_,rfl,rfl,aI,?_,?_⟩
    ·rw [aad,lc];exact aaK (show _<=12 by omega) (by decide)
    rw [dE];have ee:=congrArg (List.map b9) el;rw [aaS,aaS,aaC,aaC] at ee;refine fH _ _ ⟨m,k+1,ρ++[q1 ρ.length],ν++[k],q1,_,W',some (.int (k:Int)),some (.int (ρ.length:Int)),some (.int (k':Int)),some (b9 (Bz.aA A n (u+1) (W1 ρ.length))),some (.lst (((Bz.af A n (u+1) W1).take ρ.length).map λl=>b9 (cK l (Bz.aA A n (u+1) (W1 ρ.length)) k d))),some (.lst (((Bz.af A n (u+1) W1).drop (ρ.length+1)).map λl=>b9 (cK l (Bz.aA A n (u+1) (W1 ρ.length)) k d))),by simp,by omega,t2,by simp [nh],?_⟩;show _=[some (jI γ),some (Dt.int (u:Int)),some (Dt.lst ((Bz.af A n (u+1) W').map b9)),some (Dt.loc M.length),some (Dt.int _),_,_,_,_,_,_];rw [<-ee];rfl
  ·obtain ⟨c,k,ρ,ν,qq,d,W,o1,o2,o3,o4,o5,o6,ex,hkc,t,rfl,rfl⟩:=hj;have Ur:c=0:=by have:=congrArg List.length ex;unfold dU at this;simpa using this.symm
   have:k=u:=by omega
   subst this;exact ⟨by show 2<=sizeLine;decide,h _ _ _ _ _ t⟩
def Nw:DF:=λas M q _=>∃(γ:List (List Int)) (u:Nat) (B:Int) (ρ ν:List Nat) (qq:Nat->Nat) (d:Int) (W:Nat->Bz.Row),as=[jI (Bz.af (Bz.arr γ) γ.length (u+1) W),.lst (ν.map nh),.int (u:Int),.int (u:Int)]/\Bp γ u B/\Bz.Turn (Bz.arr γ) γ.length u ρ ν qq d W/\ν=List.range u/\
 q (.loc M.length) (M++[.lst ((List.range u).map λi=>Ξ (aw (Bz.rv (Bz.arr γ) γ.length (W i) u) d))])
theorem hX:Ε ["lines","columns","unknowns","source","told","line","column"] ["lines","columns","unknowns","source"] (τ my):= .of rfl
theorem xM{f:Addr}{fd:FuncData}(F:cI K "quotients" "quotients" my f fd)(E:Ev K mg w Cm){e6:Addr}{e9:FuncData}(bj:av P w K mg base 2 "fraction" ["top","bottom"] sD e6 e9):aq P w K mg base (bV P w) 3 f fd ["lines","columns","unknowns","source"] (cC K Nw):=by
 refine F.de hX (λds M q x h=>?_) (λaV A outer s H E' hr=>⟨_,(θ (Γ 4 hX.nd (A6 (eE 3 (d:= .lst [.tup [.int 0,.int 1]]) (by rfl)) (jv 2)))
   (θ (dw (Bm E.vh (Ρ (jv 0) (Ρ (jv 1) η))) (nP rfl (cz (ax (i:=5) hX.nd rfl (Or.inl rfl)) (cz (ax (i:=6) hX.nd rfl (Or.inl rfl)) kK))) oi (μ (mR (jv 4) (jv 6) (ae bj hr ξ (ι (Μ (jv 5) (jv 3)) (ι (Μ (jv 5) (jv 6)) η (hs:=aQ)) (hs:=aQ))))))
   (μ (Ζ (jv 4))))),λds M q x h=>?_⟩)
 ·obtain ⟨γ,u,B,ρ,ν,qq,d,W,rfl,_⟩:=h;rfl
 ·obtain ⟨γ,u,B,ρ,ν,qq,d,W,rfl,ro,t,hc,h⟩:=h;have QE:=ro.QE;have Ax:=ro.Ax;have hl:ρ.length=u:=by rw [<-t.st.lc,hc,aaM]
  have un:u<=γ.length:=by rw [<-hl];exact t.st.rn
  obtain ⟨bl,bd⟩:=zS t (m:=u+1) ro.bd ro.g8 (by omega) (by omega);have d0:=t.d0;have one:∀i,i<u->Bz.rv (Bz.arr γ) γ.length (W i) i=d:=λi hi=>by have:=t.st.one i i (by omega) (by omega);rw [if_pos rfl,hc,aab,aaF hi] at this;exact this
  generalize hA:Bz.arr γ=A at *
  generalize hn:γ.length=n at *
  let tl:Nat->List Dt:=λk=>(List.range u).map λi=>if i<k then Ξ (aw (Bz.rv A n (W i) u) d) else Ξ (0,1)
  have t0:(List.replicate (u:Int).toNat [Ξ (0,1)]).flatten=tl 0:=by
   show _=(List.range u).map λi=>if i<0 then _ else Ξ (0,1)
   rw [show ((u:Int)).toNat=u by omega];apply aa4
   ·simp
   ·intro j h1 h2;have e:(List.replicate u [Ξ (0,1)]).flatten=List.replicate u (Ξ (0,1)):=sU _ u;simp [e]
  have ts:∀k,k<u->(tl k).set k (Ξ (aw (Bz.rv A n (W k) u) d))=tl (k+1):=λk hk=>by
   apply aa4
   ·simp [tl]
   ·intro j h1 h2;rw [List.getElem_set];simp only [tl,List.getElem_map,List.getElem_range];by_cases e:k=j
    ·subst e;rw [if_pos rfl,if_pos (by omega)]
    ·rw [if_neg e];by_cases f:j<k
     ·rw [if_pos f,if_pos (by omega)]
     ·rw [if_neg f,if_neg (by omega)]
  refine ⟨[Ξ (0,1)],u,rfl,rfl,by omega,by omega,?_,?_⟩
  ·show 1*((u:Int)).toNat<=sizeLine;exact aaq (show _<=12 by omega) (by decide)
  rw [t0];refine ⟨jI (Bz.af A n (u+1) W),.lst (ν.map nh),_,_,λ_=>True,λ_=>True,rfl,rfl,rfl,?_⟩;have ez:pU ((Bz.af A n (u+1) W).map b9) (ν.map nh)=(List.range u).map λi=> .tup [b9 (Bz.aA A n (u+1) (W i)),nh i]:=by
   unfold pU Bz.af;rw [hc];apply aa4
   ·simp;omega
   ·intro j h1 h2;simp
  rw [ez];refine bZ (λzs ρ' M'=>∃(k:Nat) (o1 o2:Option Dt),k<=u/\zs=((List.range u).drop k).map (λi=> .tup [b9 (Bz.aA A n (u+1) (W i)),nh i])/\M'=M++[MO.lst (tl k)]/\ρ'=[some (jI (Bz.af A n (u+1) W)),some (.lst (ν.map nh)),some (.int (u:Int)),some (.int (u:Int)),some (.loc M.length),o1,o2]) (λzs ρ' M' hj=>⟨trivial,trivial⟩) (λx zs ρ' M' hj fH=>?_) (λρ' M' hj=>?_) _ _ _ ⟨0,none,none,abK _,rfl,rfl,rfl⟩
  ·obtain ⟨k,o1,o2,hk,ex,rfl,rfl⟩:=hj;have tm:k<u:=by
    rcases Nat.lt_or_ge k u with z|z
    ·exact z
    ·rw [List.drop_of_length_le (by simpa using z)] at ex;cases ex
   rw [List.drop_eq_getElem_cons (by simpa using tm),List.map_cons,List.getElem_range] at ex;cases ex;have ek:k<(Bz.aA A n (u+1) (W k)).length:=by rw [Bz.eF];omega
   have eu:u<(Bz.aA A n (u+1) (W k)).length:=by rw [Bz.eF];omega
   have v1:(Bz.aA A n (u+1) (W k))[k]=d:=by have:=Bz.hG (A:=A) (n:=n) (m:=u+1) (x:=k) (w:=W k) (by omega);rw [aab,aaa ek] at this;rw [<-one k tm];exact this
   have v2:(Bz.aA A n (u+1) (W k))[u]=Bz.rv A n (W k) u:=by have:=Bz.hG (A:=A) (n:=n) (m:=u+1) (x:=u) (w:=W k) (by omega);rw [aab,aaa eu] at this;exact this
   dsimp only [g2,xG];walk_at "vc";refine Η (d:=b9 (Bz.aA A n (u+1) (W k))) rfl (fK eu) ?_;refine Η (d:=b9 (Bz.aA A n (u+1) (W k))) rfl (fK ek) ?_;rw [v1,v2];refine ⟨bd,λz=>absurd z d0,λ_=>?_⟩;refine ⟨M.length,k,_,k,rfl,rfl,aI,?_,?_⟩
   ·rw [show (tl k).length=u by simp [tl]];exact wz tm
   rw [dE];refine fH _ _ ⟨k+1,_,_,tm,rfl,?_,rfl⟩;rw [<-ts k tm];rfl
  ·obtain ⟨k,o1,o2,hk,ex,rfl,rfl⟩:=hj;have:k=u:=by have:=congrArg List.length ex;simp at this;omega
   subst this;have e:tl k=(List.range k).map λi=>Ξ (aw (Bz.rv A n (W i) k) d):=aaT λi hi=>by rw [if_pos (aaW.mp hi)]
   rw [e];exact h
def xr:DF:=λas M q _=>∃(γ:List (List Int)) (u:Nat) (B:Int) (DG:List Fr) (z:Bz.Row) (N:Int),as=[jI γ]/\Bp γ u B/\1<=u/\DG.length=u/\Bz.Pd (Bz.arr γ) γ.length u z N/\N≠0/\
 (∀i,i<u->0<(DG.getD i (0,1)).2/\Int.gcd (DG.getD i (0,1)).1 (DG.getD i (0,1)).2=1/\N*(DG.getD i (0,1)).1=z i*(DG.getD i (0,1)).2)/\
 (∀y:Bz.Row,(∀k,k<γ.length->Bz.Δ (λx=>Bz.arr γ k x*y x) u=0)->∀x,x<u->y x=0)/\q (.loc M.length) (M++[.lst (DG.map Ξ)])
theorem dN:Ε ["rows","unknowns","found","lines","columns","line","answer"] ["rows"] (τ og):= .of rfl
theorem yk{f:Addr}{fd:FuncData}(F:cI K "answer_of" "answer_of" og f fd)(E:Ev K mg w Cm){Ht:Addr}{JF:FuncData}(nI:av P w K mg base 2 "cleared" ["rows","unknowns"] Ah Ht JF){A':Addr}{Ct:FuncData}(jR:av P w K mg base 3 "quotients" ["lines","columns","unknowns","source"] Nw A' Ct):aq P w K mg base (bV P w) 4 f fd ["rows"] (cC K xr):=by
 refine F.de dN (λds M q x h=>?_) (λaV A outer s H E' hr=>⟨_,(θ (Γ 1 dN.nd (yx (bU E.bo (ι (Μ (jv 0) χ) η (hs:=aQ))) χ))
   (θ (Γ 2 dN.nd (cc (ae nI hr ξ (Ρ (jv 0) (Ρ (jv 1) η)))))
   (θ (Γ 3 dN.nd (Μ (jv 2) χ))
   (θ (Γ 4 dN.nd (Μ (jv 2) χ))
   (θ (dw (bR (cc (nN (jv 3) (bU E.bo (Ρ (jv 4) η))))) (ax (i:=5) dN.nd rfl (Or.inl rfl)) aS (μ (aD (qt hr (Μ (jv 5) (jv 1)) χ) (μ fq) Υ)))
   (θ (Γ 6 dN.nd (ae jR hr ξ (Ρ (jv 3) (Ρ (jv 4) (Ρ (jv 1) (Ρ (jv 1) η))))))
   (θ (aD (sj (bU E.bo (Ρ (jv 4) η)) (jv 1)) (μ fq) Υ)
   (μ (Ζ (jv 6)))))))))),λds M q x h=>?_⟩)
 ·obtain ⟨γ,u,B,DG,z,N,rfl,_⟩:=h;rfl
 ·obtain ⟨γ,u,B,DG,z,N,rfl,ro,u1,dl,sol,hN,U_,Wy,h⟩:=h;have n1:=ro.n1;have Ax:=ro.Ax;have QE:=ro.QE;have r0:0<γ.length:=by omega
  have m0:γ[0].length=u+1:=ro.ml _ (aax r0);walk_at "vc";refine (Η (d:=jI γ) rfl (CF r0) ?_:dF (jI γ) (.int 0) _ _);refine (au (d:=b9 γ[0]) (xs:=γ[0].map Dt.int) rfl ?_:eZ [b9 γ[0]] _ _);rw [aad,m0];dsimp only [A_];rw [show (((u+1:Nat):Int)-1)=(u:Int) by omega];refine ⟨γ,u,B,rfl,ro,λρ ν qq d W t=>?_⟩;have C4:ν=List.range u:=by
   rcases t.all with e|⟨x,hx,hf⟩
   ·exact e
   ·obtain ⟨y,y1,y2⟩:=t.kernel hx hf;have:=Wy y y2 x hx;rw [this] at y1;exact absurd (by omega) t.d0
  have hl:ρ.length=u:=by rw [<-t.st.lc,C4,aaM]
  have un:u<=γ.length:=by rw [<-hl];exact t.st.rn
  refine j3 (d':= .tup [jI (Bz.af (Bz.arr γ) γ.length (u+1) W),.lst (ν.map nh)]) (.tup (.cons (.old (ji _)) (.cons (.Eh (Nat.le_refl _) (by simp) (iN.old (DH _))) .nil))) ?_;have told:(List.range u).map (λi=>Ξ (aw (Bz.rv (Bz.arr γ) γ.length (W i) u) d))=DG.map Ξ:=by
   apply aa4
   ·simp [dl]
   ·intro i h1 h2;have hi:i<u:=by simpa using h1
    simp only [List.getElem_map,List.getElem_range];obtain ⟨p0,p1,p2⟩:=U_ i hi;have gi:DG.getD i (0,1)=DG[i]:=by rw [aab,aaa (by omega)];rfl
    rw [gi] at p0 p1 p2;have e:=t.told C4 sol hi
    congr 1
    have:aw (Bz.rv (Bz.arr γ) γ.length (W i) u) d=(DG[i].1,DG[i].2):=xu t.d0 p0 p1 (by
     refine aaG hN ?_
     grind)
    exact this
  refine (Η (d:= .tup [jI (Bz.af (Bz.arr γ) γ.length (u+1) W),.lst (ν.map nh)]) rfl a_ ?_:dF (.tup [jI (Bz.af (Bz.arr γ) γ.length (u+1) W),.lst (ν.map nh)]) (.int 0) _ _);refine (Η (d:= .tup [jI (Bz.af (Bz.arr γ) γ.length (u+1) W),.lst (ν.map nh)]) rfl (Κ (j:=1) rfl) ?_:dF (.tup [jI (Bz.af (Bz.arr γ) γ.length (u+1) W),.lst (ν.map nh)]) (.int 1) _ _);have YE:(ν.map nh).length=u:=by rw [aad,C4,aaM]
  dsimp only [vc,gC,Tw,Q2];walk_at "vc";refine (au (d:= .lst (ν.map nh)) (xs:=ν.map nh) rfl ?_:eZ [.lst (ν.map nh)] _ _);refine ⟨(Bz.af (Bz.arr γ) γ.length (u+1) W).map b9,(ν.map nh).length,rfl,rfl,?_⟩;rw [YE,<-ab6];refine cT (ji _) ?_;have hz:∀l∈(Bz.af (Bz.arr γ) γ.length (u+1) W).drop u,u<l.length/\l.getD u 0=0:=λl X3=>by
   obtain ⟨j,hj,e⟩:=aaX X3;rw [List.getElem_drop] at e;rw [abp,Bz.cX] at hj;have hu:u+j<γ.length:=by omega
   have el:l=Bz.aA (Bz.arr γ) γ.length (u+1) (W (u+j)):=by have:=Bz.ku (A:=Bz.arr γ) (m:=u+1) (W:=W) hu;rw [aab,aaa (by rw [Bz.cX];exact hu)] at this;rw [<-e];exact this
   rw [el];refine ⟨by rw [Bz.eF];omega,?_⟩;rw [Bz.hG (by omega)];exact t.rest sol hN (by omega) hu
  refine bZ (λzs ρ' M'=>M'=M/\∃(rest:List (List Int)) (o:Option Dt),zs=rest.map b9/\(∀l∈rest,u<l.length/\l.getD u 0=0)/\ρ'=[some (jI γ),some (.int (u:Int)),some (.tup [jI (Bz.af (Bz.arr γ) γ.length (u+1) W),.lst (ν.map nh)]),some (jI (Bz.af (Bz.arr γ) γ.length (u+1) W)),some (.lst (ν.map nh)),o,none]) (λzs ρ' M' hj=>trivial) (λx zs ρ' M' hj fH=>?_) (λρ' M' hj=>?_) _ _ _ ⟨rfl,_,none,rfl,hz,rfl⟩
  ·obtain ⟨rfl,rest,o,ex,g7,rfl⟩:=hj;cases rest with
   |nil=>cases ex
   |cons l rest=>
    cases ex;obtain ⟨l1,l2⟩:=g7 l aae;have lv:l[u]=0:=by rw [aab,aaa l1] at l2;exact l2
    walk_at "vc";refine (Η (d:=b9 l) rfl (fK l1) ?_:dF (b9 l) (.int (u:Int)) _ _);rw [lv];exact ⟨λz=>(nomatch z),λ_=>fH _ _ ⟨rfl,rest,_,rfl,λy hy=>g7 y (aac _ hy),rfl⟩⟩
  ·obtain ⟨rfl,rest,o,ex,g7,rfl⟩:=hj;refine ⟨γ,u,B,ρ,ν,qq,d,W,rfl,ro,t,C4,?_⟩;rw [told];walk_at "vc";refine (au (d:= .lst (ν.map nh)) (xs:=ν.map nh) rfl ?_:eZ [.lst (ν.map nh)] _ _);rw [YE];refine ⟨λz=>?_,λ_=>h⟩;have z:(u:Int)<u:=of_decide_eq_true z;omega
theorem HS(cs ns:List Fr):pU (cs.map Ξ) (ns.map Ξ)=(cs.zip ns).map λp=> .tup [Ξ p.1,Ξ p.2]:=by unfold pU;rw [List.zip_map,aaC];rfl
structure Ch(B:Int)(c:Fr):Prop where
 pos:0<c.2
 he:g9 c B
 u:gG c
 sz:Sz 300 c
theorem qv{E B C:Int}(b0:0<B)(e0:0<E)(be:B*E<2^2200)(c0:0<=C)(c1:C<2^300):∀(ps:List (Fr×Fr)) (w:Fr) (j:Nat),j+ps.length<=6->Nb (B*E) (j*C) w->(∀p∈ps,Ch B p.1/\Nb E C p.2)->Nb (B*E) ((j+ps.length:Nat)*C) (ps.foldl (λw p=>fQ w (aZ p.1 p.2)) w)
 |[],w,j,_,hw,_=>hw
 |p::ps,w,j,hj,hw,h=>by
  rw [aau] at hj;obtain ⟨h1,h2⟩:=h p aae;have jc:((j:Int)+1)*C=j*C+C:=by rw [Int.add_mul,Int.one_mul]
  have jm:((j:Int)+1)*C<=6*C:=aaA (by omega) c0;have j0:0<=(j:Int)*C:=aaY (by omega) c0;have ht:=zk h1.pos h1.he h1.u h2 ⟨aaH b0 e0,be,c0,ab0 c1 (by decide)⟩;have hp:=Lq hw ht ⟨aaH b0 e0,be,by omega,by omega⟩;rw [<-jc] at hp;have:=qv b0 e0 be c0 c1 ps _ (j+1) (by omega) (by exact_mod_cast hp) (λq hq=>h q (aac _ hq));rw [abl,aau,show j+(ps.length+1)=j+1+ps.length by omega];exact this
def qE:DF:=λas M q _=>∃(cs ns:List Fr) (E B C:Int),as=[.lst (cs.map Ξ),.lst (ns.map Ξ)]/\cs.length<=6/\0<B/\0<E/\B*E<2^2200/\0<=C/\C<2^300/\(∀c∈cs,Ch B c)/\(∀n∈ns,Nb E C n)/\q (Ξ (h8 (cs.zip ns))) M
theorem iS:Ε ["chances","numbers","whole","chance","number"] ["chances","numbers"] (τ qI):= .of rfl
theorem BV{f:Addr}{fd:FuncData}(F:cI K "weighed" "weighed" qI f fd)(E:Ev K mg w Cm){IA:Addr}{HF:FuncData}(oa:av P w K mg base 3 "plus" ["one","other"] Hs IA HF){r9:Addr}{sf:FuncData}(gf:av P w K mg base 3 "times" ["one","other"] vv r9 sf):aq P w K mg base (bV P w) 4 f fd ["chances","numbers"] (cC K qE):=by
 refine F.de iS (λds M q x h=>?_) (λaV A outer s H E' hr=>⟨_,(θ (Γ 2 iS.nd (fv (ι χ (ι χ η (hs:=dt)) (hs:=dt))))
   (θ (dw (Bm E.vh (Ρ (jv 0) (Ρ (jv 1) η))) (nP rfl (cz (ax (i:=3) iS.nd rfl (Or.inl rfl)) (cz (ax (i:=4) iS.nd rfl (Or.inl rfl)) kK))) oi (μ (Γ 2 iS.nd (ae oa hr ξ (Ρ (jv 2) (ι (ae gf hr ξ (Ρ (jv 3) (Ρ (jv 4) η))) η (hs:=aG)))))))
   (μ (Ζ (jv 2))))),λds M q x h=>?_⟩)
 ·obtain ⟨cs,ns,E,B,C,rfl,_⟩:=h;rfl
 ·obtain ⟨cs,ns,Ep,B,C,rfl,hz,b0,e0,be,c0,c1,hc,hn,h⟩:=h;refine ⟨by show 2<=sizeLine;decide,?_⟩;refine ⟨.lst (cs.map Ξ),.lst (ns.map Ξ),cs.map Ξ,ns.map Ξ,λ_=>True,λ_=>True,rfl,rfl,rfl,?_⟩;rw [HS];refine bZ (λxs ρ M'=>M'=M/\∃(rest:List (Fr×Fr)) (w:Fr) (a b:Option Dt) (j:Nat),xs=rest.map (λp=> .tup [Ξ p.1,Ξ p.2])/\(∀p∈rest,Ch B p.1/\Nb Ep C p.2)/\Nb (B*Ep) (j*C) w/\j+rest.length<=6/\rest.foldl (λw p=>fQ w (aZ p.1 p.2)) w=h8 (cs.zip ns)/\ρ=[some (.lst (cs.map Ξ)),some (.lst (ns.map Ξ)),some (Ξ w),a,b]) (λxs ρ M' hj=>⟨trivial,trivial⟩) (λx xs ρ M' hj fH=>?_) (λρ M' hj=>?_) _ _ _ ⟨rfl,cs.zip ns,(0,1),none,none,0,rfl,λp hp=>⟨hc _ (abk hp).1,hn _ (abk hp).2⟩,by rw [Int.natCast_zero,Int.zero_mul];exact Ti,?_,rfl,rfl⟩
  ·obtain ⟨rfl,rest,w,a,b,j,ex,xS,hw,hj,hf,rfl⟩:=hj;cases rest with
   |nil=>cases ex
   |cons p rest=>
    cases ex;obtain ⟨h1,h2⟩:=xS p aae;rw [aau] at hj;have ht:=zk h1.pos h1.he h1.u h2 ⟨aaH b0 e0,be,c0,ab0 c1 (by decide)⟩;refine ⟨p.1,p.2,300,2600,rfl,h1.sz,h2.sz,by decide,w,aZ p.1 p.2,2600,2600,rfl,hw.sz,ht.sz,by decide,?_⟩;refine fH _ _ ⟨rfl,rest,_,_,_,j+1,rfl,λp hp=>xS p (aac _ hp),?_,by omega,hf,rfl⟩;exact qv b0 e0 be c0 c1 [p] w j (by simp;omega) hw (λq hq=>by rw [List.mem_singleton.mp hq];exact ⟨h1,h2⟩)
  ·obtain ⟨rfl,rest,w,a,b,j,ex,xS,hw,hj,hf,rfl⟩:=hj;cases rest with
   |nil=>rw [<-hf] at h;exact h
   |cons p rest=>cases ex
  ·rw [abe];omega
def pN:List Int->Int
 |[]=>1
 |a::l=>a*pN l
theorem sN:∀{l:List Int},(∀a∈l,0<a)->0<pN l
 |[],_=>by decide
 |a::l,h=>aaH (h a aae) (sN λb hb=>h b (aac _ hb))
theorem CD:∀{l:List Int},(∀a∈l,0<a/\a<=1000000)->pN l<=1000000^l.length
 |[],_=>by decide
 |a::l,h=>by have i:=CD λb hb=>h b (aac _ hb);have p:=sN (l:=l) λb hb=>(h b (aac _ hb)).1;have h0:=h a aae;show a*pN l<=_;rw [aau,abA,aaR a];exact abj i h0.2 (aai h0.1) (abB (by decide))
theorem zQ:∀{l:List Int}{a:Int},a∈l->a∣pN l
 |b::l,a,h=>by
  rcases aay.mp h with e|e
  ·rw [e];exact ⟨pN l,rfl⟩
  ·obtain ⟨c,hc⟩:=zQ e;exact ⟨b*c,by show b*pN l=_;rw [hc];grind⟩
theorem zL{p:Fr}{E:Int}(h:p.2∣E):g9 p E:=by obtain ⟨k,e⟩:=h;exact ⟨p.1*k,by rw [e];grind⟩
theorem rC:∀{l:List Int}{a:Int},(∀b∈l,0<b)->a∈l->a<=l.sum
 |b::l,a,h,ha=>by
  have ih:∀{l:List Int},(∀b∈l,0<b)->0<=l.sum:=λ{l}=>by
   induction l with
   |nil=>intro _;exact Int.le_refl _
   |cons c l ih=>
    intro h;have:=ih λd hd=>h d (aac _ hd);have:=h c aae;rw [List.sum_cons];omega
  rw [List.sum_cons];have h0:=h b aae;rcases aay.mp ha with e|e
  ·have:=ih λd hd=>h d (aac _ hd);omega
  ·have:=rC (λd hd=>h d (aac _ hd)) e;omega
theorem MJ{cs:List Fr}(o:IU cs){c:Fr}(hc:c∈cs):0<c.2/\c.2∣bG cs/\gG c/\Sz 300 c:=by
 obtain ⟨a,b,d⟩:=o.Kx.2 c hc;have B0:=o.b0;obtain ⟨_,_,hB⟩:=iJ cs 1 0 (by decide) (ace _) λc hc=>⟨(o.Kx.2 c hc).1,ace _⟩;have dv:c.2∣bG cs:=hB c hc
 have le:=rC (l:=cs.map (lI (bG cs))) (λb hb=>by
  obtain ⟨x,hx,rfl⟩:=aaj.mp hb
  exact o.pos x hx) (aaj.mpr ⟨c,hc,rfl⟩)
 rw [o.sum] at le;have wp:=o.pos c hc;unfold lI at le wp;obtain ⟨m,em⟩:=dv;have em':bG cs/c.2=m:=by rw [em];exact aba m (by omega)
 rw [em'] at le wp;have m0:0<m:=by
  rw [em] at B0;rcases abZ 0 m with z|z
  ·exact z
  ·have:=aan z (aai a);omega
 have c0:0<=c.1:=by
  rcases abZ c.1 0 with z|z
  ·have:=aaA (aai z) (aai m0);omega
  ·exact z
 have c1:c.1<=c.2:=by rw [em] at le;exact Int.le_of_mul_le_mul_right le m0
 refine ⟨a,⟨m,em⟩,⟨c0,c1⟩,qg (k:=200) ⟨d,a,?_⟩ (by decide)⟩;have:(c.2.natAbs:Int)<((2^200:Nat):Int):=by rw [aa0 (aai a)];exact b
 exact abr.mp this
abbrev Pl:=List (Int×Int)
def kP(pl:Pl):List Key:=pl.map λp=>Sum.inl p.1
def vP(pl:Pl):List Dt:=pl.map λp=>Dt.int p.2
abbrev dP(pl:Pl):MO:= .ef (kP pl) (vP pl)
def Λ:Pl->Int->Option Int
 |[],_=>none
 |p::r,i=>if p.1=i then some p.2 else Λ r i
def eJ(pl:Pl)(i v:Int):Pl:=if (Λ pl i).isSome=true then pl.map (λp=>if p.1=i then (p.1,v) else p) else pl++[(i,v)]
theorem JX{a b:Int}:(decide ((Sum.inl a:Key)=Sum.inl b))=decide (a=b):=by
 by_cases h:a=b
 ·rw [decide_eq_true h,decide_eq_true (congrArg Sum.inl h)]
 ·rw [decide_eq_false h,decide_eq_false λz=>h (Sum.inl.inj z)]
theorem yR{i:Int}:∀{pl:Pl},c_ (kP pl) (vP pl) (Sum.inl i)=(Λ pl i).map Dt.int
 |[]=>rfl
 |p::r=>by
  have ih:=yR (i:=i) (pl:=r);unfold c_ at ih⊢;show (List.find? (λq:Key×Dt=>decide (q.1=Sum.inl i)) ((Sum.inl p.1,Dt.int p.2)::(kP r).zip (vP r))).map (·.2)=Option.map Dt.int (if p.1=i then some p.2 else Λ r i);rw [List.find?_cons,JX];by_cases h:p.1=i
  ·rw [decide_eq_true h,if_pos h];rfl
  ·rw [decide_eq_false h,if_neg h];exact ih
theorem MQ{i:Int}:∀{pl:Pl},Jv (kP pl) (Sum.inl i)=(Λ pl i).isSome
 |[]=>rfl
 |p::r=>by
  have ih:=MQ (i:=i) (pl:=r);unfold Jv at ih⊢;show (decide ((Sum.inl p.1:Key)=Sum.inl i) || (kP r).any λc=>decide (c=Sum.inl i))=(if p.1=i then some p.2 else Λ r i).isSome;rw [JX,ih];by_cases h:p.1=i
  ·rw [decide_eq_true h,if_pos h];rfl
  ·rw [decide_eq_false h,if_neg h,Bool.false_or]
theorem DY{i v:Int}:∀{pl:Pl},lu (Sum.inl i:Key) (Dt.int v) (kP pl) (vP pl)=vP (pl.map λp=>if p.1=i then (p.1,v) else p)
 |[]=>rfl
 |p::r=>by
  show (if (Sum.inl p.1:Key)=Sum.inl i then Dt.int v else Dt.int p.2)::lu (Sum.inl i:Key) (Dt.int v) (kP r) (vP r)=Dt.int (if p.1=i then (p.1,v) else p).2::vP (r.map λp=>if p.1=i then (p.1,v) else p);rw [DY];by_cases h:p.1=i
  ·rw [if_pos h,if_pos (congrArg Sum.inl h)]
  ·rw [if_neg h,if_neg λz=>h (Sum.inl.inj z)]
theorem Ar{i v:Int}:∀{pl:Pl},kP (pl.map λp=>if p.1=i then (p.1,v) else p)=kP pl
 |[]=>rfl
 |p::r=>by show (Sum.inl (if p.1=i then (p.1,v) else p).1:Key)::kP (r.map λp=>if p.1=i then (p.1,v) else p)=Sum.inl p.1::kP r;rw [Ar];split <;> rfl
theorem vf{pl:Pl}{i v:Int}:fL (kP pl) (Sum.inl i)=kP (eJ pl i v):=by
 unfold fL eJ;rw [MQ];split
 ·exact Ar.symm
 ·unfold kP;rw [List.map_append];rfl
theorem yt{pl:Pl}{i v:Int}:eA (kP pl) (Sum.inl i) (vP pl) (Dt.int v)=vP (eJ pl i v):=by
 unfold eA eJ;rw [MQ];split
 ·exact DY
 ·unfold vP;rw [List.map_append];rfl
theorem qp{i v j:Int}:∀{pl:Pl},Λ (pl.map λp=>if p.1=i then (p.1,v) else p) j=if j=i then (Λ pl j).map λ_=>v else Λ pl j
 |[]=>by split <;> rfl
 |p::r=>by
  have ih:=qp (i:=i) (v:=v) (j:=j) (pl:=r);rw [aaB];unfold Λ;by_cases h:p.1=i
  ·rw [if_pos h];by_cases hj:p.1=j
   ·rw [if_pos hj,if_pos hj,if_pos (by omega)];rfl
   ·rw [if_neg hj,if_neg hj];exact ih
  ·rw [if_neg h];by_cases hj:p.1=j
   ·rw [if_pos hj,if_pos hj,if_neg (by omega)]
   ·rw [if_neg hj,if_neg hj];exact ih
theorem DO{i j v:Int}:∀{pl:Pl},Λ (pl++[(i,v)]) j=if (Λ pl j).isSome=true then Λ pl j else if i=j then some v else none
 |[]=>rfl
 |p::r=>by
  have ih:=DO (i:=i) (j:=j) (v:=v) (pl:=r);rw [List.cons_append];unfold Λ;by_cases hj:p.1=j
  ·rw [if_pos hj,if_pos hj];rfl
  ·rw [if_neg hj,if_neg hj];exact ih
theorem qh{pl:Pl}{i v j:Int}:Λ (eJ pl i v) j=if j=i then some v else Λ pl j:=by
 unfold eJ;split
 ·rename_i h;rw [qp];split
  ·rename_i e;subst e;obtain ⟨x,hx⟩:=abo.mp h;rw [hx];rfl
  ·rfl
 ·rename_i h;rw [DO];by_cases e:j=i
  ·subst e;rw [if_neg h,if_pos rfl,if_pos rfl]
  ·rw [if_neg e];cases hj:Λ pl j with
   |none=>rw [if_neg (by simp),if_neg (by omega)]
   |some x=>rfl
def uX(pl:Pl):Prop:=(pl.map (·.1)).Nodup
theorem Ec{i v:Int}:∀{pl:Pl},Λ pl i=some v->(i,v)∈pl
 |[],h=>by cases h
 |p::r,h=>by
  unfold Λ at h;split at h
  ·rename_i e;have:p=(i,v):=by rw [<-e,<-aas h]
   rw [this];exact aae
  ·exact aac _ (Ec h)
theorem Kk{i:Int}{pl:Pl}(h:Λ pl i=none):i∉pl.map (·.1):=λz=>by
 obtain ⟨p,hp,e⟩:=aaj.mp z;have:∀{pl:Pl},p∈pl->Λ pl i≠none:=λ{pl}=>by
  induction pl with
  |nil=>intro h;cases h
  |cons q r ih=>
   intro h;unfold Λ;rcases aay.mp h with e'|e'
   ·rw [if_pos (by rw [<-e'];exact e)];simp
   ·split
    ·simp
    ·exact ih e'
 exact this hp h
theorem Pf{pl:Pl}{i v:Int}(h:uX pl):uX (eJ pl i v):=by
 unfold uX eJ;split
 ·have e:(pl.map λp=>if p.1=i then (p.1,v) else p).map (·.1)=pl.map (·.1):=by rw [aaC];refine aaT λp _=>?_;show (if p.1=i then (p.1,v) else p).1=p.1;split <;> rfl
  rw [e];exact h
 ·rename_i hn;have hn:Λ pl i=none:=by
   cases hg:Λ pl i with
   |none=>rfl
   |some x=>rw [hg] at hn;exact absurd rfl hn
  rw [aaS];refine List.nodup_append.mpr ⟨h,by simp,λa ha b hb z=>?_⟩;have:b=i:=by simpa using hb
  exact Kk hn (by rw [<-this,<-z];exact ha)
structure UZ(M:Ms)(k:Nat)(p1 p2:Pl):Prop where
 ex:∃k1 k2,M[k]? =some (.ef [Sum.inr "one",Sum.inr "other"] [.loc k1,.loc k2])/\M[k1]? =some (dP p1)/\M[k2]? =some (dP p2)
theorem aC{M E:Ms}{k:Nat}{m:MO}(h:M[k]? =some m):(M++E)[k]? =some m:=by rw [aao (aaf.mp h).1];exact h
def dM(pl:Pl)(i:Nat)(n:Nat):Bool:=match Λ pl i with
 |some v=>decide (0<=v)&&decide (v<n)
 |none=>false
def ao(p1 p2:Pl)(k:Str):Option Pl:=if k="one" then some p1 else if k="other" then some p2 else none
def jC(pf:Str->Option Pl)(i:Nat)(r:Rw):Bool:=match pf (kindOf r) with
 |some pl=>dM pl i (Ν r).length
 |none=>true
def fb(γ:List Rw)(pf:Str->Option Pl)(i:Nat):Bool:=match γ[i]? with
 |some r=>jC pf i r
 |none=>true
def cW(γ:List Rw)(pf:Str->Option Pl):Nat->Pl
 |0=>[]
 |n+1=>match (γ[n]?).bind λr=>pf (kindOf r) with
  |some pl=>eJ (cW γ pf n) n ((Λ pl n).getD 0)
  |none=>cW γ pf n
theorem vA(γ:List Rw)(pf:Str->Option Pl):∀n,(cW γ pf n).length<=n
 |0=>aah _
 |n+1=>by
  have ih:=vA γ pf n;unfold cW;split
  ·unfold eJ;split
   ·rw [aad];omega
   ·rw [aag];exact Nat.succ_le_succ ih
  ·omega
theorem i5(γ:List Rw)(pf:Str->Option Pl):∀(n i:Nat),Λ (cW γ pf n) i=if i<n then ((γ[i]?).bind λr=>pf (kindOf r)).map λpl=>(Λ pl i).getD 0 else none
 |0,i=>by rw [if_neg (abm _)];rfl
 |n+1,i=>by
  have ih:=i5 γ pf n i;have step:Λ (cW γ pf (n+1)) i=if i=n then (match (γ[n]?).bind λr=>pf (kindOf r) with|some pl=>some ((Λ pl n).getD 0)|none=>Λ (cW γ pf n) i) else Λ (cW γ pf n) i:=by
   rw [cW];cases hb:(γ[n]?).bind λr=>pf (kindOf r) with
   |none=>dsimp only;split <;> rfl
   |some pl=>
    dsimp only;rw [qh];by_cases e:i=n
    ·rw [if_pos e,if_pos (by omega)]
    ·rw [if_neg e,if_neg (by omega)]
  rw [step,ih];by_cases e:i=n
  ·subst e;rw [if_pos rfl,if_neg (abi _),if_pos (aa8 _)];cases (γ[i]?).bind λr=>pf (kindOf r) with
   |none=>rfl
   |some pl=>rfl
  ·rw [if_neg e];by_cases h:i<n
   ·rw [if_pos h,if_pos (by omega)]
   ·rw [if_neg h,if_neg (by omega)]
theorem LB(k:Str):Jv [Sum.inr "one",Sum.inr "other"] (Sum.inr k)=Β k:=by
 have e:∀z:Str,decide ((Sum.inr z:Key)=Sum.inr k)=(k==z):=λz=>by
  by_cases h:z=k
  ·rw [decide_eq_true (congrArg Sum.inr h),h];simp
  ·rw [decide_eq_false λy=>h (Sum.inr.inj y)];simp;exact λy=>h y.symm
 show (decide ((Sum.inr (Str.ofString "one"):Key)=Sum.inr k) || (decide ((Sum.inr (Str.ofString "other"):Key)=Sum.inr k) || false))=Β k;rw [e,e,Bool.or_false];rfl
theorem n6{p1 p2:Pl}{k:Str}(h:Β k=false):ao p1 p2 k=none:=by unfold Β at h;rw [Bool.or_eq_false_iff,beq_eq_false_iff_ne,beq_eq_false_iff_ne] at h;unfold ao;rw [if_neg h.1,if_neg h.2]
theorem CW{M:Ms}{k:Nat}{p1 p2:Pl}(h:UZ M k p1 p2){z:Str}(hz:Β z=true):∃ks ds k' pl,M[k]? =some (.ef ks ds)/\c_ ks ds (Sum.inr z)=some (.loc k')/\ao p1 p2 z=some pl/\M[k']? =some (dP pl):=by
 obtain ⟨k1,k2,a,b,c⟩:=h;unfold Β at hz;rw [ab7,beq_iff_eq,beq_iff_eq] at hz;rcases hz with rfl|rfl
 ·exact ⟨_,_,k1,p1,a,rfl,rfl,b⟩
 ·exact ⟨_,_,k2,p2,a,rfl,rfl,c⟩
def Og(M:Ms)(k:Nat)(pf:Str->Option Pl):Prop:=∃ks ds,M[k]? =some (.ef ks ds)/\∀z:Str,Jv ks (Sum.inr z)=(pf z).isSome/\∀pl,pf z=some pl->∃k',c_ ks ds (Sum.inr z)=some (.loc k')/\M[k']? =some (dP pl)
theorem Og.app{M E:Ms}{k:Nat}{pf:Str->Option Pl}(h:Og M k pf):Og (M++E) k pf:=by obtain ⟨ks,ds,a,b⟩:=h;refine ⟨ks,ds,aC a,λz=>⟨(b z).1,λpl e=>?_⟩⟩;obtain ⟨k',c,d⟩:=(b z).2 pl e;exact ⟨k',c,aC d⟩
theorem UZ.pls{M:Ms}{k:Nat}{p1 p2:Pl}(h:UZ M k p1 p2):Og M k (ao p1 p2):=by
 obtain ⟨k1,k2,a,b,c⟩:=id h;refine ⟨_,_,a,λz=>⟨?_,λpl e=>?_⟩⟩
 ·rw [LB];cases hz:Β z with
  |false=>rw [n6 hz];rfl
  |true=>
   obtain ⟨_,_,_,_,_,_,g3,_⟩:=CW h hz;rw [g3];rfl
 ·cases hz:Β z with
  |false=>rw [n6 hz] at e;cases e
  |true=>
   obtain ⟨ks,ds,k',xT,g1,g2,g3,g4⟩:=CW h hz;rw [a] at g1;cases g1;rw [g3] at e;cases e;exact ⟨k',g2,g4⟩
def T2(A:Addr):DF:=λas M q _=>∃ε γ i r k pl,as=[az A ε γ,.loc k,.int (i:Nat)]/\M[k]? =some (dP pl)/\γ[i]? =some r/\fP r/\q (.bl (dM pl i (Ν r).length)) M
theorem FI:Ε ["floor","plan","place"] ["floor","plan","place"] (τ q5):= .of rfl
theorem A2{f:Addr}{fd:FuncData}(F:cI K "has_door" "has_door" q5 f fd)(E:Ev K mg w Cm){cN:Addr}{cP:FuncData}(aK:cU P w K mg base 2 Cm "doors" ["self","place"] (rX Cm) cN cP):aq P w K mg base (bV P w) 3 f fd ["floor","plan","place"] (cC K (T2 Cm)):=by
 refine F.de FI (λds M q x h=>?_) (λaV A outer s H E' hr=>⟨_,(μ (Ζ (iy (Tb hr (jv 2) (jv 1)) (iy (zt χ (oK hr (jv 1) (jv 2))) (lE (Mx (oK hr (jv 1) (jv 2)) (bU E.bo (ι (cc (bQ aK hr ξ (jv 0) (Ρ (jv 2) η))) η (hs:=aG))))))))),λds M q x h=>?_⟩)
 ·obtain ⟨ε,γ,i,r,k,pl,rfl,_⟩:=h;rfl
 ·obtain ⟨ε,γ,i,r,k,pl,rfl,hk,hi,ro,h⟩:=h;unfold dM at h;have gi:(Sum.inl (i:Int):Key)=Sum.inl ((i:Nat):Int):=rfl;refine ⟨k,_,_,Sum.inl (i:Int),rfl,hk,rfl,?_⟩;rw [MQ];cases hg:Λ pl i with
  |none=>
   rw [hg] at h;exact ⟨λz=>(nomatch z),λ_=>h⟩
  |some v=>
   rw [hg] at h;have h:q (.bl (decide (0<=v)&&decide (v<((Ν r).length:Int)))) M:=h;have dg:c_ (kP pl) (vP pl) (Sum.inl (i:Int))=some (.int v):=by rw [yR,hg];rfl
   refine ⟨λ_=>?_,λz=>(nomatch z)⟩;refine ⟨k,_,_,Sum.inl (i:Int),_,rfl,hk,rfl,dg,?_⟩;refine ⟨λz=>?_,λz=>?_⟩
   ·have z:0<=v:=of_decide_eq_true z;rw [decide_eq_true z,Bool.true_and] at h;refine ⟨k,_,_,Sum.inl (i:Int),_,rfl,hk,rfl,dg,?_⟩;refine ⟨⟨_,_,.inl rfl,rfl⟩,ε,γ,i,r,rfl,hi,ro,cT (hV _) ?_⟩;walk_at "vc";refine (au (d:= .lst ((Ν r).map eO)) (xs:=(Ν r).map eO) rfl ?_:eZ [.lst ((Ν r).map eO)] _ _);rw [aad];exact h
   ·have z:¬0<=v:=of_decide_eq_false z;rw [decide_eq_false z,Bool.false_and] at h;have key:decide (0<=v)=false:=decide_eq_false z;exact h
def qz(A:Addr):DF:=λas M q _=>∃ε γ k pf,as=[az A ε γ,.loc k]/\Og M k pf/\OT ε γ/\(∀i,i<γ.length->fb γ pf i=true)/\q (.loc M.length) (M++[dP (cW γ pf γ.length)])
theorem kO:Ε ["floor","plans","doors","place","hand"] ["floor","plans"] (τ rS):= .of rfl
theorem AO{f:Addr}{fd:FuncData}(F:cI K "doors_of" "doors_of" rS f fd)(E:Ev K mg w Cm){dR:Addr}{dW:FuncData}(aX:cU P w K mg base 1 Cm "size" ["self"] (zT Cm) dR dW){aO:Addr}{aM:FuncData}(Τ:cU P w K mg base 1 Cm "kind" ["self","place"] (mI Cm) aO aM){Jf:Addr}{HA:FuncData}(oZ:av P w K mg base 3 "has_door" ["floor","plan","place"] (T2 Cm) Jf HA):aq P w K mg base (bV P w) 4 f fd ["floor","plans"] (cC K (qz Cm)):=by
 refine F.de kO (λds M q x h=>?_) (λaV A outer s H E' hr=>⟨_,(θ (Γ 2 kO.nd wJ)
   (θ (ie (cR E.bW (ι (kG aX hr ξ (jv 0)) η (hs:=aG))) (ax (i:=3) kO.nd rfl (Or.inl rfl)) aS (θ (Γ 4 kO.nd (bQ Τ hr ξ (jv 0) (Ρ (jv 3) η)))
   (θ (aD (Fh hr (jv 4) (jv 1)) (μ pH) Υ)
   (θ (aD (eR (bB (ae oZ hr ξ (Ρ (jv 0) (ι (oK hr (jv 1) (jv 4)) (Ρ (jv 3) η) (hs:=aQ)))))) (μ fq) Υ)
   (μ (qm hr (jv 2) (jv 3) (oK hr (oK hr (jv 1) (jv 4)) (jv 3))))))))
   (μ (Ζ (jv 2))))),λds M q x h=>?_⟩)
 ·obtain ⟨ε,γ,k,pf,rfl,_⟩:=h;rfl
 ·obtain ⟨ε,γ,k,pf,rfl,tw,pl,gd0,hg⟩:=h;have lF:=pl.len;have km:k≠M.length:=λe=>by obtain ⟨ks,ds,a,_⟩:=tw;rw [e,abL (aah _)] at a;cases a
  walk_at "vc";refine ⟨⟨_,_,.inl rfl,rfl⟩,ε,γ,rfl,?_⟩;refine ⟨by omega,?_⟩;rw [show ((γ.length:Int)).toNat=γ.length by omega];refine cL (λzs ρ' M'=>∃(i m:Nat) (o3 o4:Option Dt),zs=dU (i:Int) m/\i+m=γ.length/\M'=M++[dP (cW γ pf i)]/\ρ'=[some (az Cm ε γ),some (.loc k),some (.loc M.length),o3,o4]) (λx zs ρ' M' hj fH=>?_) (λρ' M' hj=>?_) _ _ _ ⟨0,γ.length,none,none,rfl,by omega,rfl,rfl⟩
  ·obtain ⟨i,m,o3,o4,ex,im,rfl,rfl⟩:=hj;obtain ⟨m',rfl,rfl,rfl⟩:=cE ex;have il:i<γ.length:=by omega
   have hi:γ[i]? =some γ[i]:=aaa il;generalize hr0:γ[i]=r at *
   have rm:r∈γ:=aak hi;have ro:=(pl.row r rm).1;have ga:fb γ pf i=jC pf i r:=by unfold fb;rw [hi]
   have ac:∀xT,pf (kindOf r)=some xT->cW γ pf (i+1)=eJ (cW γ pf i) i ((Λ xT i).getD 0):=λxT e=>by rw [cW,hi];show (match pf (kindOf r) with|some pl=>_|none=>_)=_;rw [e]
   have an:pf (kindOf r)=none->cW γ pf (i+1)=cW γ pf i:=λe=>by rw [cW,hi];show (match pf (kindOf r) with|some pl=>_|none=>_)=_;rw [e]
   obtain ⟨ks,ds,ca,cb⟩:=(tw.app:Og (M++[dP (cW γ pf i)]) k pf);refine ⟨⟨_,_,.inl rfl,rfl⟩,ε,γ,i,r,rfl,hi,?_⟩;refine ⟨k,_,_,Sum.inr (kindOf r),rfl,ca,rfl,?_⟩;rw [(cb (kindOf r)).1];cases hh:pf (kindOf r) with
   |none=>
    refine ⟨λ_=>?_,λz=>(nomatch z)⟩;have e:=hh;refine fH _ _ ⟨i+1,m',_,_,by rw [abF];rfl,by omega,by rw [an e],rfl⟩
   |some xT=>
    refine ⟨λz=>(nomatch z),λ_=>?_⟩;obtain ⟨k',g2,g4⟩:=(cb (kindOf r)).2 xT hh;have g1:=ca;have g3:=hh;refine ⟨k,ks,ds,Sum.inr (kindOf r),_,rfl,g1,rfl,g2,?_⟩;have gr:jC pf i r=dM xT i (Ν r).length:=by unfold jC;rw [g3]
    refine ⟨ε,γ,i,r,k',xT,rfl,g4,hi,ro,λz=>?_,λz=>?_⟩
    ·have z:dM xT i (Ν r).length=false:=by simpa using z
     have:=gd0 i il;rw [ga,gr,z] at this;cases this
    ·have z:dM xT i (Ν r).length=true:=by simpa using z
     obtain ⟨v,hv⟩:∃v,Λ xT i=some v:=by
      unfold dM at z;cases hv:Λ xT i with
      |none=>rw [hv] at z;cases z
      |some v=>exact ⟨v,rfl⟩
     have dg:c_ (kP xT) (vP xT) (Sum.inl (i:Int))=some (.int v):=by rw [yR,hv];rfl
     dsimp only [xv,Np];walk_at "vc";refine ⟨k,ks,ds,Sum.inr (kindOf r),_,rfl,g1,rfl,g2,?_⟩;refine ⟨k',_,_,Sum.inl (i:Int),_,rfl,g4,rfl,dg,?_⟩;refine ⟨M.length,_,_,Sum.inl (i:Int),rfl,aI,rfl,?_,?_⟩
     ·unfold kP;rw [List.length_map];have:=vA γ pf i;omega
     rw [vf (v:=v),yt,dE];have e:=ac xT g3;rw [hv] at e;have e:cW γ pf (i+1)=eJ (cW γ pf i) i v:=e;refine fH _ _ ⟨i+1,m',_,_,by rw [abF];rfl,by omega,by rw [e],rfl⟩
  ·obtain ⟨i,m,o3,o4,ex,im,rfl,rfl⟩:=hj;have m0:m=0:=by have:=congrArg List.length ex;rw [gD] at this;exact this.symm
   have:i=γ.length:=by omega
   subst this;exact hg
structure gO(γ:List Rw)(Ι:Pl):Prop where
 hand:∀(i:Nat) (r:Rw),γ[i]? =some r->Β (kindOf r)=true->∃j:Nat,Λ Ι i=some (j:Int)/\j<(Ν r).length
 Kp:∀(i:Nat) (r:Rw),γ[i]? =some r->Β (kindOf r)=false->Λ Ι i=none
theorem pw{γ:List Rw}{p1 p2:Pl}(h:∀i,i<γ.length->fb γ (ao p1 p2) i=true):gO γ (cW γ (ao p1 p2) γ.length):=by
 refine ⟨λi r hi hk=>?_,λi r hi hk=>?_⟩
 ·have il:=(aaf.mp hi).1;have g:=h i il;unfold fb at g;rw [hi] at g;have g:jC (ao p1 p2) i r=true:=g;obtain ⟨pl,e⟩:∃pl,ao p1 p2 (kindOf r)=some pl:=by
   unfold Β at hk;rw [ab7,beq_iff_eq,beq_iff_eq] at hk;rcases hk with e|e <;> rw [e]
   ·exact ⟨p1,rfl⟩
   ·exact ⟨p2,rfl⟩
  unfold jC at g;rw [e] at g;have g:dM pl i (Ν r).length=true:=g;unfold dM at g;cases hv:Λ pl i with
  |none=>rw [hv] at g;cases g
  |some v=>
   rw [hv] at g;have g:(decide (0<=v)&&decide (v<((Ν r).length:Int)))=true:=g;rw [aar,decide_eq_true_iff,decide_eq_true_iff] at g;refine ⟨v.toNat,?_,by omega⟩;rw [i5,if_pos il,hi];show Option.map (λpl=>(Λ pl i).getD 0) (ao p1 p2 (kindOf r))=_;rw [e];show some ((Λ pl i).getD 0)=_;rw [hv,abW g.1];rfl
 ·have il:=(aaf.mp hi).1;rw [i5,if_pos il,hi];show Option.map (λpl=>(Λ pl i).getD 0) (ao p1 p2 (kindOf r))=_;rw [n6 hk];rfl
def aJ(Ι:Pl)(i:Nat)(r:Rw):List cj:=match Λ Ι i with
 |some j=>let d:=(Ν r).getD j.toNat d0;[(d.1,d.2.1,d.2.2++[(1,1)])]
 |none=>Ν r
def Nf(A:Addr):DF:=λas M q _=>∃ε γ i r k Ι,as=[az A ε γ,.int (i:Nat),.loc k]/\M[k]? =some (dP Ι)/\γ[i]? =some r/\fP r/\gO γ Ι/\q (.lst ((aJ Ι i r).map eO)) M
theorem qP:Ε ["floor","place","doors","ways"] ["floor","place","doors"] (τ n8):= .of rfl
theorem yj{f:Addr}{fd:FuncData}(F:cI K "ways_from" "ways_from" n8 f fd)(E:Ev K mg w Cm){cN:Addr}{cP:FuncData}(aK:cU P w K mg base 2 Cm "doors" ["self","place"] (rX Cm) cN cP){aO:Addr}{aM:FuncData}(Τ:cU P w K mg base 1 Cm "kind" ["self","place"] (mI Cm) aO aM):aq P w K mg base (bV P w) 3 f fd ["floor","place","doors"] (cC K (Nf Cm)):=by
 refine F.de qP (λds M q x h=>?_) (λaV A outer s H E' hr=>⟨_,(θ (Γ 3 qP.nd (cc (bQ aK hr ξ (jv 0) (Ρ (jv 1) η))))
   (θ (aD (HP (bQ Τ hr ξ (jv 0) (Ρ (jv 1) η)) (GZ E.wd)) (μ (Ζ (lq (ι (cG (Μ (jv 3) (oK hr (jv 2) (jv 1))) (eE 3 (d:= .tup [.tup [.int 1,.int 1]]) (by rfl))) η (hs:=bY))))) Υ)
   (μ (Ζ (jv 3))))),λds M q x h=>?_⟩)
 ·obtain ⟨ε,γ,i,r,k,Ι,rfl,_⟩:=h;rfl
 ·obtain ⟨ε,γ,i,r,k,Ι,rfl,hk,hi,ro,dk,h⟩:=h;refine ⟨⟨_,_,.inl rfl,rfl⟩,ε,γ,i,r,rfl,hi,ro,cT (hV _) ?_⟩;refine ⟨⟨_,_,.inl rfl,rfl⟩,ε,γ,i,r,rfl,hi,?_⟩;refine ⟨_,_,_,rfl,rfl,rfl,?_⟩;rw [rV];cases hh:Β (kindOf r) with
  |true=>
   refine ⟨λ_=>?_,λz=>(nomatch z)⟩;obtain ⟨j,hj,jl⟩:=dk.hand i r hi hh;have dg:c_ (kP Ι) (vP Ι) (Sum.inl (i:Int))=some (.int (j:Int)):=by rw [yR,hj];rfl
   have e:aJ Ι i r=[(((Ν r).getD j d0).1,((Ν r).getD j d0).2.1,((Ν r).getD j d0).2.2++[(1,1)])]:=by unfold aJ;rw [hj];rfl
   rw [e] at h;have gd:(Ν r).getD j d0=(Ν r)[j]:=by rw [aab,aaa jl];rfl
   have dm:(Ν r)[j].2.2.length<=1:=by
    cases r with
    |fin p=>exact absurd jl (abm _)
    |υ k' ds=>exact (ro.2.2.2 _ (aax jl)).1
   rw [gd] at h;obtain ⟨d,hd⟩:∃d,d=(Ν r)[j]:=⟨_,rfl⟩;rw [<-hd] at h dm;walk_at "vc";refine ⟨k,_,_,Sum.inl (i:Int),_,rfl,hk,rfl,dg,?_⟩;refine (Η (d:= .lst ((Ν r).map eO)) rfl (SJ jl) ?_:dF (.lst ((Ν r).map eO)) (.int (j:Int)) _ _);rw [<-hd];have sz:∀{z:Nat},z<=1000->z<=sizeLine:=λh=>aaq h (by decide);refine ⟨⟨λz=>(nomatch z),sz ?_⟩,sz (by decide),?_⟩
   ·simp;omega
   have e2:eO (d.1,d.2.1,d.2.2++[(1,1)])= .tup ((.int d.1::Ξ d.2.1::d.2.2.map Ξ)++[.tup [.int 1,.int 1]]):=by unfold eO;rw [List.map_append];rfl
   have h:q (.lst [eO (d.1,d.2.1,d.2.2++[(1,1)])]) M:=h;rw [e2] at h;exact h
  |false=>
   refine ⟨λz=>(nomatch z),λ_=>?_⟩;have e:aJ Ι i r=Ν r:=by unfold aJ;rw [dk.Kp i r hi hh]
   rw [e] at h;exact h
def dc(f:Nat->Rat):Nat->Rat
 |0=>0
 |n+1=>dc f n+f n
def aW(f:cj->Rat):List cj->Rat
 |[]=>0
 |d::ds=>f d+aW f ds
theorem dJ{f g:Nat->Rat}:∀{n:Nat},(∀i,i<n->f i=g i)->dc f n=dc g n
 |0,_=>rfl
 |n+1,h=>by show dc f n+f n=dc g n+g n;rw [dJ λi hi=>h i (abE hi),h n (aa8 _)]
theorem rj(a b:Rat)(f g:Nat->Rat):∀n,dc (λi=>a*f i-b*g i) n=a*dc f n-b*dc g n
 |0=>by show (0:Rat)=a*0-b*0;grind
 |n+1=>by show dc (λi=>a*f i-b*g i) n+(a*f n-b*g n)=a*(dc f n+f n)-b*(dc g n+g n);rw [rj a b f g n];grind
theorem ya{t:Nat}(y:Nat->Rat):∀{n:Nat},n<=t->dc (λx=>(if x=t then 1 else 0)*y x) n=0
 |0,_=>rfl
 |n+1,h=>by show dc (λx=>(if x=t then 1 else 0)*y x) n+(if n=t then 1 else 0)*y n=0;rw [ya y (by omega),if_neg (by omega)];grind
theorem qQ{t:Nat}(y:Nat->Rat):∀{n:Nat},t<n->dc (λx=>(if x=t then 1 else 0)*y x) n=y t
 |0,h=>absurd h (abm _)
 |n+1,h=>by
  show dc (λx=>(if x=t then 1 else 0)*y x) n+(if n=t then 1 else 0)*y n=y t;by_cases e:n=t
  ·subst e;rw [ya y (Nat.le_refl _),if_pos rfl];grind
  ·rw [qQ y (by omega),if_neg e];grind
theorem oF(f:Nat->Int):∀n,((Bz.Δ f n:Int):Rat)=dc (λi=>(f i:Rat)) n
 |0=>rfl
 |n+1=>by show ((Bz.Δ f n+f n:Int):Rat)=dc (λi=>(f i:Rat)) n+f n;rw [Rat.intCast_add,oF f n]
def ab(q:Rat):Rat:=if q<0 then -q else q
theorem k7{x m:Rat}:ab x<=m↔ -m<=x/\x<=m:=by unfold ab;split <;> grind
theorem Pu(x:Rat):0<=ab x:=by unfold ab;split <;> grind
theorem Kd(x:Nat->Rat):∀n,∃i,i<n+1/\∀j,j<n+1->ab (x j)<=ab (x i)
 |0=>⟨0,by omega,λj hj=>by rw [show j=0 by omega];grind⟩
 |n+1=>by
  obtain ⟨i,hi,h⟩:=Kd x n;by_cases c:ab (x i)<=ab (x (n+1))
  ·refine ⟨n+1,by omega,λj hj=>?_⟩;by_cases e:j=n+1
   ·subst e;grind
   ·have:=h j (by omega);grind
  ·refine ⟨i,by omega,λj hj=>?_⟩;by_cases e:j=n+1
   ·subst e;grind
   ·exact h j (by omega)
theorem Kl{n:Nat}{x:Nat->Rat}{s c:Rat}(s1:s<1)(h:∀i,i<n->∀m,(∀j,j<n->ab (x j)<=m)->ab (x i)<=c+s*m):∀i,i<n->ab (x i)*(1-s)<=c:=λi hi=>by obtain ⟨k,rfl⟩:∃k,n=k+1:=⟨n-1,by omega⟩;obtain ⟨t,ht,TY⟩:=Kd x k;have h1:=h t ht _ TY;have h2:=TY i hi;have:=Rat.mul_le_mul_of_nonneg_right h2 (show 0<=1-s by grind);grind
theorem mi{f g:cj->Rat}:∀{ds:List cj},(∀d∈ds,f d=g d)->aW f ds=aW g ds
 |[],_=>rfl
 |d::ds,h=>by show f d+aW f ds=g d+aW g ds;rw [h d aae,mi λx hx=>h x (aac _ hx)]
theorem qX(f g:cj->Rat):∀ds:List cj,aW (λd=>f d-g d) ds=aW f ds-aW g ds
 |[]=>by show (0:Rat)=0-0;grind
 |d::ds=>by show (f d-g d)+aW (λd=>f d-g d) ds=(f d+aW f ds)-(g d+aW g ds);rw [qX f g ds];grind
abbrev cV(d:cj):Rat:=val (ω d)
structure Cz(n:Nat)(Ψ:List cj):Prop where
 to:∀d∈Ψ,0<=d.1/\d.1<n
 c0:∀d∈Ψ,0<=cV d
 one:aW cV Ψ<=1
theorem Eb{n:Nat}{y:Nat->Rat}{m:Rat}(hm:∀j,j<n->ab (y j)<=m):∀{Ψ:List cj},(∀d∈Ψ,0<=d.1/\d.1<n)->(∀d∈Ψ,0<=cV d)->ab (aW (λd=>cV d*y d.1.toNat) Ψ)<=aW cV Ψ*m
 |[],_,_=>by show ab 0<=0*m;unfold ab;rw [if_neg (by grind)];grind
 |d::Ψ,h1,h2=>by have i:=Eb hm (λx hx=>h1 x (aac _ hx)) (λx hx=>h2 x (aac _ hx));obtain ⟨a,b⟩:=h1 d aae;have c:=h2 d aae;have y1:=k7.mp (hm d.1.toNat (by omega));show ab (cV d*y d.1.toNat+aW (λd=>cV d*y d.1.toNat) Ψ)<=(cV d+aW cV Ψ)*m;have e1:=aaJ y1.1 c;have e2:=aaJ y1.2 c;have i:=k7.mp i;refine k7.mpr ⟨?_,?_⟩ <;> grind
theorem Dw{n:Nat}{Ψ:List cj}(w:Cz n Ψ)(n0:0<n){y:Nat->Rat}{m:Rat}(hm:∀j,j<n->ab (y j)<=m):ab (aW (λd=>cV d*y d.1.toNat) Ψ)<=m:=by
 have:=Eb hm w.to w.c0;have m0:0<=m:=by have:=hm 0 n0;have:=Pu (y 0);grind
 have:=abn w.one m0;grind
theorem GY{B:Int}{c:Fr}(h:0<c.2)(hd:c.2∣B):((lI B c:Int):Rat)=val c*B:=by
 obtain ⟨k,rfl⟩:=hd;unfold lI val;rw [aba _ (by omega),aaD,aaD];have:=bc (show c.2≠0 by omega);generalize (c.1:Rat)=a at *
 generalize (c.2:Rat)=b at *
 generalize (k:Rat)=e at *
 grind
theorem Iw{B:Int}:∀{ds:List cj},(∀d∈ds,0<(ω d).2/\(ω d).2∣B)->((((ds.map ω).map (lI B)).sum:Int):Rat)=aW cV ds*B
 |[],_=>by show ((0:Int):Rat)=0*B;grind
 |d::ds,h=>by have i:=Iw (ds:=ds) λx hx=>h x (aac _ hx);obtain ⟨a,b⟩:=h d aae;show (((lI B (ω d)+((ds.map ω).map (lI B)).sum:Int)):Rat)=(cV d+aW cV ds)*B;rw [Rat.intCast_add,i,GY a b];grind
theorem rJ{c:Fr}(h:0<c.2)(h0:0<=c.1):0<=val c:=by
 have e:val c*(c.2:Rat)=c.1:=by
  have:=bc (show c.2≠0 by omega);unfold val;generalize (c.1:Rat)=x at *
  generalize (c.2:Rat)=y at *
  grind
 have p:(0:Rat)<(c.2:Rat):=abg.mpr h;have q:(0:Rat)<=(c.1:Rat):=aaU.mpr h0;by_cases z:0<=val c
 ·exact z
 ·have:=Rat.mul_pos (show 0< -val c by grind) p;grind
theorem K8{ds:List cj}(o:IU (ds.map ω)):aW cV ds=1/\∀d∈ds,0<=cV d:=by
 obtain ⟨_,_,hB⟩:=iJ (ds.map ω) 1 0 (by decide) (ace _) λc hc=>⟨(o.Kx.2 c hc).1,ace _⟩;have hm:∀d∈ds,ω d∈ds.map ω:=λd hd=>aaj.mpr ⟨d,hd,rfl⟩;have e:=Iw (B:=bG (ds.map ω)) (ds:=ds) λd hd=>⟨(o.Kx.2 _ (hm d hd)).1,hB _ (hm d hd)⟩;rw [o.sum] at e;have b0:=bc (show bG (ds.map ω)≠0 by have:=o.b0;omega);refine ⟨?_,λd hd=>?_⟩
 ·generalize ((bG (ds.map ω):Int):Rat)=b at *
  grind
 ·refine rJ (o.Kx.2 _ (hm d hd)).1 ?_;have p:=o.pos _ (hm d hd);unfold lI at p;have q0:0<=bG (ds.map ω)/(ω d).2:=Int.ediv_nonneg (aai o.b0) (aai (o.Kx.2 _ (hm d hd)).1);rcases abZ (ω d).1 0 with z|z
  ·have:=Int.mul_nonpos_of_nonpos_of_nonneg (aai z) q0;omega
  ·exact z
theorem Eu{p q:Fr}(hp:0<p.2)(hq:0<q.2):val (ip p q)=val p-val q:=by
 unfold ip;rw [j2 (abb (aaH hp hq))];have h1:=bc (show p.2≠0 by omega);have h2:=bc (show q.2≠0 by omega);rw [Rat.intCast_sub,aaD,aaD,aaD];unfold val;generalize (p.1:Rat)=a at *
 generalize (p.2:Rat)=b at *
 generalize (q.1:Rat)=c at *
 generalize (q.2:Rat)=d at *
 grind
theorem AK{p q:Fr}{E:Int}(hp:0<p.2)(hq:0<q.2)(h:g9 p E)(h':g9 q E):g9 (ip p q) E:=by obtain ⟨N,e⟩:=h;obtain ⟨N',e'⟩:=h';unfold ip;exact oy (N:=N-N') (Int.ne_of_gt (Int.mul_pos hp hq)) (by grind)
theorem EX{p q:Fr}{C D:Int}(hp:0<p.2)(hq:0<q.2)(h:d7 p C)(h':d7 q D):d7 (ip p q) (C+D):=by
 unfold ip;have a:=bX h.1 (aai hq);have b:=bX h'.1 (aai hp);have c:=bX h.2 (aai hq);have d:=bX h'.2 (aai hp);refine nA (aaH hp hq) ?_ ?_
 ·have e:p.2*q.2*(C+D)=p.2*C*q.2+q.2*D*p.2:=by grind
  have e2: -(q.2*D)*p.2= -(q.2*D*p.2):=by grind
  omega
 ·have e: -(p.2*q.2*(C+D))= -(p.2*C)*q.2+ -(q.2*D*p.2):=by grind
  omega
structure Nr(E C:Int)(p:Fr):Prop where
 red:Red p
 he:g9 p E
 ab:d7 p C
structure lD(n:Nat)(E C:Int)(v:Nat->Rat)(ns:List Fr):Prop where
 len:ns.length=n
 nr:∀x,x<n->Nr E C (ns.getD x (0,1))
 val:∀x,x<n->val (ns.getD x (0,1))=v x
def si(ε:Fr)(ns:List Fr)(d:cj):List Fr:=ns.set d.1.toNat (ip (ns.getD d.1.toNat (0,1)) (aZ ε (ω d)))
def gJ(ε:Fr)(n i:Nat)(Ψ:List cj):List Fr:=Ψ.foldl (si ε) ((List.replicate n ((0,1):Fr)).set i (1,1))
theorem U4{E C:Int}(c:0<=C):Nr E C (0,1):=⟨⟨by decide,by decide⟩,⟨0,by simp⟩,⟨by show (0:Int)<=1*C;omega,by show -(1*C)<=(0:Int);omega⟩⟩
theorem Xn{E:Int}:Nr E 1 (1,1):=⟨⟨by decide,by decide⟩,⟨E,by simp⟩,⟨by decide,by decide⟩⟩
theorem Af{ns:List Fr}{t x:Nat}{a:Fr}(h:t<ns.length):(ns.set t a).getD x (0,1)=if x=t then a else ns.getD x (0,1):=by
 rw [aab,List.getElem?_set];by_cases e:x=t
 ·subst e;rw [if_pos rfl,if_pos h,if_pos rfl];rfl
 ·rw [if_neg (Ne.symm e),if_neg e,<-aab]
theorem G6{n i:Nat}{E:Int}(hi:i<n):lD n E 1 (λx=>if x=i then 1 else 0) ((List.replicate n ((0,1):Fr)).set i (1,1)):=by
 have g:∀x,((List.replicate n ((0,1):Fr)).set i (1,1)).getD x (0,1)=if x=i then (1,1) else (0,1):=λx=>by
  rw [Af (by simpa using hi)]
  congr 1
  rw [aab,abG];split <;> rfl
 refine ⟨by simp,λx _=>?_,λx _=>?_⟩
 ·rw [g];split
  ·exact Xn
  ·exact U4 (by decide)
 ·rw [g];show Pg.val (if x=i then (1,1) else (0,1))=if x=i then 1 else 0
  unfold Pg.val;split
  ·show ((1:Int):Rat)/((1:Int):Rat)=1;grind
  ·show ((0:Int):Rat)/((1:Int):Rat)=0;grind
structure QG(ε:Fr)(E:Int)(d:cj):Prop where
 s0:0<ε.2
 su:gG ε
 c0:0<(ω d).2
 cu:gG (ω d)
 he:g9 (aZ ε (ω d)) E
theorem QG.nr{ε:Fr}{E:Int}{d:cj}(h:QG ε E d):Nr E 1 (aZ ε (ω d)):=by have p:=aaH h.s0 h.c0;have u:=Bl h.s0 h.c0 h.su h.cu;have r:Red (aZ ε (ω d)):=cy (abb p);have rp:=r.pos;obtain ⟨u1,u2⟩:=u;exact ⟨r,h.he,⟨by omega,by omega⟩⟩
theorem zc{n:Nat}{ε:Fr}{E C:Int}{v:Nat->Rat}{ns:List Fr}{d:cj}(h:lD n E C v ns)(c:0<=C)(hd:0<=d.1/\d.1<n)(sc:QG ε E d):lD n E (C+1) (λx=>v x-Pg.val ε*((if d.1.toNat=x then 1 else 0)*cV d)) (si ε ns d):=by
 have ht:d.1.toNat<ns.length:=by rw [h.len];omega
 have k:=sc.nr;have g:=λx=>Af (x:=x) (a:=ip (ns.getD d.1.toNat (0,1)) (aZ ε (ω d))) ht;refine ⟨by unfold si;rw [List.length_set];exact h.len,λx hx=>?_,λx hx=>?_⟩
 ·unfold si;rw [g];have a:=h.nr x hx;split
  ·rename_i e;rw [<-e];have p:=aaH a.red.pos k.red.pos;exact ⟨cy (abb p),AK a.red.pos k.red.pos a.he k.he,EX a.red.pos k.red.pos a.ab k.ab⟩
  ·have:=aan (show C<=C+1 by omega) (aai a.red.pos);exact ⟨a.red,a.he,⟨abf a.ab.1 this,by have:=a.ab.2;omega⟩⟩
 ·unfold si;rw [g];have a:=h.nr x hx;have b:=h.val x hx;split
  ·rename_i e;rw [<-e,Eu a.red.pos k.red.pos,b,oo sc.s0 sc.c0,if_pos rfl];grind
  ·rename_i e;rw [b,if_neg (Ne.symm e)];grind
theorem u_{n:Nat}{ε:Fr}{E:Int}:∀{Ψ:List cj}{ns:List Fr}{v:Nat->Rat}{C:Int},(∀d∈Ψ,(0<=d.1/\d.1<n)/\QG ε E d)->0<=C->lD n E C v ns->lD n E (C+Ψ.length) (λx=>v x-Pg.val ε*aW (λd=>(if d.1.toNat=x then 1 else 0)*cV d) Ψ) (Ψ.foldl (si ε) ns)
 |[],ns,v,C,_,_,h=>by
  refine ⟨h.len,λx hx=>?_,λx hx=>?_⟩
  ·rw [List.length_nil,Int.natCast_zero,Int.add_zero];exact h.nr x hx
  ·show _=v x-Pg.val ε*0;rw [show v x-Pg.val ε*0=v x by grind];exact h.val x hx
 |d::Ψ,ns,v,C,hw,c,h=>by obtain ⟨h1,h2⟩:=hw d aae;have i:=u_ (Ψ:=Ψ) (λx hx=>hw x (aac _ hx)) (by omega) (zc h c h1 h2);rw [abl,aau,show C+((Ψ.length+1:Nat):Int)=C+1+Ψ.length by omega];refine ⟨i.len,i.nr,λx hx=>?_⟩;rw [i.val x hx];show v x-Pg.val ε*((if d.1.toNat=x then 1 else 0)*cV d)-Pg.val ε*aW (λd=>(if d.1.toNat=x then 1 else 0)*cV d) Ψ=v x-Pg.val ε*((if d.1.toNat=x then 1 else 0)*cV d+aW (λd=>(if d.1.toNat=x then 1 else 0)*cV d) Ψ);grind
def vW(s:Rat)(i:Nat)(Ψ:List cj)(x:Nat):Rat:=(if x=i then 1 else 0)-s*aW (λd=>(if d.1.toNat=x then 1 else 0)*cV d) Ψ
theorem Mu{n i:Nat}{ε:Fr}{E:Int}{Ψ:List cj}(hi:i<n)(hw:∀d∈Ψ,(0<=d.1/\d.1<n)/\QG ε E d):lD n E (1+Ψ.length) (vW (Pg.val ε) i Ψ) (gJ ε n i Ψ):=u_ hw (by decide) (G6 hi)
theorem HE{n i:Nat}{s:Rat}(hi:i<n)(y:Nat->Rat):∀{Ψ:List cj},(∀d∈Ψ,0<=d.1/\d.1<n)->dc (λx=>vW s i Ψ x*y x) n=y i-s*aW (λd=>cV d*y d.1.toNat) Ψ
 |[],_=>by rw [dJ (g:=λx=>(if x=i then 1 else 0)*y x) λx _=>by show ((if x=i then 1 else 0)-s*0)*y x=_;grind];rw [qQ y hi];show y i=y i-s*0;grind
 |d::Ψ,h=>by
  obtain ⟨a,b⟩:=h d aae;have ih:=HE (s:=s) hi y (Ψ:=Ψ) λx hx=>h x (aac _ hx)
  rw [dJ (g:=λx=>1*(vW s i Ψ x*y x)-(s*cV d)*((if x=d.1.toNat then 1 else 0)*y x)) λx _=>by
   show ((if x=i then 1 else 0)-s*((if d.1.toNat=x then 1 else 0)*cV d+aW (λd=>(if d.1.toNat=x then 1 else 0)*cV d) Ψ))*y x=1*(((if x=i then 1 else 0)-s*aW (λd=>(if d.1.toNat=x then 1 else 0)*cV d) Ψ)*y x)-(s*cV d)*((if x=d.1.toNat then 1 else 0)*y x);by_cases e:x=d.1.toNat
   ·rw [if_pos e,if_pos e.symm];grind
   ·rw [if_neg e,if_neg (Ne.symm e)];grind]
  rw [rj,ih,qQ y (show d.1.toNat<n by omega)];show _=y i-s*(cV d*y d.1.toNat+aW (λd=>cV d*y d.1.toNat) Ψ);grind
def lN(ns:List Fr):List Int:=ns.map λc=>c.1*(bG ns/c.2)
theorem zy{ns:List Fr}{E C:Int}(h:∀c∈ns,Nr E C c)(e0:0<E)(c0:0<=C):0<bG ns/\bG ns<=E/\∀c∈ns,((lI (bG ns) c:Int):Rat)=val c*(bG ns:Int)/\ -(C*E)<=lI (bG ns) c/\lI (bG ns) c<=C*E:=by
 have b0:0<bG ns:=fo ns 1 (by decide) λc hc=>(h c hc).red.pos;obtain ⟨d1,_,d3⟩:=iJ ns 1 E (by decide) (Int.one_dvd _) λc hc=>⟨(h c hc).red.pos,w_ (h c hc).red (h c hc).he⟩;have le:=abN e0 d1;refine ⟨b0,le,λc hc=>⟨GY (h c hc).red.pos (d3 c hc),?_⟩⟩;have hd:=d3 c hc;have cp:=(h c hc).red.pos;obtain ⟨a1,a2⟩:=(h c hc).ab;have le:bG ns<=E:=le;have b0:0<bG ns:=b0;generalize hL:bG ns=L at *
 have hd:c.2∣L:=by rw [<-hL];exact hd
 obtain ⟨k,rfl⟩:=hd;unfold lI;rw [aba _ (by omega)];have k0:0<=k:=by
  rcases abZ k 0 with z|z
  ·have:=abC cp z;omega
  ·exact z
 have m1:=bX a1 k0;have m2:=bX a2 k0;have m3:=aan le c0;have e1:c.2*C*k=C*(c.2*k):=by grind
 have e2: -(c.2*C)*k= -(C*(c.2*k)):=by grind
 exact ⟨by omega,by omega⟩
def lV(ε:Fr)(n i:Nat)(Ψ:List cj)(given:Fr):List Int:=lN (gJ ε n i Ψ++[given])
structure uV(ε:Fr)(n:Nat)(E C:Int)(Ψ:List cj)(given:Fr):Prop where
 wo:Cz n Ψ
 sc:∀d∈Ψ,QG ε E d
 gn:Nr E C given
 e0:0<E
 cl:1+(Ψ.length:Int)<=C
theorem yF{E C D:Int}{p:Fr}(h:Nr E C p)(l:C<=D):Nr E D p:=by have:=aan l (aai h.red.pos);obtain ⟨a,b⟩:=h.ab;exact ⟨h.red,h.he,⟨by omega,by omega⟩⟩
theorem Ed{ns:List Fr}{x:Nat}(h:x<ns.length):ns.getD x (0,1)∈ns:=by rw [aab,aaa h];exact aax h
theorem AB{ε:Fr}{n i:Nat}{E C:Int}{Ψ:List cj}{given:Fr}(hi:i<n)(p:uV ε n E C Ψ given):(lV ε n i Ψ given).length=n+1/\(∀x∈lV ε n i Ψ given, -(C*E)<=x/\x<=C*E)/\∃L:Rat,0<L/\(∀y:Nat->Rat,dc (λx=>((lV ε n i Ψ given).getD x 0:Rat)*y x) n=L*(y i-Pg.val ε*aW (λd=>cV d*y d.1.toNat) Ψ))/\((lV ε n i Ψ given).getD n 0:Rat)=L*Pg.val given:=by
 have no:=Mu hi λd hd=>⟨p.wo.to d hd,p.sc d hd⟩;have c0:0<=C:=by have:=p.cl;omega
 have all:∀c∈gJ ε n i Ψ++[given],Nr E C c:=λc hc=>by
  rcases aaN.mp hc with z|z
  ·obtain ⟨x,hx,e⟩:=aaX z;have OS:x<n:=by rw [<-no.len];exact hx
   have:=no.nr x OS;rw [aab,aaa hx] at this;rw [<-e];exact yF this p.cl
  ·rw [aa6.mp z];exact p.gn
 obtain ⟨b0,bE,hb⟩:=zy all p.e0 c0;have ln:(gJ ε n i Ψ).length=n:=no.len;have at_:∀x,x<n+1->(lV ε n i Ψ given).getD x 0=lI (bG (gJ ε n i Ψ++[given])) ((gJ ε n i Ψ++[given]).getD x (0,1)):=λx hx=>by
  unfold lV lN;have hx:x<(gJ ε n i Ψ++[given]).length:=by simp [ln];exact hx
  rw [aab,aam,aab,aaa hx];rfl
 have YX:∀x,x<n+1->(gJ ε n i Ψ++[given]).getD x (0,1)∈gJ ε n i Ψ++[given]:=λx hx=>Ed (by simp [ln];exact hx);refine ⟨by unfold lV lN;simp [ln],λx hx=>?_,((bG (gJ ε n i Ψ++[given]):Int):Rat),?_,λy=>?_,?_⟩
 ·unfold lV lN at hx;obtain ⟨c,hc,rfl⟩:=aaj.mp hx;exact (hb c hc).2
 ·exact abg.mpr b0
 ·rw [dJ (g:=λx=>((bG (gJ ε n i Ψ++[given]):Int):Rat)*(vW (Pg.val ε) i Ψ x*y x)-0*0) λx hx=>by
   rw [at_ x (by omega),(hb _ (YX x (by omega))).1];have:(gJ ε n i Ψ++[given]).getD x (0,1)=(gJ ε n i Ψ).getD x (0,1):=by rw [aab,aao (by rw [ln];exact hx),<-aab]
   rw [this,no.val x hx];grind]
  rw [rj _ 0 (λx=>vW (Pg.val ε) i Ψ x*y x) (λ_=>0),HE hi y p.wo.to];grind
 ·rw [at_ n (by omega),(hb _ (YX n (by omega))).1];have:(gJ ε n i Ψ++[given]).getD n (0,1)=given:=by rw [aab,aal (by rw [ln];exact aah _),ln,acd];rfl
  rw [this];grind
structure Sys(ε:Fr)(n:Nat)(B:Int)(ws:Nat->List cj)(gv:Nat->Fr):Prop where
 n1:1<=n
 s0:0<=Pg.val ε
 s1:Pg.val ε<1
 b1:1<=B
 GA:∀i,i<n->∃E C,uV ε n E C (ws i) (gv i)/\C*E<=B
def g_(ε:Fr)(n:Nat)(ws:Nat->List cj)(gv:Nat->Fr):List (List Int):=(List.range n).map λi=>lV ε n i (ws i) (gv i)
section
variable{ε:Fr}{n:Nat}{B:Int}{ws:Nat->List cj}{gv:Nat->Fr}
theorem B_{k x:Nat}(h:k<n):Bz.arr (g_ ε n ws gv) k x=(lV ε n k (ws k) (gv k)).getD x 0:=by
 unfold Bz.arr g_
 congr 1
 rw [aab,aam,aaF h];rfl
theorem kL:(g_ ε n ws gv).length=n:=by unfold g_;simp
theorem Sys.eq(S:Sys ε n B ws gv){k:Nat}(hk:k<n):∃L:Rat,0<L/\(∀y:Nat->Rat,dc (λx=>(Bz.arr (g_ ε n ws gv) k x:Rat)*y x) n=L*(y k-Pg.val ε*aW (λd=>cV d*y d.1.toNat) (ws k)))/\(Bz.arr (g_ ε n ws gv) k n:Rat)=L*Pg.val (gv k):=by
 obtain ⟨E,C,p,_⟩:=S.GA k hk;obtain ⟨_,_,L,l0,l1,l2⟩:=AB hk p;refine ⟨L,l0,λy=>?_,?_⟩
 ·rw [<-l1 y];exact dJ λx _=>by rw [B_ hk]
 ·rw [B_ hk];exact l2
theorem Sys.zero(S:Sys ε n B ws gv){y:Nat->Rat}(h:∀k,k<n->y k=Pg.val ε*aW (λd=>cV d*y d.1.toNat) (ws k)):∀k,k<n->y k=0:=λk hk=>by
 have:=Kl (n:=n) (x:=y) (c:=0) S.s1 (λi hi m hm=>by
  obtain ⟨E,C,p,_⟩:=S.GA i hi;have w:=k7.mp (Dw p.wo (by omega) hm);have a:=aaJ w.1 S.s0;have b:=aaJ w.2 S.s0;rw [h i hi]
  refine k7.mpr ⟨?_,?_⟩ <;> grind) k hk
 have a0:=Pu (y k);have s1:=S.s1;have:ab (y k)=0:=by
  by_cases e:ab (y k)=0
  ·exact e
  ·have p:=Rat.mul_pos (show 0<ab (y k) by grind) (show 0<1-Pg.val ε by grind);grind
 unfold ab at this;split at this <;> grind
theorem Sys.ZU(S:Sys ε n B ws gv)(y:Bz.Row)(h:∀k,k<n->Bz.Δ (λx=>Bz.arr (g_ ε n ws gv) k x*y x) n=0):∀x,x<n->y x=0:=λx hx=>by
 have:=S.zero (y:=λx=>(y x:Rat)) (λk hk=>by
  obtain ⟨L,l0,l1,_⟩:=S.eq hk;have e:=congrArg (λz:Int=>(z:Rat)) (h k hk);rw [oF,dJ (g:=λx=>(Bz.arr (g_ ε n ws gv) k x:Rat)*(y x:Rat)) λx _=>aaD _ _,l1 λx=>(y x:Rat)] at e;have e:L*((y k:Rat)-Pg.val ε*aW (λd=>cV d*(y d.1.toNat:Rat)) (ws k))=0:=e;rcases Rat.mul_eq_zero.mp e with z|z
  ·grind
  ·grind) x hx
 exact Rat.intCast_eq_zero_iff.mp this
theorem Sys.bd(S:Sys ε n B ws gv):Bz.Bd (Bz.arr (g_ ε n ws gv)) n (n+1) B:=⟨S.b1,λk c hk hc=>by
 obtain ⟨E,C,p,hB⟩:=S.GA k hk;obtain ⟨ln,hb,_⟩:=AB hk p;rw [B_ hk];have:=hb ((lV ε n k (ws k) (gv k)).getD c 0) (by rw [aab,aaa (by omega)];exact aax _)
 exact ⟨by omega,by omega⟩⟩
structure Tab(ε:Fr)(n:Nat)(ws:Nat->List cj)(gv:Nat->Fr)(tb:List Fr):Prop where
 len:tb.length=n
 red:∀i,i<n->Red (tb.getD i (0,1))
 eq:∀i,i<n->Pg.val (tb.getD i (0,1))=Pg.val (gv i)+Pg.val ε*aW (λd=>cV d*Pg.val (tb.getD d.1.toNat (0,1))) (ws i)
theorem Sys.uniq(S:Sys ε n B ws gv){t t':List Fr}(h:Tab ε n ws gv t)(h':Tab ε n ws gv t'):t=t':=by
 have z:=S.zero (y:=λx=>Pg.val (t.getD x (0,1))-Pg.val (t'.getD x (0,1))) (λk hk=>by
  rw [h.eq k hk,h'.eq k hk];rw [show (λd:cj=>cV d*(Pg.val (t.getD d.1.toNat (0,1))-Pg.val (t'.getD d.1.toNat (0,1))))=λd=>cV d*Pg.val (t.getD d.1.toNat (0,1))-cV d*Pg.val (t'.getD d.1.toNat (0,1)) by funext d;grind,qX]
  grind)
 apply aa4
 ·rw [h.len,h'.len]
 ·intro i h1 h2;have hi:i<n:=by rw [<-h.len];exact h1
  have a:=h.red i hi;have b:=h'.red i hi;have c:=z i hi;rw [aab,aaa h1] at a c;rw [aab,aaa h2] at b c;exact xR a b (by have c:Pg.val t[i]-Pg.val t'[i]=0:=c;grind)
theorem Sys.ex(S:Sys ε n B ws gv)(Ax:n<=12):∃(tb:List Fr) (z:Bz.Row) (N:Int),Bz.Pd (Bz.arr (g_ ε n ws gv)) n n z N/\N≠0/\(∀i,i<n->N*(tb.getD i (0,1)).1=z i*(tb.getD i (0,1)).2)/\Tab ε n ws gv tb/\∀i,i<n->(tb.getD i (0,1)).2<=(12*B)^n:=by
 obtain ⟨ρ,ν,q,d,W,t⟩:=Bz.Turn.exists (A:=Bz.arr (g_ ε n ws gv)) (n:=n) n;have hc:ν=List.range n:=by
  rcases t.all with e|⟨x,h1,h2⟩
  ·exact e
  ·obtain ⟨z,z1,z2⟩:=t.kernel h1 h2;have:=S.ZU z z2 x h1;rw [z1] at this;exact absurd (by omega) t.d0
 have lr:ρ.length=n:=by rw [<-t.st.lc,hc,aaM]
 have sol:=t.RL λi h1 h2=>absurd h1 (by omega);have d0:=t.d0;generalize hz:Bz.Ku (Bz.arr (g_ ε n ws gv)) n W ν n ν.length=z at *
 have g:∀i,i<n->((List.range n).map λi=>aw (z i) d).getD i (0,1)=aw (z i) d:=λi hi=>by rw [aab,aam,aaF hi];rfl
 refine ⟨(List.range n).map λi=>aw (z i) d,z,d,sol,d0,λi hi=>?_,⟨by simp,λi hi=>?_,λi hi=>?_⟩,λi hi=>?_⟩
 ·rw [g i hi,<-cv d0]
 ·rw [g i hi];exact cy d0
 ·obtain ⟨L,l0,l1,l2⟩:=S.eq hi;obtain ⟨E,C,p,_⟩:=S.GA i hi;have e:=congrArg (λz:Int=>(z:Rat)) (sol i hi);rw [oF,dJ (g:=λx=>(Bz.arr (g_ ε n ws gv) i x:Rat)*(z x:Rat)) λx _=>aaD _ _,l1 λx=>(z x:Rat),aaD,l2] at e;rw [g i hi,j2 d0]
  rw [mi (g:=λdd=>(1/(d:Rat))*(cV dd*(z dd.1.toNat:Rat))-0) λdd hdd=>by
   obtain ⟨a,b⟩:=p.wo.to dd hdd;rw [g _ (by omega),j2 d0];have:=bc d0
   grind]
  have sc:∀(k:Rat) (ds:List cj),aW (λdd=>k*(cV dd*(z dd.1.toNat:Rat))-0) ds=k*aW (λdd=>cV dd*(z dd.1.toNat:Rat)) ds:=λk ds=>by
   induction ds with
   |nil=>show (0:Rat)=k*0;grind
   |cons a ds ih=>
    show k*(cV a*(z a.1.toNat:Rat))-0+aW (λdd=>k*(cV dd*(z dd.1.toNat:Rat))-0) ds=k*(cV a*(z a.1.toNat:Rat)+aW (λdd=>cV dd*(z dd.1.toNat:Rat)) ds);rw [ih];grind
  rw [sc];have:=bc d0;have e:L*((z i:Rat)-Pg.val ε*aW (λdd=>cV dd*(z dd.1.toNat:Rat)) (ws i))=(d:Rat)*(L*Pg.val (gv i)):=e;have e2:(z i:Rat)-Pg.val ε*aW (λdd=>cV dd*(z dd.1.toNat:Rat)) (ws i)=(d:Rat)*Pg.val (gv i):=by
   have:L*((z i:Rat)-Pg.val ε*aW (λdd=>cV dd*(z dd.1.toNat:Rat)) (ws i)-(d:Rat)*Pg.val (gv i))=0:=by grind
   rcases Rat.mul_eq_zero.mp this with y|y
   ·grind
   ·grind
  grind
 ·rw [g i hi];have ad:=t.st.Wb S.bd (λc zb=>aap (t.cl c zb) (Nat.le_succ _)) (by omega);rw [lr] at ad;have l:=jT (t:=z i) d0;have q0:=cB (t:=z i) d0;obtain ⟨a1,a2⟩:=ad;omega
end
theorem Nt{d:cj}{c:Fr}{M:Ms}{q:DQ}(e:d.2.2=[c])(h:q (Ξ c) M):dF (eO d) (.int 2) M q:=by unfold eO;rw [e];exact Η (xs:=[.int d.1,Ξ d.2.1,Ξ c]) rfl (Κ (j:=2) rfl) h
theorem Jm{M:Ms}{k:Nat}{xs:List Dt}(h:M[k]? =some (MO.lst xs)):jU M (.loc k)=some xs:=by show (match M[k]? with|some (MO.lst xs)=>some xs|_=>none)=some xs;rw [h]
theorem Jt{E C:Int}{p:Fr}(h:Nr E C p)(e0:0<E)(e1:E<2^190)(c0:0<=C)(c1:C<2^110):Sz 300 p:=Nn (k:=190) (m:=110) h.red h.he e0 e1 h.ab c0 c1
def HX:DF:=λas M q _=>∃(ns:List Fr) (E C:Int),as=[.lst (ns.map Ξ)]/\ns.length<=13/\(∀c∈ns,Nr E C c)/\0<E/\E<2^190/\0<=C/\C<2^110/\q (b9 (lN ns)) M
theorem mD:Ε ["numbers","bottom"] ["numbers"] (τ nY):= .of rfl
theorem zw{f:Addr}{fd:FuncData}(F:cI K "whole_row" "whole_row" nY f fd)(E:Ev K mg w Cm){ir:Addr}{ix:FuncData}(b7:av P w K mg base 2 "common_bottom" ["chances"] iz ir ix):aq P w K mg base (bV P w) 3 f fd ["numbers"] (cC K HX):=by
 refine F.de mD (λds M q x h=>?_) (λaV A outer s H E' hr=>⟨_,(θ (Γ 1 mD.nd (ae b7 hr ξ (Ρ (jv 0) η)))
   (μ (Ζ (fS (ys:=["bottom"]) (ak:=[1]) (.of mD rfl rfl rfl) (bR (jv 0)) (λC s H fp=>(aL (Μ (jv 0) χ) (iG (jv 1) (Μ (jv 0) χ)))))))),λds M q x h=>?_⟩)
 ·obtain ⟨ns,E,C,rfl,_⟩:=h;rfl
 ·obtain ⟨ns,Ep,C,rfl,hz,hn,e0,e1,c0,c1,h⟩:=h;obtain ⟨b0,bE,_⟩:=zy hn e0 c0;have V_:∀c∈ns,Sz 300 c:=λc hc=>Jt (hn c hc) e0 e1 c0 c1;have b2:∀c∈ns,c.2<2^200:=λc hc=>by have:=abN e0 (w_ (hn c hc).red (hn c hc).he);exact aaw this (ab0 e1 (by decide))
  refine ⟨ns,rfl,⟨hz,λc hc=>⟨(hn c hc).red.pos,b2 c hc⟩⟩,?_⟩;walk_at "vc";refine dZ (i:=0) rfl rfl ⟨by rw [aad];exact aaq hz (by decide),?_⟩;refine gu (f:=λd=> .int (match d with|.tup [.int a,.int b]=>a*(bG ns/b)|_=>0)) trivial (λx hx q hq=>?_) ?_
  ·obtain ⟨y,hy,rfl⟩:=aaj.mp hx;have s:=V_ y hy;have y0:=(hn y hy).red.pos;refine ⟨⟨y0,c7 s (by decide)⟩,⟨fT s (by decide),?_⟩,hq⟩;exact pO (k:=190) (Int.ediv_nonneg (aai b0) (aai y0)) (aaw (abU _ (aai b0)) (aaw bE e1)) (by decide)
  ·rw [aaO,aaC];have e:ns.map ((λd=>Dt.int (match d with|.tup [.int a,.int b]=>a*(bG ns/b)|_=>0)) ∘ Ξ)=(lN ns).map Dt.int:=by unfold lN;rw [aaC];rfl
   rw [e];exact h
structure XJ(E C:Int):Prop where
 e1:E<2^190
 c1:C<2^110
def Sj(A:Addr):DF:=λas M q _=>∃(ε:Fr) (γ:List Rw) (i:Nat) (Ψ:List cj) (given:Fr) (E C:Int),as=[az A ε γ,.int (i:Nat),.lst (Ψ.map eO),Ξ ε,Ξ given]/\i<γ.length/\γ.length<=12/\aT ε=true/\(∀d∈Ψ,∃c,d.2.2=[c])/\uV ε γ.length E C Ψ given/\XJ E C/\(∀d∈Ψ,Sz 300 (ω d))/\∀E',q (b9 (lV ε γ.length i Ψ given)) (M++E')
theorem qw:Ε ["floor","place","ways","share","given","numbers","way"] ["floor","place","ways","share","given"] (τ xJ):= .of rfl
theorem ET{f:Addr}{fd:FuncData}(F:cI K "led_row" "led_row" xJ f fd)(E:Ev K mg w Cm){dR:Addr}{dW:FuncData}(aX:cU P w K mg base 1 Cm "size" ["self"] (zT Cm) dR dW){O7:Addr}{NY:FuncData}(wG:av P w K mg base 3 "minus" ["one","other"] Hf O7 NY){r9:Addr}{sf:FuncData}(gf:av P w K mg base 3 "times" ["one","other"] vv r9 sf){Ey:Addr}{Ff:FuncData}(mw:av P w K mg base 3 "whole_row" ["numbers"] HX Ey Ff):aq P w K mg base (bV P w) 5 f fd ["floor","place","ways","share","given"] (cC K (Sj Cm)):=by
 refine F.de qw (λds M q x h=>?_) (λaV A outer s H E' hr=>⟨_,(θ (Γ 5 qw.nd (A6 (eE 3 (d:= .lst [.tup [.int 0,.int 1]]) (by rfl)) (kG aX hr ξ (jv 0))))
   (θ (mR (jv 5) (jv 1) (fv (ι χ (ι χ η (hs:=dt)) (hs:=dt))))
   (θ (dw (bR (jv 2)) (ax (i:=6) qw.nd rfl (Or.inl rfl)) aS (μ (mR (jv 5) (Μ (jv 6) χ) (ae wG hr ξ (ι (Μ (jv 5) (Μ (jv 6) χ)) (ι (ae gf hr ξ (Ρ (jv 3) (ι (Μ (jv 6) χ) η (hs:=aQ)))) η (hs:=aG)) (hs:=aQ))))))
   (μ (Ζ (ae mw hr ξ (ι (ma (jv 5) (lq (Ρ (jv 4) η))) η (hs:=bY)))))))),λds M q x h=>?_⟩)
 ·obtain ⟨ε,γ,i,Ψ,given,E,C,rfl,_⟩:=h;rfl
 ·obtain ⟨ε,γ,i,Ψ,given,Ep,C,rfl,il,lF,hs,LS,p,sz,hcs,h⟩:=h;have szs:=mZ hs;have e0:=p.e0;have c0:0<=C:=by have:=p.cl;omega
  generalize hn:γ.length=n at *
  refine ⟨⟨_,_,.inl rfl,rfl⟩,ε,γ,rfl,?_⟩;rw [hn];refine ⟨[Ξ (0,1)],n,rfl,rfl,by omega,by omega,?_,?_⟩
  ·show 1*((n:Int)).toNat<=sizeLine;exact aaq (show _<=12 by omega) (by decide)
  rw [show ((n:Int)).toNat=n by omega,sU];dsimp only [xG];walk_at "vc";refine ⟨by show 2<=sizeLine;decide,?_⟩;refine ⟨M.length,(i:Nat),_,i,rfl,rfl,aI,by rw [aaQ];exact wz il,?_⟩;rw [dE];have e00:(List.replicate n (Ξ (0,1))).set i (.tup [.int 1,.int 1])=((List.replicate n ((0,1):Fr)).set i (1,1)).map Ξ:=by rw [List.map_set,List.map_replicate];rfl
  rw [e00];dsimp only [vc,gC];walk_at "vc";refine bZ (λzs ρ' M'=>∃(gz rest:List cj) (ns:List Fr) (v:Nat->Rat) (o:Option Dt),Ψ=gz++rest/\zs=rest.map eO/\ns=gz.foldl (si ε) ((List.replicate n ((0,1):Fr)).set i (1,1))/\lD n Ep (1+gz.length) v ns/\M'=M++[MO.lst (ns.map Ξ)]/\ρ'=[some (az Cm ε γ),some (.int (i:Int)),some (.lst (Ψ.map eO)),some (Ξ ε),some (Ξ given),some (.loc M.length),o]) (λzs ρ' M' hj=>trivial) (λx zs ρ' M' hj fH=>?_) (λρ' M' hj=>?_) _ _ _ ⟨[],Ψ,_,_,none,rfl,rfl,rfl,G6 il,rfl,rfl⟩
  ·obtain ⟨gz,rest,ns,v,o,ew,ex,en,no,rfl,rfl⟩:=hj;cases rest with
   |nil=>cases ex
   |cons d rest=>
    cases ex;have dm:d∈Ψ:=by rw [ew];exact aav _ aae
    obtain ⟨t0,t1⟩:=p.wo.to d dm;obtain ⟨c,hc⟩:=LS d dm;have ec:ω d=c:=by unfold ω;rw [hc];rfl
    have sc:=p.sc d dm;have QH:=hcs d dm;have dl:1+(gz.length:Int)<=C:=by have:=congrArg List.length ew;rw [aag,aau] at this;have:=p.cl;omega
    have tl:d.1.toNat<ns.length:=by rw [no.len];omega
    have V_:=Jt (yF (no.nr d.1.toNat (by omega)) dl) e0 sz.e1 c0 sz.c1;have szt:=Jt (yF sc.nr (show (1:Int)<=C by omega)) e0 sz.e1 c0 sz.c1;have at_:nE (ns.map Ξ) d.1=some (Ξ (ns.getD d.1.toNat (0,1))):=by have:=NO tl;rw [show ((d.1.toNat:Nat):Int)=d.1 by omega] at this;rw [this,aab,aaa tl];rfl
    have nx:∀o,_:=λo=>fH [some (az Cm ε γ),some (.int (i:Int)),some (.lst (Ψ.map eO)),some (Ξ ε),some (Ξ given),some (.loc M.length),o] (M++[MO.lst ((si ε ns d).map Ξ)]) ⟨gz++[d],rest,si ε ns d,_,o,by rw [ew];simp,rfl,by rw [List.foldl_append,<-en];rfl,by
     have:=zc no (by omega) ⟨t0,t1⟩ sc;rw [show 1+((gz++[d]).length:Int)=1+(gz.length:Int)+1 by simp;omega]
     exact this,rfl,rfl⟩
    dsimp only [gN,xG];walk_at "vc";refine GL ?_;refine (Η (d:= .loc M.length) (Jm aI) at_ ?_:dF (.loc M.length) (.int d.1) _ _);refine Nt hc ?_;rw [<-ec];refine ⟨ε,ω d,11,300,rfl,szs,QH,by decide,?_⟩;refine ⟨_,_,300,300,rfl,V_,szt,by decide,?_⟩;refine GL ?_;refine ⟨M.length,d.1,_,d.1.toNat,rfl,rfl,aI,by rw [aad];have:=wz tl;rwa [show ((d.1.toNat:Nat):Int)=d.1 by omega] at this,?_⟩;rw [dE];have:(ns.map Ξ).set d.1.toNat (Ξ (ip (ns.getD d.1.toNat (0,1)) (aZ ε (ω d))))=(si ε ns d).map Ξ:=by unfold si;rw [List.map_set]
    rw [this];exact nx _
  ·obtain ⟨gz,rest,ns,v,o,ew,ex,en,no,rfl,rfl⟩:=hj;cases rest with
   |cons d rest=>cases ex
   |nil=>
    rw [aaV] at ew;subst ew;have en:ns=gJ ε n i Ψ:=en;walk_at "vc";refine ⟨by show 1<=sizeLine;decide,ns.map Ξ,[Ξ given],kI aI,rfl,?_,?_⟩
    ·rw [aad,no.len];exact aaq (show n+1<=13 by omega) (by decide)
    refine ⟨ns++[given],Ep,C,by rw [aaS];rfl,by rw [aag,no.len];show n+1<=13;omega,λc hc=>?_,e0,sz.e1,c0,sz.c1,?_⟩
    ·rcases aaN.mp hc with z|z
     ·obtain ⟨x,hx,e⟩:=aaX z;have:=no.nr x (by rw [<-no.len];exact hx);rw [aab,aaa hx] at this;rw [<-e];exact yF this p.cl
     ·rw [aa6.mp z];exact p.gn
    rw [en];exact h _
theorem yn:∀(ps:List (Fr×Fr)) (w:Fr),Red w->(∀p∈ps,0<p.1.2/\0<p.2.2)->Red (ps.foldl (λw p=>fQ w (aZ p.1 p.2)) w)
 |[],w,h,_=>h
 |p::ps,w,h,hp=>by obtain ⟨a,b⟩:=hp p aae;have t:Red (aZ p.1 p.2):=cy (abb (aaH a b));exact yn ps _ (cy (abb (aaH h.pos t.pos))) λx hx=>hp x (aac _ hx)
structure FW(ε:Fr)(γ:List Rw)(X C:Int):Prop where
 pl:OT ε γ
 n1:1<=γ.length
 YH:∀k ds,Rw.υ k ds∈γ->Β k=true->∀d∈ds,d.2.2=[]
 pay:∀k ds,Rw.υ k ds∈γ->∃E,0<E/\E<=X/\∀d∈ds,Nr E C d.2.1
 fin:∀p,Rw.fin p∈γ->∃E,0<E/\E<=X/\Nr E C p
 x1:X<=10^36
 c9:9<=C
 c1:C<=10^30
def iC(X C:Int):Int:=6*C*(1000000000*X)
def PB(Ι:Pl)(i:Nat):Rw->List cj
 |.fin _=>[]
 |.υ k ds=>aJ Ι i (.υ k ds)
def QL(Ι:Pl)(i:Nat):Rw->Fr
 |.fin p=>p
 |.υ k ds=>h8 (((aJ Ι i (.υ k ds)).map ω).zip ((aJ Ι i (.υ k ds)).map (·.2.1)))
def fY(γ:List Rw)(i:Nat):Rw:=γ.getD i (.fin (0,1))
structure Yh(n:Nat)(B E C:Int)(d:cj):Prop where
 to:0<=d.1/\d.1<n
 one:d.2.2=[ω d]
 ch:Ch B (ω d)
 py:Nr E C d.2.1
section
variable{ε:Fr}{γ:List Rw}{X C:Int}{Ι:Pl}
theorem FW.Ψ(fw:FW ε γ X C)(dk:gO γ Ι){i:Nat}{k:Str}{ds:List cj}(hi:γ[i]? =some (.υ k ds)):(aJ Ι i (.υ k ds)).length<=6/\aW cV (aJ Ι i (.υ k ds))=1/\(∀d∈aJ Ι i (.υ k ds),0<=cV d)/\∃B E,0<B/\B<=1000000/\0<E/\E<=X/\∀d∈aJ Ι i (.υ k ds),Yh γ.length B E C d:=by
 have rm:Rw.υ k ds∈γ:=aak hi;have dr:=et fw.pl rm;obtain ⟨E,e0,eX,hp⟩:=fw.pay k ds rm;cases hh:Β k with
 |true=>
  obtain ⟨j,hj,jl⟩:=dk.hand i _ hi hh;have jl:j<ds.length:=jl;have gd:ds.getD j d0=ds[j]:=by rw [aab,aaa jl];rfl
  have dm:=aax jl;have e:aJ Ι i (.υ k ds)=[(ds[j].1,ds[j].2.1,[(1,1)])]:=by unfold aJ;rw [hj];show [((ds.getD ((j:Int)).toNat d0).1,(ds.getD ((j:Int)).toNat d0).2.1,(ds.getD ((j:Int)).toNat d0).2.2++[(1,1)])]=_;rw [abt,gd,fw.YH k ds rm hh _ dm];rfl
  have v1:cV (ds[j].1,ds[j].2.1,[((1,1):Fr)])=1:=by show ((1:Int):Rat)/((1:Int):Rat)=1;grind
  rw [e];refine ⟨by simp,?_,λd hd=>?_,1,E,by decide,by decide,e0,eX,λd hd=>?_⟩
  ·show cV (ds[j].1,ds[j].2.1,[(1,1)])+0=1;rw [v1];grind
  ·rw [List.mem_singleton.mp hd,v1];grind
  ·rw [aa6.mp hd];refine ⟨dr.to ds[j] dm,rfl,?_,hp ds[j] dm⟩;show Ch 1 ((1,1):Fr);exact ⟨by decide,⟨1,by decide⟩,⟨by decide,by decide⟩,qg (k:=2) ⟨by decide,by decide,by decide⟩ (by decide)⟩
 |false=>
  have hc:k="chance"/\IU (ds.map ω):=by
   rcases dr.kd with z|⟨_,z⟩
   ·rw [z] at hh;cases hh
   ·exact z
  obtain ⟨rfl,co⟩:=hc;have e:aJ Ι i (.υ "chance" ds)=ds:=by unfold aJ;rw [dk.Kp i _ hi hh];rfl
  obtain ⟨s1,s2⟩:=K8 co;rw [e];refine ⟨dr.l6,s1,s2,bG (ds.map ω),E,co.b0,co.b1,e0,eX,λd hd=>?_⟩;obtain ⟨a,b,c,f⟩:=MJ co (aaj.mpr ⟨d,hd,rfl⟩);exact ⟨dr.to d hd,(dr.ro.2.2.1 rfl).1 d hd,⟨a,zL b,c,f⟩,hp d hd⟩
theorem M6{E C:Int}{p:Fr}(h:Nr E C p)(e0:0<E)(e1:E<=10^36)(c0:0<=C)(c1:C<=10^30):Nb E C p:=Jx h.red h.he h.ab ⟨e0,aaw e1 (by decide),c0,aaw c1 (by decide)⟩
theorem FW.sh(fw:FW ε γ X C):0<ε.2/\ε.2<=1000/\gG ε/\0<=val ε/\val ε<1/\1<=1000*(1-val ε):=by
 have h:=fw.pl.sh;obtain ⟨a,b,c⟩:=IS h;unfold aT at h;rw [aar,aar,decide_eq_true_iff,decide_eq_true_iff,decide_eq_true_iff] at h;obtain ⟨h1,h2,h3⟩:=h;have ev:val ε*(ε.2:Rat)=ε.1:=by
  have:=bc (show ε.2≠0 by omega);unfold val;generalize (ε.1:Rat)=x at *
  generalize (ε.2:Rat)=y at *
  grind
 have p:(0:Rat)<(ε.2:Rat):=abg.mpr a;have q:(ε.2:Rat)<=((1000:Int):Rat):=aaU.mpr b;have r:(ε.1:Rat)+((1:Int):Rat)<=(ε.2:Rat):=by rw [<-Rat.intCast_add];exact aaU.mpr (by omega)
 have q:(ε.2:Rat)<=1000:=q;have r:(ε.1:Rat)+1<=(ε.2:Rat):=r;have lt:val ε<1:=by
  by_cases z:val ε<1
  ·exact z
  ·have:=Rat.mul_le_mul_of_nonneg_right (show 1<=val ε by grind) (Rat.le_of_lt p);grind
 refine ⟨a,b,c,rJ a h1,lt,?_⟩;have:=Rat.mul_le_mul_of_nonneg_right q (show 0<=1-val ε by grind);grind
theorem FW.GA(fw:FW ε γ X C)(dk:gO γ Ι){i:Nat}{r:Rw}(hi:γ[i]? =some r):∃E,uV ε γ.length E (6*C) (PB Ι i r) (QL Ι i r)/\6*C*E<=iC X C/\XJ E (6*C)/\(∀d∈PB Ι i r,∃c,d.2.2=[c])/\∀d∈PB Ι i r,Sz 300 (ω d):=by
 obtain ⟨s0,s1,su,_⟩:=fw.sh;have c9:=fw.c9;have c1:=fw.c1;have x1:=fw.x1;have rm:r∈γ:=aak hi;have TL:∀E,E<=1000000000*X->6*C*E<=iC X C:=λE h=>aan h (by omega);cases r with
 |fin p=>
  obtain ⟨E,e0,eX,hp⟩:=fw.fin p rm;exact ⟨E,⟨⟨λ_ z=>(nomatch z),λ_ z=>(nomatch z),by show (0:Rat)<=1;grind⟩,λ_ z=>(nomatch z),yF hp (by omega),e0,by show 1+0<=6*C;omega⟩,TL E (by omega),⟨Int.lt_of_le_of_lt eX (by omega),by omega⟩,λ_ z=>(nomatch z),λ_ z=>(nomatch z)⟩
 |υ k ds=>
  obtain ⟨l6,one,pos,B,E,b0,b1,e0,eX,hw⟩:=fw.Ψ dk hi;show∃E,uV ε γ.length E (6*C) (aJ Ι i (.υ k ds)) (h8 (((aJ Ι i (.υ k ds)).map ω).zip ((aJ Ι i (.υ k ds)).map (·.2.1))))/\6*C*E<=iC X C/\XJ E (6*C)/\(∀d∈aJ Ι i (.υ k ds),∃c,d.2.2=[c])/\∀d∈aJ Ι i (.υ k ds),Sz 300 (ω d);generalize SQ:aJ Ι i (.υ k ds)=ws at *
  have Z0:0<B*E:=aaH b0 e0;have Zl:B*E<=1000000*X:=abj b1 eX (aai e0) (by decide);have se0:0<ε.2*(B*E):=aaH s0 Z0;have se1:ε.2*(B*E)<=1000*(1000000*X):=abj s1 Zl (aai Z0) (by decide)
  have nb:=qv (E:=E) (B:=B) (C:=C) b0 e0 (aaw Zl (by omega)) (by omega) (by omega) ((ws.map ω).zip (ws.map (·.2.1))) (0,1) 0 (by rw [abe,aad,aad];omega) (by rw [Int.natCast_zero,Int.zero_mul];exact Ti) (λp hp=>by
   obtain ⟨q1,q2⟩:=abk hp;obtain ⟨d1,m1,x1⟩:=aaj.mp q1;obtain ⟨d2,m2,x2⟩:=aaj.mp q2
   exact ⟨by rw [<-x1];exact (hw d1 m1).ch,by rw [<-x2];exact M6 (hw d2 m2).py e0 (by omega) (by omega) c1⟩)
  have red:Red (h8 ((ws.map ω).zip (ws.map (·.2.1)))):=yn _ _ ⟨by decide,by decide⟩ λp hp=>by obtain ⟨q1,q2⟩:=abk hp;obtain ⟨d1,m1,x1⟩:=aaj.mp q1;obtain ⟨d2,m2,x2⟩:=aaj.mp q2;exact ⟨by rw [<-x1];exact (hw d1 m1).ch.pos,by rw [<-x2];exact (hw d2 m2).py.red.pos⟩
  refine ⟨ε.2*(B*E),⟨⟨λd hd=>(hw d hd).to,pos,by rw [one];grind⟩,λd hd=>⟨s0,su,(hw d hd).ch.pos,(hw d hd).ch.u,?_⟩,⟨red,?_,?_⟩,se0,by omega⟩,TL _ (by omega),⟨Int.lt_of_le_of_lt se1 (by omega),by omega⟩,λd hd=>⟨_,(hw d hd).one⟩,λd hd=>(hw d hd).ch.sz⟩
  ·have:=Ac E (rW s0 (hw d hd).ch.pos (Gd ε) (hw d hd).ch.he);rwa [ab4] at this
  ·have:=Ac ε.2 nb.he;rwa [aaR] at this
  ·refine Ow red.pos nb.ab ?_;refine aaA ?_ (by omega);rw [abe,aad,aad];omega
theorem rw_at{i:Nat}(h:i<γ.length):γ[i]? =some (fY γ i):=by unfold fY;rw [aab,aaa h];rfl
abbrev xV(γ:List Rw)(Ι:Pl)(i:Nat):List cj:=PB Ι i (fY γ i)
abbrev xY(γ:List Rw)(Ι:Pl)(i:Nat):Fr:=QL Ι i (fY γ i)
theorem FW.sys(fw:FW ε γ X C)(dk:gO γ Ι)(b1:1<=iC X C):Sys ε γ.length (iC X C) (xV γ Ι) (xY γ Ι):=by obtain ⟨_,_,_,v0,v1,_⟩:=fw.sh;refine ⟨fw.n1,v0,v1,b1,λi hi=>?_⟩;obtain ⟨E,p,l,_⟩:=fw.GA dk (rw_at hi);exact ⟨E,_,p,l⟩
structure jL(ε:Fr)(γ:List Rw)(Ι:Pl)(tb:List Fr):Prop where
 tab:Tab ε γ.length (xV γ Ι) (xY γ Ι) tb
 bot:∀i,i<γ.length->(tb.getD i (0,1)).2<2^1030
end
def Jb(A:Addr):DF:=λas M q _=>∃ε γ i r k Ι X C,as=[az A ε γ,.int (i:Nat),.loc k]/\M[k]? =some (dP Ι)/\γ[i]? =some r/\gO γ Ι/\FW ε γ X C/\∀E',q (b9 (lV ε γ.length i (PB Ι i r) (QL Ι i r))) (M++E')
theorem ny:Ε ["floor","place","doors","ways","paid"] ["floor","place","doors"] (τ Bc):= .of rfl
theorem Jn{f:Addr}{fd:FuncData}(F:cI K "row_of" "row_of" Bc f fd)(E:Ev K mg w Cm){aO:Addr}{aM:FuncData}(Τ:cU P w K mg base 1 Cm "kind" ["self","place"] (mI Cm) aO aM){LW:Addr}{MD:FuncData}(mK:av P w K mg base 5 "led_row" ["floor","place","ways","share","given"] (Sj Cm) LW MD){nZ:Addr}{nQ:FuncData}(eQ:cU P w K mg base 2 Cm "pay" ["self","place"] (OE Cm) nZ nQ){yH:Addr}{ye:FuncData}(fR:cU P w K mg base 1 Cm "share" ["self"] (JV Cm) yH ye){EN:Addr}{EJ:FuncData}(lU:av P w K mg base 3 "ways_from" ["floor","place","doors"] (Nf Cm) EN EJ){qT:Addr}{rY:FuncData}(gs:av P w K mg base 4 "weighed" ["chances","numbers"] qE qT rY):aq P w K mg base (bV P w) 6 f fd ["floor","place","doors"] (cC K (Jb Cm)):=by
 refine F.de ny (λds M q x h=>?_) (λaV A outer s H E' hr=>⟨_,(θ (aD (d9 hr (bQ Τ hr ξ (jv 0) (Ρ (jv 1) η)) jx) (μ (Ζ (ae mK hr ξ (Ρ (jv 0) (Ρ (jv 1) (ι (lq η) (ι (kG fR hr ξ (jv 0)) (ι (bQ eQ hr ξ (jv 0) (Ρ (jv 1) η)) η (hs:=aG)) (hs:=aG)))))))) Υ)
   (θ (Γ 3 ny.nd (ae lU hr ξ (Ρ (jv 0) (Ρ (jv 1) (Ρ (jv 2) η)))))
   (θ (Γ 4 ny.nd (ae gs hr ξ (ι (fS (ys:=[]) (ak:=[]) (.of ny rfl rfl rfl) (bR (jv 3)) (λC s H fp=>(Μ (jv 0) χ))) (ι (fS (ys:=[]) (ak:=[]) (.of ny rfl rfl rfl) (bR (jv 3)) (λC s H fp=>(Μ (jv 0) χ))) η))))
   (μ (Ζ (ae mK hr ξ (Ρ (jv 0) (Ρ (jv 1) (Ρ (jv 3) (ι (kG fR hr ξ (jv 0)) (Ρ (jv 4) η) (hs:=aG))))))))))),λds M q x h=>?_⟩)
 ·obtain ⟨ε,γ,i,r,k,Ι,X,C,rfl,_⟩:=h;rfl
 ·obtain ⟨ε,γ,i,r,k,Ι,X,C,rfl,hk,hi,dk,fw,h⟩:=h;have il:=(aaf.mp hi).1;have lF:=fw.pl.len;have rm:r∈γ:=aak hi;have ro:=(fw.pl.row r rm).1;obtain ⟨Ep,p,_,sz,one,QH⟩:=fw.GA dk hi;have sl:∀{z:Nat},z<=1000->z<=sizeLine:=λh=>aaq h (by decide);refine ⟨⟨_,_,.inl rfl,rfl⟩,ε,γ,i,r,rfl,hi,?_⟩;cases r with
  |fin pp=>
   refine ⟨λ_=>?_,λz=>(nomatch z)⟩;walk_at "vc";refine ⟨sl (by decide),?_⟩;refine ⟨⟨_,_,.inl rfl,rfl⟩,ε,γ,rfl,?_⟩;refine ⟨⟨_,_,.inl rfl,rfl⟩,ε,γ,i,.fin pp,rfl,hi,ro,?_⟩;exact ⟨ε,γ,i,[],pp,Ep,6*C,rfl,il,lF,fw.pl.sh,one,p,sz,QH,h⟩
  |υ kd ds=>
   refine ⟨λz=>absurd (of_decide_eq_true z) ro.1,λ_=>?_⟩;obtain ⟨l6,_,_,B,E,b0,b1,e0,eX,hw⟩:=fw.Ψ dk hi;have c9:=fw.c9;have c1:=fw.c1;have x1:=fw.x1;have h:∀E',q (b9 (lV ε γ.length i (aJ Ι i (.υ kd ds)) (h8 (((aJ Ι i (.υ kd ds)).map ω).zip ((aJ Ι i (.υ kd ds)).map (·.2.1)))))) (M++E'):=h;have p:uV ε γ.length Ep (6*C) (aJ Ι i (.υ kd ds)) (h8 (((aJ Ι i (.υ kd ds)).map ω).zip ((aJ Ι i (.υ kd ds)).map (·.2.1)))):=p;have one:∀d∈aJ Ι i (.υ kd ds),∃c,d.2.2=[c]:=one;have QH:∀d∈aJ Ι i (.υ kd ds),Sz 300 (ω d):=QH;refine ⟨ε,γ,i, .υ kd ds,k,Ι,rfl,hk,hi,ro,dk,?_⟩;generalize aJ Ι i (.υ kd ds)=ws at *
   dsimp only [oY,gC];walk_at "vc";refine ⟨by rw [aad];exact sl (by omega),?_⟩;refine dI (F:=λx d=>x=eO d/\d∈ws) (f:=λd=>Ξ (ω d)) (as:=ws) trivial (λx d hx qq hq=>?_) (ky eO ws ws λx hx=>hx) ?_
   ·obtain ⟨rfl,hd⟩:=hx;walk_at "vc";exact Nt (hw d hd).one hq
   rw [aaO];refine ⟨by rw [aad];exact sl (by omega),?_⟩;refine dI (F:=λx d=>x=eO d/\d∈ws) (f:=λd=>Ξ d.2.1) (as:=ws) trivial (λx d hx qq hq=>?_) (ky eO ws ws λx hx=>hx) ?_
   ·obtain ⟨rfl,hd⟩:=hx;walk_at "vc";exact Nx hq
   rw [aaO];refine ⟨ws.map ω,ws.map (·.2.1),E,B,C,by rw [aaC,aaC];rfl,by rw [aad];exact l6,b0,e0,?_,by omega,by omega,λc hc=>?_,λc hc=>?_,?_⟩
   ·have:B*E<=1000000*X:=abj b1 eX (aai e0) (by decide);exact aaw this (by omega)
   ·obtain ⟨d,hd,rfl⟩:=aaj.mp hc;exact (hw d hd).ch
   ·obtain ⟨d,hd,rfl⟩:=aaj.mp hc;exact M6 (hw d hd).py e0 (by omega) (by omega) c1
   refine ⟨⟨_,_,.inl rfl,rfl⟩,ε,γ,rfl,?_⟩;exact ⟨ε,γ,i,ws,_,Ep,6*C,rfl,il,lF,fw.pl.sh,one,p,sz,QH,h⟩
def Qs(A:Addr):DF:=λas M q _=>∃ε γ k Ι X C,as=[az A ε γ,.loc k]/\M[k]? =some (dP Ι)/\gO γ Ι/\FW ε γ X C/\iC X C<=2^450/\(12*iC X C)^γ.length<2^1030/\∀tb,jL ε γ Ι tb->q (.loc M.length) (M++[.lst (tb.map Ξ)])
theorem rB:Ε ["floor","doors"] ["floor","doors"] (τ nO):= .of rfl
theorem zx{f:Addr}{fd:FuncData}(F:cI K "worths_by" "worths_by" nO f fd)(E:Ev K mg w Cm){Ft:Addr}{FP:FuncData}(lA:av P w K mg base 4 "answer_of" ["rows"] xr Ft FP){dR:Addr}{dW:FuncData}(aX:cU P w K mg base 1 Cm "size" ["self"] (zT Cm) dR dW){P1:Addr}{OP:FuncData}(vw:av P w K mg base 6 "row_of" ["floor","place","doors"] (Jb Cm) P1 OP):aq P w K mg base (bV P w) 7 f fd ["floor","doors"] (cC K (Qs Cm)):=by
 refine F.de rB (λds M q x h=>?_) (λaV A outer s H E' hr=>⟨_,(μ (Ζ (ae lA hr ξ (ι (Ka (ys:=["floor","doors"]) (ak:=[0,1]) (.of rB rfl rfl rfl) (cR E.bW (ι (kG aX hr ξ (jv 0)) η (hs:=aG))) (λC s H fp=>(cc (ae vw hr (jA (P:=P) (w:=w)) (Ρ (jv 1) (Ρ (jv 0) (Ρ (jv 2) η))))))) η)))),λds M q x h=>?_⟩)
 ·obtain ⟨ε,γ,k,Ι,X,C,rfl,_⟩:=h;rfl
 ·obtain ⟨ε,γ,k,Ι,X,C,rfl,hk,dk,fw,g8,lx,h⟩:=h;have lF:=fw.pl.len;have n1:=fw.n1;have b1:1<=iC X C:=by obtain ⟨E,p,l,_⟩:=fw.GA dk (rw_at (show 0<γ.length by omega));have c9:=fw.c9;have:=aan (show 1<=E by have:=p.e0;omega) (show 0<=6*C by omega);omega
  have S:=fw.sys dk b1;obtain ⟨tb,z,N,sol,n0,TK,tab,bot⟩:=S.ex lF;have sl:∀{z:Nat},z<=1000->z<=sizeLine:=λh=>aaq h (by decide);walk_at "vc";dsimp only [Jo];walk_at "vc";refine ⟨⟨_,_,.inl rfl,rfl⟩,ε,γ,rfl,?_⟩;refine ⟨⟨by omega,by omega⟩,by rw [gD];exact sl (by omega),?_⟩;refine nM (f:=λx=>match x with|.int j=>b9 ((g_ ε γ.length (xV γ Ι) (xY γ Ι)).getD j.toNat [])|_=> .bq) _ _ (λx VQ q' hq=>?_) ?_
  ·obtain ⟨j,hj,rfl⟩:=sY VQ;have hj:j<γ.length:=by omega
   rw [Int.zero_add] at hq⊢;have hq:q' (b9 ((g_ ε γ.length (xV γ Ι) (xY γ Ι)).getD j [])) M:=hq;have e:(g_ ε γ.length (xV γ Ι) (xY γ Ι)).getD j []=lV ε γ.length j (xV γ Ι j) (xY γ Ι j):=by unfold g_;rw [aab,aam,aaF hj];rfl
   rw [e] at hq;exact ⟨ε,γ,j,fY γ j,k,Ι,X,C,rfl,hk,rw_at hj,dk,fw,λE'=>j3 (.old (gc _)) hq⟩
  have er:=DR (g_ ε γ.length (xV γ Ι) (xY γ Ι)) [] b9;rw [kL] at er;rw [aaO,show ((γ.length:Int)).toNat=γ.length by omega];refine (λ(key:∀l,l=(g_ ε γ.length (xV γ Ι) (xY γ Ι)).map b9->xr [.lst l] M q _)=>key _ er) λl hl=>?_;subst hl;have ln:∀r∈g_ ε γ.length (xV γ Ι) (xY γ Ι),r.length=γ.length+1:=λr g7=>by unfold g_ at g7;obtain ⟨i,hi,rfl⟩:=aaj.mp g7;obtain ⟨E,p,_⟩:=fw.GA dk (rw_at (aaW.mp hi));exact (AB (aaW.mp hi) p).1
  have bd:=S.bd;refine ⟨g_ ε γ.length (xV γ Ι) (xY γ Ι),γ.length,iC X C,tb,z,N,rfl,⟨by rw [kL];exact n1,by rw [kL];exact lF,lF,ln,by rw [kL];exact bd,g8⟩,n1,tab.len,by rw [kL];exact sol,n0,λi hi=>⟨(tab.red i hi).pos,(tab.red i hi).low,TK i hi⟩,by rw [kL];exact S.ZU,?_⟩;exact h tb ⟨tab,λi hi=>aaw (bot i hi) lx⟩
def C_(A:Addr):DF:=λas M q _=>∃ε γ k1 k2 p1 p2 X C,as=[az A ε γ,.loc k1,.loc k2]/\M[k1]? =some (dP p1)/\M[k2]? =some (dP p2)/\FW ε γ X C/\iC X C<=2^450/\(12*iC X C)^γ.length<2^1030/\(∀i,i<γ.length->fb γ (ao p1 p2) i=true)/\∀tb,jL ε γ (cW γ (ao p1 p2) γ.length) tb->∀m1 m2,q (.loc (M.length+2)) (M++[m1,m2,.lst (tb.map Ξ)])
theorem By:Ε ["floor","plan_one","plan_other"] ["floor","plan_one","plan_other"] (τ oV):= .of rfl
theorem zH{f:Addr}{fd:FuncData}(F:cI K "worths_of" "worths_of" oV f fd)(E:Ev K mg w Cm){ow:Addr}{oS:FuncData}(eW:av P w K mg base 7 "worths_by" ["floor","doors"] (Qs Cm) ow oS){sR:Addr}{sW:FuncData}(gw:av P w K mg base 4 "doors_of" ["floor","plans"] (qz Cm) sR sW):aq P w K mg base (bV P w) 8 f fd ["floor","plan_one","plan_other"] (cC K (C_ Cm)):=by
 refine F.de By (λds M q x h=>?_) (λaV A outer s H E' hr=>⟨_,(μ (Ζ (ae eW hr ξ (Ρ (jv 0) (ι (ae gw hr ξ (Ρ (jv 0) (ι (Lb (jv 1) (jv 2)) η))) η (hs:=aG)))))),λds M q x h=>?_⟩)
 ·obtain ⟨ε,γ,k1,k2,p1,p2,X,C,rfl,_⟩:=h;rfl
 ·obtain ⟨ε,γ,k1,k2,p1,p2,X,C,rfl,h1,h2,fw,g8,lx,gd,h⟩:=h;refine ⟨ε,γ,M.length,ao p1 p2,rfl,UZ.pls ⟨k1,k2,aI,aC h1,aC h2⟩,fw.pl,gd,?_⟩;refine ⟨ε,γ,_,_,X,C,rfl,aI,pw gd,fw,g8,lx,λtb wt=>?_⟩;have:=h tb wt (.ef [Sum.inr "one",Sum.inr "other"] [.loc k1,.loc k2]) (dP (cW γ (ao p1 p2) γ.length));simpa [List.append_assoc] using this
theorem GQ(x:Nat->Rat):∀n,∃i,i<n+1/\∀j,j<n+1->x i<=x j
 |0=>⟨0,by omega,λj hj=>by rw [show j=0 by omega];grind⟩
 |n+1=>by
  obtain ⟨i,hi,h⟩:=GQ x n;by_cases c:x (n+1)<=x i
  ·refine ⟨n+1,by omega,λj hj=>?_⟩;by_cases e:j=n+1
   ·rw [e];grind
   ·have:=h j (by omega);grind
  ·refine ⟨i,by omega,λj hj=>?_⟩;by_cases e:j=n+1
   ·rw [e];grind
   ·exact h j (by omega)
theorem v_{n:Nat}{y:Nat->Rat}{m:Rat}(hm:∀j,j<n->m<=y j):∀{Ψ:List cj},(∀d∈Ψ,0<=d.1/\d.1<n)->(∀d∈Ψ,0<=cV d)->aW cV Ψ*m<=aW (λd=>cV d*y d.1.toNat) Ψ
 |[],_,_=>by show (0:Rat)*m<=0;grind
 |d::Ψ,h1,h2=>by have i:=v_ hm (λx hx=>h1 x (aac _ hx)) (λx hx=>h2 x (aac _ hx));have t:=h1 d aae;have:=aaJ (hm d.1.toNat (by omega)) (h2 d aae);show (cV d+aW cV Ψ)*m<=cV d*y d.1.toNat+aW (λd=>cV d*y d.1.toNat) Ψ;grind
theorem Qv{n:Nat}{s:Rat}{ws:Nat->List cj}{δ r:Nat->Rat}(s0:0<=s)(s1:s<1)(wo:∀i,i<n->Cz n (ws i))(h:∀i,i<n->δ i=r i+s*aW (λd=>cV d*δ d.1.toNat) (ws i))(r0:∀i,i<n->0<=r i):∀i,i<n->r i<=δ i:=λi hi=>by
 obtain ⟨k,rfl⟩:∃k,n=k+1:=⟨n-1,by omega⟩;obtain ⟨t,ht,TY⟩:=GQ δ k;have nn:0<=δ t:=by
  by_cases c:0<=δ t
  ·exact c
  ·have g:=v_ TY (wo t ht).to (wo t ht).c0;have o:=Rat.mul_le_mul_of_nonneg_right (wo t ht).one (show 0<= -δ t by grind);have g2:δ t<=aW (λd=>cV d*δ d.1.toNat) (ws t):=by grind
   have g3:=aaJ g2 s0;have e:=h t ht;have r:=r0 t ht;have:=Rat.mul_pos (show 0<1-s by grind) (show 0< -δ t by grind);grind
 have g:=v_ (y:=δ) (m:=0) (λj hj=>by have:=TY j hj;grind) (wo i hi).to (wo i hi).c0;have:=Rat.mul_nonneg s0 (show 0<=aW (λd=>cV d*δ d.1.toNat) (ws i) by grind);have e:=h i hi;grind
theorem uM(c:Rat)(f:cj->Rat):∀ds:List cj,aW (λd=>c*f d) ds=c*aW f ds
 |[]=>by show (0:Rat)=c*0;grind
 |d::ds=>by show c*f d+aW (λd=>c*f d) ds=c*(f d+aW f ds);rw [uM c f ds];grind
section
variable{ε:Fr}{n:Nat}{B:Int}{ws:Nat->List cj}{gv:Nat->Fr}{tb:List Fr}
def jH(ε:Fr)(ws:Nat->List cj)(gv:Nat->Fr)(x:Nat->Rat)(i:Nat):Rat:=val (gv i)+val ε*aW (λd=>cV d*x d.1.toNat) (ws i)
theorem Tab.cmp(S:Sys ε n B ws gv)(h:Tab ε n ws gv tb){x:Nat->Rat}{sg:Rat}(hr:∀i,i<n->0<=sg*(jH ε ws gv x i-x i)):∀i,i<n->sg*(jH ε ws gv x i-x i)<=sg*(val (tb.getD i (0,1))-x i):=by
 refine Qv (δ:=λi=>sg*(val (tb.getD i (0,1))-x i)) (r:=λi=>sg*(jH ε ws gv x i-x i)) S.s0 S.s1 (ws:=ws) (λi hi=>?_) (λi hi=>?_) hr
 ·obtain ⟨E,C,p,_⟩:=S.GA i hi;exact p.wo
 ·have e:=h.eq i hi;have l:aW (λd=>cV d*(sg*(val (tb.getD d.1.toNat (0,1))-x d.1.toNat))) (ws i)=sg*(aW (λd=>cV d*val (tb.getD d.1.toNat (0,1))) (ws i)-aW (λd=>cV d*x d.1.toNat) (ws i)):=by rw [<-qX,<-uM];exact mi λd _=>by grind
  show sg*(val (tb.getD i (0,1))-x i)=sg*(jH ε ws gv x i-x i)+val ε*aW (λd=>cV d*(sg*(val (tb.getD d.1.toNat (0,1))-x d.1.toNat))) (ws i);rw [l,e];unfold jH;grind
end
def ar:List (Int×Nat)->Pl->Prop
 |[],[]=>True
 |(k,c)::r,(k',v)::p=>k=k'/\0<=v/\v<c/\ar r p
 |_,_=>False
def oC:List (Int×Nat)->List Pl
 |[]=>[[]]
 |(k,c)::r=>(List.range c).flatMap λj:Nat=>(oC r).map λp=>(k,(j:Int))::p
theorem rO:∀{kc:List (Int×Nat)}{p:Pl},ar kc p->p∈oC kc
 |[],[],_=>aa6.mpr rfl
 |(k,c)::r,(k',v)::p,h=>by obtain ⟨rfl,v0,v1,h⟩:=h;refine List.mem_flatMap.mpr ⟨v.toNat,aaW.mpr (by omega),aaj.mpr ⟨p,rO h,?_⟩⟩;rw [abW v0]
 |[],_::_,h=>h.elim
 |_::_,[],h=>h.elim
theorem bJ:∀{kc:List (Int×Nat)}{p:Pl},ar kc p->p.map (·.1)=kc.map (·.1)
 |[],[],_=>rfl
 |(k,c)::r,(k',v)::p,h=>by obtain ⟨rfl,_,_,h⟩:=h;rw [aaB,aaB,bJ h]
 |[],_::_,h=>h.elim
 |_::_,[],h=>h.elim
theorem x':∀{kc:List (Int×Nat)}{p:Pl}{i v:Int},ar kc p->Λ p i=some v->∃c,(i,c)∈kc/\0<=v/\v<(c:Int)
 |[],[],_,_,_,h=>by cases h
 |(k,c)::r,(k',v')::p,i,v,h,g=>by
  obtain ⟨rfl,v0,v1,h⟩:=h;unfold Λ at g;split at g
  ·rename_i e;have e:k=i:=e;cases g;exact ⟨c,by rw [<-e];exact aae,v0,v1⟩
  ·obtain ⟨c',m,a⟩:=x' h g;exact ⟨c',aac _ m,a⟩
 |[],_::_,_,_,h,_=>h.elim
 |_::_,[],_,_,h,_=>h.elim
theorem yv:∀{kc:List (Int×Nat)}{p:Pl}{i v:Int},ar kc p->(∀c,(i,c)∈kc->0<=v/\v<(c:Int))->ar kc (p.map λq=>if q.1=i then (q.1,v) else q)
 |[],[],_,_,_,_=>trivial
 |(k,c)::r,(k',v')::p,i,v,h,g=>by
  obtain ⟨rfl,v0,v1,h⟩:=h;have ih:=yv h λc hc=>g c (aac _ hc);show ar ((k,c)::r) ((if k=i then (k,v) else (k,v'))::p.map λq=>if q.1=i then (q.1,v) else q);by_cases e:k=i
  ·rw [if_pos e];have:=g c (by rw [<-e];exact aae);exact ⟨rfl,this.1,this.2,ih⟩
  ·rw [if_neg e];exact ⟨rfl,v0,v1,ih⟩
 |[],_::_,_,_,h,_=>h.elim
 |_::_,[],_,_,h,_=>h.elim
theorem mO{i:Int}:∀{p:Pl},i∈p.map (·.1)->(Λ p i).isSome=true
 |q::p,h=>by
  unfold Λ;split
  ·rfl
  ·rcases aay.mp h with e|e
   ·rename_i ne;exact absurd e.symm ne
   ·exact mO e
theorem HL{kc:List (Int×Nat)}{p:Pl}{i v:Int}(h:ar kc p)(hk:i∈kc.map (·.1))(g:∀c,(i,c)∈kc->0<=v/\v<(c:Int)):ar kc (eJ p i v):=by unfold eJ;rw [if_pos (mO (by rw [bJ h];exact hk))];exact yv h g
theorem AH{α:Type}{P Q:α->Bool}:∀{l:List α},(∀a∈l,P a=true->Q a=true)->∀{b:α},b∈l->Q b=true->P b=false->l.countP P<l.countP Q
 |a::l,h,b,hb,hq,hp=>by
  have le:l.countP P<=l.countP Q:=List.countP_mono_left λx hx=>h x (aac _ hx);rw [List.countP_cons,List.countP_cons];rcases aay.mp hb with e|e
  ·subst e;rw [hq,hp];show l.countP P+0<l.countP Q+1;omega
  ·have:=AH (λx hx=>h x (aac _ hx)) e hq hp;have ha:=h a aae;cases hP:P a with
   |false=>rw [if_neg (by decide)];split <;> omega
   |true=>rw [ha hP,if_pos rfl];omega
noncomputable def Yq(ε:Fr)(γ:List Rw)(Ι:Pl)(i:Nat):Rat:=open Classical in if h:∃tb,jL ε γ Ι tb then val (h.choose.getD i (0,1)) else 0
noncomputable def Br(ε:Fr)(γ:List Rw)(sg:Rat)(Ι:Pl):Rat:=dc (λi=>sg*Yq ε γ Ι i) γ.length
theorem vN{ε:Fr}{γ:List Rw}{Ι:Pl}{X C:Int}{tb:List Fr}(fw:FW ε γ X C)(dk:gO γ Ι)(b1:1<=iC X C)(h:jL ε γ Ι tb)(i:Nat):Yq ε γ Ι i=val (tb.getD i (0,1)):=by have ex:∃tb,jL ε γ Ι tb:=⟨tb,h⟩;unfold Yq;rw [dif_pos ex,(fw.sys dk b1).uniq ex.choose_spec.tab h.tab]
theorem xI{f g:Nat->Rat}:∀{n:Nat},(∀i,i<n->f i<=g i)->∀{k:Nat},k<n->f k<g k->dc f n<dc g n
 |n+1,h,k,hk,hl=>by
  have le:∀{m:Nat},(∀i,i<m->f i<=g i)->dc f m<=dc g m:=λ{m}=>by
   induction m with
   |zero=>intro _;show (0:Rat)<=0;grind
   |succ m ih=>
    intro h;have:=ih λi hi=>h i (abE hi);have:=h m (aa8 _);show dc f m+f m<=dc g m+g m;grind
  show dc f n+f n<dc g n+g n;by_cases e:k=n
  ·subst e;have:=le λi hi=>h i (abE hi);grind
  ·have:=xI (λi hi=>h i (abE hi)) (show k<n by omega) hl;have:=h n (aa8 _);grind
noncomputable def above(ε:Fr)(γ:List Rw)(sg:Rat)(mk:Pl->Pl)(kc:List (Int×Nat))(p:Pl):Nat:=open Classical in (oC kc).countP λq=>decide (Br ε γ sg (mk p)<Br ε γ sg (mk q))
theorem IW{ε:Fr}{γ:List Rw}{sg:Rat}{mk:Pl->Pl}{kc:List (Int×Nat)}{p q:Pl}(hq:ar kc q)(lt:Br ε γ sg (mk p)<Br ε γ sg (mk q)):above ε γ sg mk kc q<above ε γ sg mk kc p:=by unfold above;refine AH (λa _ ha=>?_) (rO hq) (decide_eq_true lt) (decide_eq_false (by grind));have:=of_decide_eq_true ha;exact decide_eq_true (by grind)
def lL(ns:List Fr):Fr:=ns.foldl (λf n=>if cM f n then n else f) (ns.headD (0,1))
def me(ns:List Fr):Fr:=ns.foldl (λf n=>if cM n f then n else f) (ns.headD (0,1))
def AU:DF:=λas M q _=>∃p r k l,as=[Ξ p,Ξ r]/\Sz k p/\Sz l r/\k+l+1<=8000/\q (.bl (cM p r)) M
theorem LU:Ε ["one","other"] ["one","other"] (τ A5):= .of rfl
theorem J5{f:Addr}{fd:FuncData}(F:cI K "under" "under" A5 f fd)(E:Ev K mg w Cm):aq P w K mg base (bV P w) 1 f fd ["one","other"] (cC K AU):=by
 refine F.de LU (λds M q x h=>?_) (λaV A outer s H E' hr=>⟨_,(μ (Ζ (Mx (aL (Μ (jv 0) χ) (Μ (jv 1) χ)) (aL (Μ (jv 1) χ) (Μ (jv 0) χ))))),λds M q x h=>?_⟩)
 ·obtain ⟨p,r,k,l,rfl,_⟩:=h;rfl
 ·obtain ⟨p,r,k,l,rfl,hp,g7,hk,h⟩:=h;exact ⟨⟨fT hp (by omega),c7 g7 (by omega)⟩,⟨fT g7 (by omega),c7 hp (by omega)⟩,h⟩
def vy(f:List Fr->Fr):DF:=λas M q _=>∃ns:List Fr,as=[.lst (ns.map Ξ)]/\ns≠[]/\(∀n∈ns,Sz 1300 n)/\q (Ξ (f ns)) M
theorem i8:Ε ["numbers","found","number"] ["numbers"] (τ oN):= .of rfl
theorem yZ{f:Addr}{fd:FuncData}(F:cI K "greatest" "greatest" oN f fd)(E:Ev K mg w Cm){A4:Addr}{B5:FuncData}(kN:av P w K mg base 1 "under" ["one","other"] AU A4 B5):aq P w K mg base (bV P w) 2 f fd ["numbers"] (cC K (vy lL)):=by
 refine F.de i8 (λds M q x h=>?_) (λaV A outer s H E' hr=>⟨_,(θ (Γ 1 i8.nd (Μ (jv 0) χ))
   (θ (dw (bR (jv 0)) (ax (i:=2) i8.nd rfl (Or.inl rfl)) aS (μ (aD (bB (ae kN hr ξ (Ρ (jv 1) (Ρ (jv 2) η)))) (μ (Γ 1 i8.nd (jv 2))) Υ)))
   (μ (Ζ (jv 1))))),λds M q x h=>?_⟩)
 ·obtain ⟨ns,rfl,_⟩:=h;rfl
 ·obtain ⟨ns,rfl,h0,hn,h⟩:=h;obtain ⟨n0,ns',rfl⟩:=aa5 h0;walk_at "vc";refine Η (d:= .lst ((n0::ns').map Ξ)) rfl a_ ?_;refine dZ (i:=0) (d:= .lst ((n0::ns').map Ξ)) rfl rfl ?_;refine bZ (λxs ρ M'=>M'=M/\∃(rest:List Fr) (f:Fr) (a:Option Dt),xs=rest.map Ξ/\(∀p∈rest,Sz 1300 p)/\Sz 1300 f/\rest.foldl (λf n=>if cM f n then n else f) f=lL (n0::ns')/\ρ=[some (.lst ((n0::ns').map Ξ)),some (Ξ f),a]) (λxs ρ M' hj=>trivial) (λx xs ρ M' hj fH=>?_) (λρ M' hj=>?_) _ _ _ ⟨rfl,n0::ns',n0,none,rfl,hn,hn n0 aae,rfl,rfl⟩
  ·obtain ⟨rfl,rest,f,a,ex,xS,hw,hf,rfl⟩:=hj;cases rest with
   |nil=>cases ex
   |cons p rest=>
    cases ex;have hp:=xS p aae;rw [abl] at hf;refine ⟨f,p,1300,1300,rfl,hw,hp,by decide,λz=>?_,λz=>?_⟩
    ·rw [z,if_pos rfl] at hf;exact fH _ _ ⟨rfl,rest,p,_,rfl,λp hp=>xS p (aac _ hp),hp,hf,rfl⟩
    ·rw [z,if_neg (by decide)] at hf;exact fH _ _ ⟨rfl,rest,f,_,rfl,λp hp=>xS p (aac _ hp),hw,hf,rfl⟩
  ·obtain ⟨rfl,rest,f,a,ex,xS,hw,hf,rfl⟩:=hj;cases rest with
   |nil=>rw [<-hf] at h;exact h
   |cons p rest=>cases ex
theorem qf:Ε ["numbers","found","number"] ["numbers"] (τ B9):= .of rfl
theorem HQ{f:Addr}{fd:FuncData}(F:cI K "least" "least" B9 f fd)(E:Ev K mg w Cm){A4:Addr}{B5:FuncData}(kN:av P w K mg base 1 "under" ["one","other"] AU A4 B5):aq P w K mg base (bV P w) 2 f fd ["numbers"] (cC K (vy me)):=by
 refine F.de qf (λds M q x h=>?_) (λaV A outer s H E' hr=>⟨_,(θ (Γ 1 qf.nd (Μ (jv 0) χ))
   (θ (dw (bR (jv 0)) (ax (i:=2) qf.nd rfl (Or.inl rfl)) aS (μ (aD (bB (ae kN hr ξ (Ρ (jv 2) (Ρ (jv 1) η)))) (μ (Γ 1 qf.nd (jv 2))) Υ)))
   (μ (Ζ (jv 1))))),λds M q x h=>?_⟩)
 ·obtain ⟨ns,rfl,_⟩:=h;rfl
 ·obtain ⟨ns,rfl,h0,hn,h⟩:=h;obtain ⟨n0,ns',rfl⟩:=aa5 h0;walk_at "vc";refine Η (d:= .lst ((n0::ns').map Ξ)) rfl a_ ?_;refine dZ (i:=0) (d:= .lst ((n0::ns').map Ξ)) rfl rfl ?_;refine bZ (λxs ρ M'=>M'=M/\∃(rest:List Fr) (f:Fr) (a:Option Dt),xs=rest.map Ξ/\(∀p∈rest,Sz 1300 p)/\Sz 1300 f/\rest.foldl (λf n=>if cM n f then n else f) f=me (n0::ns')/\ρ=[some (.lst ((n0::ns').map Ξ)),some (Ξ f),a]) (λxs ρ M' hj=>trivial) (λx xs ρ M' hj fH=>?_) (λρ M' hj=>?_) _ _ _ ⟨rfl,n0::ns',n0,none,rfl,hn,hn n0 aae,rfl,rfl⟩
  ·obtain ⟨rfl,rest,f,a,ex,xS,hw,hf,rfl⟩:=hj;cases rest with
   |nil=>cases ex
   |cons p rest=>
    cases ex;have hp:=xS p aae;rw [abl] at hf;refine ⟨p,f,1300,1300,rfl,hp,hw,by decide,λz=>?_,λz=>?_⟩
    ·rw [z,if_pos rfl] at hf;exact fH _ _ ⟨rfl,rest,p,_,rfl,λp hp=>xS p (aac _ hp),hp,hf,rfl⟩
    ·rw [z,if_neg (by decide)] at hf;exact fH _ _ ⟨rfl,rest,f,_,rfl,λp hp=>xS p (aac _ hp),hw,hf,rfl⟩
  ·obtain ⟨rfl,rest,f,a,ex,xS,hw,hf,rfl⟩:=hj;cases rest with
   |nil=>rw [<-hf] at h;exact h
   |cons p rest=>cases ex
structure Hu(ε:Fr)(γ:List Rw)(tb:List Fr):Prop where
 sh:aT ε=true
 len:γ.length<=12
 row:∀r∈γ,fP r/\fh r γ.length=true
 tl:tb.length=γ.length
 ts:∀t∈tb,Sz 1150 t
def fM(ε:Fr)(tb:List Fr):Rw->Fr
 |.fin p=>p
 |.υ k ds=>if k="one" then lL (ds.map (aa ε tb)) else me (ds.map (aa ε tb))
def cD(ε:Fr)(tb:List Fr):Rw->List Nat
 |.fin _=>[]
 |.υ k ds=>if Β k then (List.range ds.length).filter λj=>decide (aa ε tb (ds.getD j d0)=fM ε tb (.υ k ds)) else []
theorem zR{ε:Fr}{γ:List Rw}{tb:List Fr}{k:Str}{ds:List cj}(f:Hu ε γ tb)(h:Rw.υ k ds∈γ):ai ds γ.length=true/\(Β k=true\/k="chance"):=by
 have h2:=(f.row _ h).2;have h2:(if Β k then ai ds γ.length else if k="chance" then ai ds γ.length&&aj (ds.map ω) else false)=true:=h2;by_cases hk:Β k=true
 ·rw [if_pos hk] at h2;exact ⟨h2,.inl hk⟩
 ·rw [if_neg hk] at h2;by_cases hc:k="chance"
  ·rw [if_pos hc,aar] at h2;exact ⟨h2.1,.inr hc⟩
  ·rw [if_neg hc] at h2;cases h2
theorem C5{ε:Fr}{γ:List Rw}{tb:List Fr}{k:Str}{ds:List cj}{d:cj}(f:Hu ε γ tb)(h:Rw.υ k ds∈γ)(hd:d∈ds):0<=d.1/\d.1<γ.length/\Sz 101 d.2.1:=by have h2:=(zR f h).1;unfold ai at h2;rw [aar,aar] at h2;have h3:=abz.mp h2.2 d hd;unfold aH at h3;rw [aar,aar,decide_eq_true_iff,decide_eq_true_iff] at h3;exact ⟨h3.1,h3.2.1,OF h3.2.2 ((f.row _ h).1.2.2.2 d hd).2⟩
theorem Ho{ε:Fr}{γ:List Rw}{tb:List Fr}{k:Str}{ds:List cj}(f:Hu ε γ tb)(h:Rw.υ k ds∈γ):1<=ds.length/\ds.length<=6:=by have h2:=(zR f h).1;unfold ai at h2;rw [aar,aar,decide_eq_true_iff,decide_eq_true_iff] at h2;exact h2.1
theorem DV{ε:Fr}{γ:List Rw}{tb:List Fr}{t:Int}(f:Hu ε γ tb)(h0:0<=t)(h1:t<γ.length):nE (tb.map Ξ) t=some (Ξ (s_ tb t))/\Sz 1150 (s_ tb t):=by
 have hl:t.toNat<tb.length:=by rw [f.tl];omega
 have e:s_ tb t=tb[t.toNat]:=by unfold s_;rw [List.getD_eq_getElem?_getD,List.getElem?_eq_getElem hl];rfl
 refine ⟨?_,by rw [e];exact f.ts _ (aax hl)⟩;have e2:(tb.map Ξ)[t.toNat]? =some (Ξ (s_ tb t)):=by rw [aam,aaa hl,e];rfl
 have:=Κ e2;rwa [show ((t.toNat:Nat):Int)=t by omega] at this
theorem Ij{ε:Fr}{γ:List Rw}{tb:List Fr}{k:Str}{ds:List cj}{d:cj}(f:Hu ε γ tb)(h:Rw.υ k ds∈γ)(hd:d∈ds):Sz 1300 (aa ε tb d):=by obtain ⟨a,b,c⟩:=C5 f h hd;exact qg (L_ c (yy (mZ f.sh) (DV f a b).2)) (by decide)
theorem T_(p q:Fr):mH [.int p.1,.int p.2] [.int q.1,.int q.2]=decide (p=q):=by
 obtain ⟨a,b⟩:=p;obtain ⟨c,d⟩:=q;show ((a==c)&&((b==d)&&true))=_;rw [Bool.and_true];by_cases h1:a=c
 ·by_cases h2:b=d
  ·subst h1 h2;simp
  ·have:¬((a,b)=(c,d)):=λz=>h2 (Prod.mk.inj z).2;rw [decide_eq_false this];simp [h2]
 ·have:¬((a,b)=(c,d)):=λz=>h1 (Prod.mk.inj z).1;rw [decide_eq_false this];simp [h1]
theorem RZ{p r:Fr}{M:Ms}{k:Bool->Ms->Prop}(h:k (decide (p=r)) M):Ci (Ξ p) (Ξ r) M (λd M1=>match d with|.bl b=>k b M1|_=>False):=by show k (mH [.int p.1,.int p.2] [.int r.1,.int r.2]) M;rw [T_];exact h
theorem pG(p:Fr->Bool):∀(xs:List Fr) (n:Nat),((iO n (xs.map Ξ)).filter (λx=>match x with|.tup [_,.tup [.int a,.int b]]=>p (a,b)|_=>false)).map (λx=>match x with|.tup [i,_]=>i|_=> .bq)=((List.range xs.length).filter λj=>p (xs.getD j (0,1))).map λj:Nat=>Dt.int ((n+j:Nat):Int)
 |[],n=>rfl
 |x::xs,n=>by
  have ih:=pG p xs (n+1);rw [aau,abv,aaB];show (List.filter _ (.tup [.int n,Ξ x]::iO (n+1) (xs.map Ξ))).map _=_;have e1:((List.map Nat.succ (List.range xs.length)).filter λj=>p ((x::xs).getD j (0,1)))=((List.range xs.length).filter λj=>p (xs.getD j (0,1))).map Nat.succ:=by rw [List.filter_map];rfl
  by_cases hp:p x=true
  ·have h1:(match Dt.tup [.int n,Ξ x] with|.tup [_,.tup [.int a,.int b]]=>p (a,b)|_=>false)=true:=hp;rw [List.filter_cons_of_pos (by exact h1),List.filter_cons_of_pos (by exact hp),aaB,aaB,ih,e1,aaC]
   congr 1
   apply aaT;intro j _;show Dt.int _=Dt.int _
   congr 2;omega
  ·have h1:¬(match Dt.tup [.int n,Ξ x] with|.tup [_,.tup [.int a,.int b]]=>p (a,b)|_=>false)=true:=hp;rw [List.filter_cons_of_neg (by exact h1),List.filter_cons_of_neg (by exact hp),ih,e1,aaC];apply aaT;intro j _;show Dt.int _=Dt.int _
   congr 2;omega
def Kc(C:Addr):DF:=λas M q _=>∃ε γ tb i j k ds d,as=[az C ε γ,.int (i:Nat),.int (j:Nat),.lst (tb.map Ξ)]/\γ[i]? =some (.υ k ds)/\ds[j]? =some d/\Hu ε γ tb/\q (Ξ (aa ε tb d)) M
theorem mV:Ε ["self","place","door","table","taken"] ["self","place","door","table"] (τ kz):= .of rfl
theorem ue{f:Addr}{fd:FuncData}(F:cI K "shown" "Floor.shown" kz f fd)(E:Ev K mg w Cm){IA:Addr}{HF:FuncData}(oa:av P w K mg base 3 "plus" ["one","other"] Hs IA HF){r9:Addr}{sf:FuncData}(gf:av P w K mg base 3 "times" ["one","other"] vv r9 sf):aq P w K mg base (bV P w) 4 f fd ["self","place","door","table"] (cC K (Kc Cm)):=by
 refine F.de mV (λds M q x h=>?_) (λaV A outer s H E' hr=>⟨_,(θ (Γ 4 mV.nd (Μ (Μ (Μ (rM E.dh E.ck (jv 0)) (jv 1)) χ) (jv 2)))
   (μ (Ζ (ae oa hr ξ (ι (Μ (jv 4) χ) (ι (ae gf hr ξ (ι (rM E.dh E.fj (jv 0)) (ι (Μ (jv 3) (Μ (jv 4) χ)) η (hs:=aQ)))) η (hs:=aG)) (hs:=aQ)))))),λds M q x h=>?_⟩)
 ·obtain ⟨ε,γ,tb,i,j,k,ds,d,rfl,_⟩:=h;rfl
 ·obtain ⟨ε,γ,tb,i,j,k,ds,d,rfl,hi,hj,f,h⟩:=h;have hm:Rw.υ k ds∈γ:=aak hi;have hd:d∈ds:=aak hj;obtain ⟨a,b,c⟩:=C5 f hm hd;obtain ⟨t1,t2⟩:=DV f a b;have hdj:(ds.map eO)[j]? =some (eO d):=by rw [aam,hj];rfl
  refine ⟨_,_,_,.inl rfl,rfl,?_⟩;walk_at "vc";refine Η (xs:=γ.map aU) rfl (Κ (mN hi)) (NN (Η (d:= .lst (ds.map eO)) rfl (Κ hdj) ?_));refine Nx ⟨_,_,_,.inl rfl,rfl,GL (Η (d:= .lst (tb.map Ξ)) rfl t1 ⟨ε,s_ tb d.1,11,1150,rfl,mZ f.sh,t2,by decide,d.2.1,_,101,1161,rfl,c,yy (mZ f.sh) t2,by decide,h⟩)⟩
def oj(C:Addr):DF:=λas M q _=>∃ε γ tb i k ds,as=[az C ε γ,.int (i:Nat),.lst (tb.map Ξ)]/\γ[i]? =some (.υ k ds)/\Hu ε γ tb/\q (.lst (ds.map λd=>Ξ (aa ε tb d))) M
theorem jE:Ε ["self","place","table"] ["self","place","table"] (τ gW):= .of rfl
theorem oR{f:Addr}{fd:FuncData}(F:cI K "all_shown" "Floor.all_shown" gW f fd)(E:Ev K mg w Cm){cN:Addr}{cP:FuncData}(aK:cU P w K mg base 2 Cm "doors" ["self","place"] (rX Cm) cN cP){yV:Addr}{yb:FuncData}(jy:cU P w K mg base 4 Cm "shown" ["self","place","door","table"] (Kc Cm) yV yb):aq P w K mg base (bV P w) 5 f fd ["self","place","table"] (cC K (oj Cm)):=by
 refine F.de jE (λds M q x h=>?_) (λaV A outer s H E' hr=>⟨_,(μ (Ζ (Ka (ys:=["place","table","self"]) (ak:=[1,2,0]) (.of jE rfl rfl rfl) (cR E.bW (ι (bU E.bo (ι (cc (bQ aK hr ξ (jv 0) (Ρ (jv 1) η))) η (hs:=aG))) η (hs:=aG))) (λC s H fp=>(bQ jy hr (jA (P:=P) (w:=w)) (jv 3) (Ρ (jv 1) (Ρ (jv 0) (Ρ (jv 2) η)))))))),λds M q x h=>?_⟩)
 ·obtain ⟨ε,γ,tb,i,k,ds,rfl,_⟩:=h;rfl
 ·obtain ⟨ε,γ,tb,i,k,ds,rfl,hi,f,h⟩:=h;have hm:Rw.υ k ds∈γ:=aak hi;have ro:=(f.row _ hm).1;have l6:=Ho f hm;refine ⟨⟨_,_,.inl rfl,rfl⟩,ε,γ,i, .υ k ds,rfl,hi,ro,cT (ds:=ds.map eO) (hV ds) ?_⟩;walk_at "vc";refine au (d:= .lst (ds.map eO)) (xs:=ds.map eO) rfl ?_;rw [aad];refine ⟨⟨by omega,by omega⟩,by rw [gD];exact aaq (show _<=6 by omega) (by decide),?_⟩;refine nM (f:=λx=>match x with|.int j=>Ξ (aa ε tb (ds.getD j.toNat d0))|_=> .bq) _ _ (λx VQ q' hq=>?_) ?_
  ·obtain ⟨j,hj,rfl⟩:=sY VQ;have hj:j<ds.length:=by omega
   have e:ds.getD (0+(j:Int)).toNat d0=ds[j]:=by rw [show (0+(j:Int)).toNat=j by omega,aab,aaa hj];rfl
   have hq:q' (Ξ (aa ε tb (ds.getD (0+(j:Int)).toNat d0))) M:=hq;rw [e] at hq;refine ⟨⟨_,_,.inl rfl,rfl⟩,ε,γ,tb,i,j,k,ds,ds[j],by rw [Int.zero_add],hi,aaa hj,f,hq⟩
  ·rw [aaO,show ((ds.length:Int)).toNat=ds.length by omega];exact (λ(key:∀l,l=ds.map (λd=>Ξ (aa ε tb d))->q (.lst l) M)=>key _ (DR ds d0 (λd=>Ξ (aa ε tb d)))) λl hl=>by rw [hl];exact h
def Ny(C:Addr):DF:=λas M q _=>∃ε γ tb i r,as=[az C ε γ,.int (i:Nat),.lst (tb.map Ξ)]/\γ[i]? =some r/\Β (kindOf r)=true/\Hu ε γ tb/\q (Ξ (fM ε tb r)) M
theorem j4:Ε ["self","place","table","kind"] ["self","place","table"] (τ l7):= .of rfl
theorem wD{f:Addr}{fd:FuncData}(F:cI K "look" "Floor.look" l7 f fd)(E:Ev K mg w Cm){aO:Addr}{aM:FuncData}(Τ:cU P w K mg base 1 Cm "kind" ["self","place"] (mI Cm) aO aM){nZ:Addr}{nQ:FuncData}(eQ:cU P w K mg base 2 Cm "pay" ["self","place"] (OE Cm) nZ nQ){qT:Addr}{rY:FuncData}(gs:av P w K mg base 4 "weighed" ["chances","numbers"] qE qT rY){gP:Addr}{gB:FuncData}(aY:cU P w K mg base 5 Cm "all_shown" ["self","place","table"] (oj Cm) gP gB){cN:Addr}{cP:FuncData}(aK:cU P w K mg base 2 Cm "doors" ["self","place"] (rX Cm) cN cP){Et:Addr}{FF:FuncData}(lY:av P w K mg base 2 "greatest" ["numbers"] (vy lL) Et FF){N2:Addr}{PC:FuncData}(xa:av P w K mg base 2 "least" ["numbers"] (vy me) N2 PC):aq P w K mg base (bV P w) 6 f fd ["self","place","table"] (cC K (Ny Cm)):=by
 refine F.de j4 (λds M q x h=>?_) (λaV A outer s H E' hr=>⟨_,(θ (Γ 3 j4.nd (bQ Τ hr ξ (jv 0) (Ρ (jv 1) η)))
   (θ (aD (d9 hr (jv 3) jx) (μ (Ζ (bQ eQ hr ξ (jv 0) (Ρ (jv 1) η)))) Υ)
   (θ (aD (d9 hr (jv 3) jx) (μ (Ζ (ae gs hr ξ (ι (fS (ys:=[]) (ak:=[]) (.of j4 rfl rfl rfl) (bR (cc (bQ aK hr ξ (jv 0) (Ρ (jv 1) η)))) (λC s H fp=>(Μ (jv 0) χ))) (ι (bQ aY hr ξ (jv 0) (Ρ (jv 1) (Ρ (jv 2) η))) η (hs:=aG)))))) Υ)
   (θ (aD (d9 hr (jv 3) jx) (μ (Ζ (ae lY hr ξ (ι (bQ aY hr ξ (jv 0) (Ρ (jv 1) (Ρ (jv 2) η))) η (hs:=aG))))) Υ)
   (μ (Ζ (ae xa hr ξ (ι (bQ aY hr ξ (jv 0) (Ρ (jv 1) (Ρ (jv 2) η))) η (hs:=aG))))))))),λds M q x h=>?_⟩)
 ·obtain ⟨ε,γ,tb,i,r,rfl,_⟩:=h;rfl
 ·obtain ⟨ε,γ,tb,i,r,rfl,hi,hand,f,h⟩:=h;have hm:r∈γ:=aak hi;have ro:=(f.row _ hm).1;refine ⟨⟨_,_,.inl rfl,rfl⟩,ε,γ,i,r,rfl,hi,?_⟩;cases r with
  |fin p=>exact ⟨λ_=>⟨⟨_,_,.inl rfl,rfl⟩,ε,γ,i,.fin p,rfl,hi,ro,h⟩,λz=>(nomatch z)⟩
  |υ k ds=>
   have l6:=Ho f hm;have eS:ds.map (λd=>Ξ (aa ε tb d))=(ds.map (aa ε tb)).map Ξ:=by rw [aaC];rfl
   have hS:∀n∈ds.map (aa ε tb),Sz 1300 n:=λn hn=>by obtain ⟨d,hd,rfl⟩:=aaj.mp hn;exact Ij f hm hd
   have hN:ds.map (aa ε tb)≠[]:=λz=>by have:=congrArg List.length z;rw [aad] at this;simp at this;rw [this] at l6;exact absurd l6.1 (by decide)
   refine ⟨λz=>absurd (of_decide_eq_true z) ro.1,λ_=>⟨λz=>?_,λz=>?_⟩⟩
   ·have z:k="chance":=of_decide_eq_true z;rw [z] at hand;exact absurd hand (by show¬Β (Str.ofString "chance")=true;decide)
   ·have z:k≠"chance":=of_decide_eq_false z;refine ⟨λz1=>?_,λz1=>?_⟩
    ·have z1:k="one":=of_decide_eq_true z1;have e1:fM ε tb (.υ k ds)=lL (ds.map (aa ε tb)):=if_pos z1;rw [e1] at h;refine ⟨⟨_,_,.inl rfl,rfl⟩,ε,γ,tb,i,k,ds,rfl,hi,f,?_⟩;rw [eS];exact ⟨_,rfl,hN,hS,h⟩
    ·have z1:k≠"one":=of_decide_eq_false z1;have e1:fM ε tb (.υ k ds)=me (ds.map (aa ε tb)):=if_neg z1;rw [e1] at h;refine ⟨⟨_,_,.inl rfl,rfl⟩,ε,γ,tb,i,k,ds,rfl,hi,f,?_⟩;rw [eS];exact ⟨_,rfl,hN,hS,h⟩
def M9(C:Addr):DF:=λas M q _=>∃ε γ tb i r,as=[az C ε γ,.int (i:Nat),.lst (tb.map Ξ)]/\γ[i]? =some r/\Hu ε γ tb/\q (.lst ((cD ε tb r).map λj:Nat=>Dt.int j)) M
theorem jZ:Ε ["self","place","table","look"] ["self","place","table"] (τ mn):= .of rfl
theorem vq{f:Addr}{fd:FuncData}(F:cI K "best" "Floor.best" mn f fd)(E:Ev K mg w Cm){aO:Addr}{aM:FuncData}(Τ:cU P w K mg base 1 Cm "kind" ["self","place"] (mI Cm) aO aM){AE:Addr}{BZ:FuncData}(jP:cU P w K mg base 6 Cm "look" ["self","place","table"] (Ny Cm) AE BZ){gP:Addr}{gB:FuncData}(aY:cU P w K mg base 5 Cm "all_shown" ["self","place","table"] (oj Cm) gP gB):aq P w K mg base (bV P w) 7 f fd ["self","place","table"] (cC K (M9 Cm)):=by
 refine F.de jZ (λds M q x h=>?_) (λaV A outer s H E' hr=>⟨_,(θ (aD (uO (bQ Τ hr ξ (jv 0) (Ρ (jv 1) η)) (GZ E.wd)) (μ (Ζ (lq η))) Υ)
   (θ (Γ 3 jZ.nd (bQ jP hr ξ (jv 0) (Ρ (jv 1) (Ρ (jv 2) η))))
   (μ (Ζ (Iv (ys:=["look"]) (ak:=[3]) (.of jZ rfl rfl rfl) (xc E.dY (ι (bQ aY hr ξ (jv 0) (Ρ (jv 1) (Ρ (jv 2) η))) η (hs:=aG))) (λC s H fp=>(d9 hr (jv 1) (jv 2))) (λC s H fp=>(jv 0))))))),λds M q x h=>?_⟩)
 ·obtain ⟨ε,γ,tb,i,r,rfl,_⟩:=h;rfl
 ·obtain ⟨ε,γ,tb,i,r,rfl,hi,f,h⟩:=h;have hm:r∈γ:=aak hi;have ro:=(f.row _ hm).1;refine ⟨⟨_,_,.inl rfl,rfl⟩,ε,γ,i,r,rfl,hi,.str (kindOf r),[.str "one",.str "other"],[.str "one",.str "other"],rfl,rfl,rfl,?_⟩;rw [rV];cases r with
  |fin p=>exact ⟨λ_=>⟨by decide,h⟩,λz=>(nomatch (show (!Β "end")=false from z))⟩
  |υ k ds=>
   have l6:=Ho f hm;refine ⟨λz=>?_,λz=>?_⟩
   ·have z:Β k=false:=by have:(!Β k)=true:=z;simpa using this
    have e1:cD ε tb (.υ k ds)=[]:=if_neg (by rw [z];decide);rw [e1] at h;exact ⟨by decide,h⟩
   ·have z:Β k=true:=by have:(!Β k)=false:=z;simpa using this
    have e1:cD ε tb (.υ k ds)=(List.range ds.length).filter λj=>decide (aa ε tb (ds.getD j d0)=fM ε tb (.υ k ds)):=if_pos z;rw [e1] at h;refine ⟨⟨_,_,.inl rfl,rfl⟩,ε,γ,tb,i, .υ k ds,rfl,hi,z,f,?_⟩;refine ⟨⟨_,_,.inl rfl,rfl⟩,ε,γ,tb,i,k,ds,rfl,hi,f,?_⟩;generalize fM ε tb (.υ k ds)=lk at *
    have eS:ds.map (λd=>Ξ (aa ε tb d))=(ds.map (aa ε tb)).map Ξ:=by rw [aaC];rfl
    rw [eS];refine ⟨_,_,_,rfl,rfl,by rw [jo,aad,aad];exact aaq l6.2 (by decide),?_⟩;refine gh trivial (λx=>match x with|.tup [_,.tup [.int a,.int b]]=>decide ((a,b)=lk)|_=>false) (λx=>match x with|.tup [i,_]=>i|_=> .bq) _ _ (λx hx q' p' h1 h2=>?_) ?_
    ·obtain ⟨j,hj,ej⟩:=aaX hx;obtain ⟨y,hy,rfl⟩:=oq (n:=0) (i:=j) (aaf.mpr ⟨hj,ej⟩);rw [aam] at hy;obtain ⟨s0,hs0,rfl⟩:=Option.map_eq_some_iff.mp hy;have h1:decide (s0=lk)=true->q' (.int ((0+j:Nat):Int)) M:=h1;have h2:decide (s0=lk)=false->p' M:=h2;clear hx hj ej hy;have key:Ci (Ξ s0) (Ξ lk) M (λd M1=>match d with|.bl b=>(match b with|true=>q' (.int ((0+j:Nat):Int)) M1|false=>p' M1)|_=>False):=by
      refine RZ (k:=λb M1=>match b with|true=>q' (.int ((0+j:Nat):Int)) M1|false=>p' M1) ?_;cases hb:decide (s0=lk) with
      |true=>exact h1 hb
      |false=>exact h2 hb
     exact key
    ·rw [aaO,pG (λs0=>decide (s0=lk)) (ds.map (aa ε tb)) 0,aad];have e3:∀j∈List.range ds.length,decide ((ds.map (aa ε tb)).getD j (0,1)=lk)=decide (aa ε tb (ds.getD j d0)=lk):=λj hj=>by have hj:=aaW.mp hj;rw [aab,aam,aab,aaa hj];rfl
     rw [List.filter_congr e3];have e4:∀l:List Nat,(l.map λj:Nat=>Dt.int ((0+j:Nat):Int))=l.map λj:Nat=>Dt.int j:=λl=>aaT λj _=>by rw [Nat.zero_add]
     rw [e4];exact h
end
end Pg
namespace L2
open PySem
theorem zh{g:Dt->En->(En->Prop)->Prop}{tb:DS}{Dn:k9}{k:Nat}{u:Addr->HO}{m:MO}(J:List Key->En->Ms->Prop)(ba:∀xs ρ M,J xs ρ M->M[k]? =some (.raw u))
  (step:∀x xs ρ M,J (x::xs) ρ M->(∀ρ M,J xs ρ M->tX g tb Dn k u m xs ρ M)->g (Ig x) ρ λρ'=>tb {Dn with nx:=tX g tb Dn k u m xs,ct:=tX g tb Dn k u m xs,bk:=λρ M=>M[k]? =some (.raw u)/\Dn.nx ρ (M.set k m)} ρ' M)
  (fin:∀ρ M,J [] ρ M->Dn.nx ρ (M.set k m)):∀(xs:List Key) (ρ:En) (M:Ms),J xs ρ M->tX g tb Dn k u m xs ρ M
 |[],ρ,M,h=>⟨ba _ _ _ h,fin _ _ h⟩
 |x::xs,ρ,M,h=>⟨ba _ _ _ h,step x xs ρ M h λρ' M' h'=>zh J ba step fin xs ρ' M' h'⟩
end L2
namespace Pg
open PySem L2 Fr0 Tx
def iB(ε:Fr)(γ:List Rw)(tb:List Fr)(i:Int):List Nat:=match γ[i.toNat]? with
 |some r=>cD ε tb r
 |none=>[]
def Az(l:List Nat)(v:Int):Bool:=Oy (.int v) (l.map λj:Nat=>V.int j)
def pX(ε:Fr)(γ:List Rw)(tb:List Fr)(p:Int×Int):Pl:=if Az (iB ε γ tb p.1) p.2 then [] else [(p.1,((iB ε γ tb p.1).headD 0:Nat))]
def Α(ε:Fr)(γ:List Rw)(tb:List Fr)(pl:Pl):Pl:=pl.flatMap (pX ε γ tb)
theorem uw:∀l:List Nat,gK (l.map λj:Nat=>Dt.int j)=some (l.map λj:Nat=>V.int j)
 |[]=>rfl
 |j::l=>by have ih:=uw l;rw [aaB,aaB];unfold gK;rw [ih];rfl
theorem Km{M:Ms}{k:Nat}{m:MO}(h:M[k]? =some m):M.set k m=M:=by
 apply ab9;intro i;rw [List.getElem?_set];split
 ·rename_i e;subst e;rw [if_pos (aaf.mp h).1,h]
 ·rfl
theorem wM(pl:Pl):vP pl=(pl.map (·.2)).map Dt.int:=by unfold vP;rw [List.map_map];rfl
theorem fE{ε:Fr}{γ:List Rw}{tb:List Fr}{i:Int}:∀{pl:Pl},i∈(Α ε γ tb pl).map (·.1)->i∈pl.map (·.1)
 |p::r,h=>by
  unfold Α at h;rw [List.flatMap_cons,aaS] at h;rcases aaN.mp h with z|z
  ·unfold pX at z;split at z
   ·cases z
   ·rw [aaB];exact aay.mpr (.inl (aa6.mp z))
  ·exact aac _ (fE z)
theorem i_{ε:Fr}{γ:List Rw}{tb:List Fr}:∀pl:Pl,(Α ε γ tb pl).length<=pl.length
 |[]=>aah _
 |p::r=>by
  have ih:=i_ (ε:=ε) (γ:=γ) (tb:=tb) r;unfold Α at ih⊢;rw [List.flatMap_cons,aag,aau];have:(pX ε γ tb p).length<=1:=by
   unfold pX;split
   ·exact abK _
   ·exact aah _
  omega
theorem nD{i:Int}:∀{pl:Pl},i∉pl.map (·.1)->Λ pl i=none
 |[],_=>rfl
 |p::r,h=>by unfold Λ;rw [if_neg λz=>h (by rw [<-z];exact aae)];exact nD λz=>h (aac _ z)
section
variable{P:Program}{w:World}{K:PySem.W.Frag}{mg:Str->Option Value}{base:Heap}{Cm:Addr}
def vD(A:Addr):DF:=λas M q _=>∃(ε:Fr) (γ:List Rw) (tb:List Fr) (k:Nat) (pl:Pl),as=[az A ε γ,.loc k,.lst (tb.map Ξ)]/\M[k]? =some (dP pl)/\Hu ε γ tb/\uX pl/\pl.length<=12/\(∀p∈pl,0<=p.1/\∃r,γ[p.1.toNat]? =some r/\Β (kindOf r)=true/\cD ε tb r≠[])/\q (.loc M.length) (M++[dP (Α ε γ tb pl)])
theorem ff:Ε ["floor","plan","table","better","place","best"] ["floor","plan","table"] (τ je):= .of rfl
theorem sS{f:Addr}{fd:FuncData}(F:cI K "better_doors" "better_doors" je f fd)(E:Ev K mg w Cm){Cq:Addr}{Cv:FuncData}(ki:cU P w K mg base 7 Cm "best" ["self","place","table"] (M9 Cm) Cq Cv):aq P w K mg base (bV P w) 8 f fd ["floor","plan","table"] (cC K (vD Cm)):=by
 refine F.de ff (λds M q x h=>?_) (λaV A outer s H E' hr=>⟨_,(θ (Γ 3 ff.nd wJ)
   (θ (LI (jv 1) (ax (i:=4) ff.nd rfl (Or.inl rfl)) aS (θ (Γ 5 ff.nd (bQ ki hr ξ (jv 0) (Ρ (jv 4) (Ρ (jv 2) η))))
   (μ (aD (uO (KG (jv 1) (jv 4)) (jv 5)) (μ (qm hr (jv 3) (jv 4) (Μ (jv 5) χ))) Υ))))
   (μ (Ζ (jv 3))))),λds M q x h=>?_⟩)
 ·obtain ⟨ε,γ,tb,k,pl,rfl,_⟩:=h;rfl
 ·obtain ⟨ε,γ,tb,k,pl,rfl,hk,f,nd,lF,hp,h⟩:=h;have kl:k<M.length:=(aaf.mp hk).1;walk_at "vc";refine ⟨k,kP pl,pl.map (·.2),rfl,by rw [<-wM];exact aC hk,λep=>?_⟩;show tX _ _ _ k (NF P w (kP pl) (pl.map (·.2)) ep) _ _ _ ((M++[MO.ef [] []]).set k (.raw (NF P w (kP pl) (pl.map (·.2)) ep)));have Oh:∀p∈pl,c_ (kP pl) ((pl.map (·.2)).map Dt.int) (Sum.inl p.1)=some (.int p.2):=λp hm=>by
   rw [<-wM,yR];have:∀{l:Pl},uX l->p∈l->Λ l p.1=some p.2:=λ{l}=>by
    induction l with
    |nil=>intro _ z;cases z
    |cons a l ih=>
     intro nl hm;unfold uX at nl;rw [aaB,abu] at nl;unfold Λ;rcases aay.mp hm with e|e
     ·rw [if_pos (by rw [e]),e]
     ·rw [if_neg λz=>nl.1 (by rw [z];exact aaj.mpr ⟨p,e,rfl⟩)];exact ih nl.2 e
   rw [this nd hm];rfl
  generalize hu:NF P w (kP pl) (pl.map (·.2)) ep=u;have Xf:(M++[MO.ef [] []]).set k (.raw u)=M.set k (.raw u)++[dP []]:=by rw [abD _ _ kl];rfl
  have hb:∀Ι,((M.set k (.raw u)++[dP Ι]).set k (.ef (kP pl) (vP pl)))=M++[dP Ι]:=λΙ=>by
   rw [abD _ _ (by rw [aa2];exact kl),List.set_set]
   congr 1
   exact Km hk
  rw [Xf];refine zh (λxs ρ' M'=>∃(gz rest:Pl) (o4 o5:Option Dt),pl=gz++rest/\xs=kP rest/\M'=M.set k (.raw u)++[dP (Α ε γ tb gz)]/\ρ'=[some (az Cm ε γ),some (.loc k),some (.lst (tb.map Ξ)),some (.loc M.length),o4,o5]) (λxs ρ' M' hj=>?_) (λx xs ρ' M' hj fH=>?_) (λρ' M' hj=>?_) _ _ _ ⟨[],pl,none,none,rfl,rfl,rfl,rfl⟩
  ·obtain ⟨gz,rest,o4,o5,e,rfl,rfl,rfl⟩:=hj;exact aC (by rw [aa1 kl])
  ·obtain ⟨gz,rest,o4,o5,e,ex,rfl,rfl⟩:=hj;cases rest with
   |nil=>cases ex
   |cons p rest=>
    cases ex;have pm:p∈pl:=by rw [e];simp
    obtain ⟨p0,r,UT,xS,hr3⟩:=hp p pm;obtain ⟨p1,v⟩:=p;obtain ⟨i,rfl⟩:∃i:Nat,p1=(i:Int):=⟨p1.toNat,by have:0<=p1:=p0;omega⟩;have UT:γ[i]? =some r:=UT;have Zj:iB ε γ tb (i:Int)=cD ε tb r:=by unfold iB;rw [abt,UT]
    have MI:(M.set k (.raw u)++[dP (Α ε γ tb gz)])[k]? =some (.raw u):=aC (by rw [aa1 kl]);have SA:(M.set k (.raw u)++[dP (Α ε γ tb gz)])[M.length]? =some (dP (Α ε γ tb gz)):=by have:=aI (M:=M.set k (.raw u)) (o:=dP (Α ε γ tb gz));rwa [aa2] at this
    have Y2:Α ε γ tb (gz++[((i:Int),v)])=Α ε γ tb gz++pX ε γ tb ((i:Int),v):=by unfold Α;rw [List.flatMap_append];simp
    have R3:∀Ι o5,Ι=Α ε γ tb (gz++[((i:Int),v)])->_:=λΙ o5 ea=>fH [some (az Cm ε γ),some (.loc k),some (.lst (tb.map Ξ)),some (.loc M.length),some (.int (i:Int)),o5] (M.set k (.raw u)++[dP Ι]) ⟨gz++[((i:Int),v)],rest,_,o5,by rw [e,aaI];rfl,rfl,by rw [ea],rfl⟩;have hg:=Oh _ pm;rw [<-hu] at MI SA R3⊢;walk_at "vc";refine ⟨⟨_,_,.inl rfl,rfl⟩,ε,γ,tb,i,r,rfl,UT,f,?_⟩;generalize cD ε tb r=bl at *
    refine ⟨k,kP pl,(pl.map λx:Int×Int=>x.2),ep,Sum.inl (i:Int),v,rfl,MI,rfl,hg,?_⟩;refine ⟨.int v,_,_,rfl,rfl,uw bl,λz=>?_,λz=>?_⟩
    ·have z:(!Az bl v)=true:=z;have z:¬Az bl v=true:=by simpa using z
     obtain ⟨j,ZK,rfl⟩:=aa5 hr3;dsimp only [xv];walk_at "vc";refine (Η (d:= .lst ((j::ZK).map λj:Nat=>Dt.int j)) rfl a_ ?_:dF (.lst ((j::ZK).map λj:Nat=>Dt.int j)) (.int 0) _ _);have ll:=i_ (ε:=ε) (γ:=γ) (tb:=tb) gz;have dl:gz.length<=12:=by have:=congrArg List.length e;rw [aag] at this;omega
     refine ⟨M.length,_,_,Sum.inl (i:Int),rfl,SA,rfl,by unfold kP;rw [List.length_map];omega,?_⟩;rw [vf (v:=(j:Int)),yt];have gn:Λ (Α ε γ tb gz) (i:Int)=none:=nD λy=>by have y:=fE y;rw [e] at nd;unfold uX at nd;rw [aaS,ab8] at nd;exact nd.2.2 _ y _ aae rfl
     have e1:eJ (Α ε γ tb gz) (i:Int) (j:Int)=Α ε γ tb (gz++[((i:Int),v)]):=by rw [Y2];unfold eJ pX;rw [gn,Zj,if_neg z,if_neg (by decide)];rfl
     rw [e1,abM (h:=by rw [aa2];exact aah _),aa2,acd];exact R3 _ _ rfl
    ·have z:(!Az bl v)=false:=z;have z:Az bl v=true:=by simpa using z
     exact R3 _ _ (by rw [Y2];unfold pX;rw [Zj,if_pos z,List.append_nil])
  ·obtain ⟨gz,rest,o4,o5,e,ex,rfl,rfl⟩:=hj;have:rest=[]:=by cases rest with|nil=>rfl|cons p r=>cases ex
   subst this;rw [aaV] at e;rw [wM] at hb;rw [hb,<-e];exact h
def eL(γ:List Rw)(i:Nat):Str:=match γ[i]? with
 |some r=>kindOf r
 |none=>""
def iK(γ:List Rw)(hand:Str):List Nat:=(List.range γ.length).filter λi=>decide (eL γ i=hand)
def oH(γ:List Rw)(hand:Str):Pl:=(iK γ hand).map λi:Nat=>((i:Int),0)
theorem AZ(p:Nat->Bool)(n:Nat):((dU 0 n).filter λx=>match x with|.int j=>p j.toNat|_=>false)=((List.range n).filter p).map λi:Nat=>Dt.int i:=by
 unfold dU;rw [List.filter_map];have e:((λx:Dt=>match x with|.int j=>p j.toNat|_=>false) ∘ λi:Nat=>Dt.int (0+(i:Int)))=p:=funext λi=>by show p (0+(i:Int)).toNat=p i;rw [show (0+(i:Int)).toNat=i by omega]
 rw [e];exact aaT λi _=>by show Dt.int (0+(i:Int))=Dt.int i;rw [Int.zero_add]
def CS(A:Addr):DF:=λas M q _=>∃(ε:Fr) (γ:List Rw) (hand:Str),as=[az A ε γ,.str hand]/\γ.length<=12/\q (.lst ((iK γ hand).map λi:Nat=>Dt.int i)) M
theorem r8:Ε ["floor","hand"] ["floor","hand"] (τ nV):= .of rfl
theorem y_{f:Addr}{fd:FuncData}(F:cI K "places_of" "places_of" nV f fd)(E:Ev K mg w Cm){dR:Addr}{dW:FuncData}(aX:cU P w K mg base 1 Cm "size" ["self"] (zT Cm) dR dW){aO:Addr}{aM:FuncData}(Τ:cU P w K mg base 1 Cm "kind" ["self","place"] (mI Cm) aO aM):aq P w K mg base (bV P w) 2 f fd ["floor","hand"] (cC K (CS Cm)):=by
 refine F.de r8 (λds M q x h=>?_) (λaV A outer s H E' hr=>⟨_,(μ (Ζ (JO (ys:=["hand","floor"]) (ak:=[1,0]) (.of r8 rfl rfl rfl) (NG (cR E.bW (ι (kG aX hr ξ (jv 0)) η (hs:=aG)))) (λC s H fp=>(d9 hr (bQ Τ hr (jA (P:=P) (w:=w)) (jv 2) (Ρ (jv 0) η)) (jv 1))) (λC s H fp=>(jv 0))))),λds M q x h=>?_⟩)
 ·obtain ⟨ε,γ,hand,rfl,_⟩:=h;rfl
 ·obtain ⟨ε,γ,hand,rfl,lF,h⟩:=h;have sl:∀{z:Nat},z<=1000->z<=sizeLine:=λh=>aaq h (by decide);walk_at "vc";dsimp only [Bh,ZO];walk_at "vc";refine ⟨⟨_,_,.inl rfl,rfl⟩,ε,γ,rfl,?_⟩;refine ⟨by omega,by rw [gD];exact sl (by omega),?_⟩;rw [show ((γ.length:Int)).toNat=γ.length by omega];refine gh trivial (λx=>match x with|.int j=>decide (eL γ j.toNat=hand)|_=>false) (λx=>x) _ _ (λx hx q' p' h1 h2=>?_) ?_
  ·obtain ⟨j,hj,rfl⟩:=sY hx;rw [Int.zero_add] at h1 h2⊢;have hr:γ[j]? =some γ[j]:=aaa hj;have OJ:eL γ j=kindOf γ[j]:=by unfold eL;rw [hr]
   have h1:decide (eL γ j=hand)=true->q' (.int (j:Int)) M:=h1;have h2:decide (eL γ j=hand)=false->p' M:=h2;rw [OJ] at h1 h2;refine ⟨⟨_,_,.inl rfl,rfl⟩,ε,γ,j,γ[j],rfl,hr,?_⟩;show (match decide (kindOf γ[j]=hand) with|true=>q' (.int (j:Int)) M|false=>p' M);cases hb:decide (kindOf γ[j]=hand) with
   |true=>exact h1 hb
   |false=>exact h2 hb
  ·rw [aaO,List.map_id'];exact (λ(key:∀l,l=(iK γ hand).map (λi:Nat=>Dt.int i)->q (.lst l) M)=>key _ (AZ (λi=>decide (eL γ i=hand)) γ.length)) λl hl=>by rw [hl];exact h
def xb(A:Addr):DF:=λas M q _=>∃(ε:Fr) (γ:List Rw) (hand:Str),as=[az A ε γ,.str hand]/\γ.length<=12/\q (.loc M.length) (M++[dP (oH γ hand)])
theorem kB:Ε ["floor","hand","plan","place"] ["floor","hand"] (τ mj):= .of rfl
theorem vC{f:Addr}{fd:FuncData}(F:cI K "first_plan" "first_plan" mj f fd)(E:Ev K mg w Cm){Fq:Addr}{FN:FuncData}(lZ:av P w K mg base 2 "places_of" ["floor","hand"] (CS Cm) Fq FN):aq P w K mg base (bV P w) 3 f fd ["floor","hand"] (cC K (xb Cm)):=by
 refine F.de kB (λds M q x h=>?_) (λaV A outer s H E' hr=>⟨_,(θ (Γ 2 kB.nd wJ)
   (θ (dw (bR (ae lZ hr ξ (Ρ (jv 0) (Ρ (jv 1) η)))) (ax (i:=3) kB.nd rfl (Or.inl rfl)) aS (μ (qm hr (jv 2) (jv 3) χ)))
   (μ (Ζ (jv 2))))),λds M q x h=>?_⟩)
 ·obtain ⟨ε,γ,hand,rfl,_⟩:=h;rfl
 ·obtain ⟨ε,γ,hand,rfl,lF,h⟩:=h;have ae1:(iK γ hand).length<=12:=by have:=List.length_filter_le (λi=>decide (eL γ i=hand)) (List.range γ.length);rw [aaM] at this;unfold iK;omega
  have Y3:(iK γ hand).Nodup:=List.nodup_range.filter _;walk_at "vc";dsimp only [vc,gC];walk_at "vc";refine ⟨ε,γ,hand,rfl,lF,?_⟩;refine bZ (λxs ρ' M'=>∃(gz rest:List Nat) (o3:Option Dt),iK γ hand=gz++rest/\xs=rest.map (λi:Nat=>Dt.int i)/\M'=M++[dP (gz.map λi:Nat=>((i:Int),0))]/\ρ'=[some (az Cm ε γ),some (.str hand),some (.loc M.length),o3]) (λxs ρ' M' hj=>trivial) (λx xs ρ' M' hj fH=>?_) (λρ' M' hj=>?_) _ _ _ ⟨[],iK γ hand,none,rfl,rfl,rfl,rfl⟩
  ·obtain ⟨gz,rest,o3,e,ex,rfl,rfl⟩:=hj;cases rest with
   |nil=>cases ex
   |cons i rest=>
    cases ex;have dl:gz.length<=12:=by have:=congrArg List.length e;rw [aag] at this;omega
    dsimp only [xv];walk_at "vc";refine ⟨M.length,_,_,Sum.inl (i:Int),rfl,aI,rfl,by unfold kP;rw [List.length_map,List.length_map];omega,?_⟩;rw [vf (v:=0),yt,dE];have gn:Λ (gz.map λi:Nat=>((i:Int),0)) (i:Int)=none:=nD λy=>by
     rw [aaC] at y;obtain ⟨j,hj,ej⟩:=aaj.mp y;have ej:(j:Int)=(i:Int):=ej;have:j=i:=by omega
     subst this;rw [e,ab8] at Y3;exact Y3.2.2 _ hj _ aae rfl
    refine fH _ _ ⟨gz++[i],rest,_,by rw [e,aaI];rfl,rfl,?_,rfl⟩;unfold eJ;rw [gn,if_neg (by decide),aaS];rfl
  ·obtain ⟨gz,rest,o3,e,ex,rfl,rfl⟩:=hj;have:rest=[]:=by cases rest with|nil=>rfl|cons p r=>cases ex
   subst this;rw [aaV] at e;rw [<-e];exact h
def bf:Pl->Pl->Pl
 |p,[]=>p
 |p,e::r=>bf (eJ p e.1 e.2) r
theorem Dh:∀{r p:Pl},pM (kP p) (kP r)=kP (bf p r)
 |[],p=>rfl
 |e::r,p=>by show pM (fL (kP p) (Sum.inl e.1)) (kP r)=kP (bf (eJ p e.1 e.2) r);rw [vf (v:=e.2)];exact Dh
theorem Di:∀{r p:Pl},rA (kP p) (vP p) (kP r) (vP r)=vP (bf p r)
 |[],p=>rfl
 |e::r,p=>by show rA (fL (kP p) (Sum.inl e.1)) (eA (kP p) (Sum.inl e.1) (vP p) (.int e.2)) (kP r) (vP r)=vP (bf (eJ p e.1 e.2) r);rw [vf (v:=e.2),yt];exact Di
theorem eB{i:Int}:∀{r p:Pl},uX r->Λ (bf p r) i=match Λ r i with|some v=>some v|none=>Λ p i
 |[],p,_=>rfl
 |e::r,p,nd=>by
  unfold uX at nd;rw [aaB,abu] at nd;have ih:=eB (i:=i) (r:=r) (p:=eJ p e.1 e.2) nd.2;show Λ (bf (eJ p e.1 e.2) r) i=match (if e.1=i then some e.2 else Λ r i) with|some v=>some v|none=>Λ p i
  rw [ih,qh];by_cases h:e.1=i
  ·have hn:Λ r i=none:=by
    cases hg:Λ r i with
    |none=>rfl
    |some v=>exact absurd (aaj.mpr ⟨_,Ec hg,h.symm⟩) nd.1
   rw [hn,if_pos h,if_pos h.symm]
  ·rw [if_neg h,if_neg (Ne.symm h)]
def QV(A:Addr):DF:=λas M q _=>∃(ε:Fr) (γ:List Rw) (kh ka:Nat) (ph pa:Pl) (X C:Int),as=[az A ε γ,.loc kh,.loc ka]/\M[kh]? =some (dP ph)/\M[ka]? =some (dP pa)/\ph.length+pa.length<=1000/\gO γ (bf ph pa)/\FW ε γ X C/\iC X C<=2^450/\(12*iC X C)^γ.length<2^1030/\∀tb,jL ε γ (bf ph pa) tb->q (.loc (M.length+1)) (M++[dP (bf ph pa),.lst (tb.map Ξ)])
theorem jD:Ε ["floor","held","answer","doors"] ["floor","held","answer"] (τ gQ):= .of rfl
theorem pj{f:Addr}{fd:FuncData}(F:cI K "worths_against" "worths_against" gQ f fd)(E:Ev K mg w Cm){ow:Addr}{oS:FuncData}(eW:av P w K mg base 7 "worths_by" ["floor","doors"] (Qs Cm) ow oS):aq P w K mg base (bV P w) 8 f fd ["floor","held","answer"] (cC K (QV Cm)):=by
 refine F.de jD (λds M q x h=>?_) (λaV A outer s H E' hr=>⟨_,(θ (Γ 3 jD.nd (Iu E.qH (Ρ (jv 1) η)))
   (θ (eh (Cb (jv 3) (jv 2)))
   (μ (Ζ (ae eW hr ξ (Ρ (jv 0) (Ρ (jv 3) η))))))),λds M q x h=>?_⟩)
 ·obtain ⟨ε,γ,kh,ka,ph,pa,X,C,rfl,_⟩:=h;rfl
 ·obtain ⟨ε,γ,kh,ka,ph,pa,X,C,rfl,hh,ha,lz,dk,fw,g8,lx,h⟩:=h;walk_at "vc";refine ⟨kh,_,_,rfl,hh,?_⟩;dsimp only [CA];walk_at "vc";have kl:ka<M.length:=(aaf.mp ha).1;refine ⟨⟨M.length,_,_,rfl,aI⟩,M.length,ka,_,_,_,_,rfl,rfl,by omega,aI,aC ha,by unfold kP;rw [List.length_map,List.length_map];exact lz,?_⟩;rw [Dh,Di,dE];refine ⟨ε,γ,_,_,X,C,rfl,aI,dk,fw,g8,lx,λtb wt=>?_⟩;have:=h tb wt;simpa [List.append_assoc] using this
theorem yP{a b:Fr}(ha:0<a.2)(hb:0<b.2):a.1*b.2<=b.1*a.2↔val a<=val b:=by
 have e1:val a*(a.2:Rat)=a.1:=by
  have:=bc (show a.2≠0 by omega);unfold val;generalize (a.1:Rat)=x at *
  generalize (a.2:Rat)=y at *
  grind
 have e2:val b*(b.2:Rat)=b.1:=by
  have:=bc (show b.2≠0 by omega);unfold val;generalize (b.1:Rat)=x at *
  generalize (b.2:Rat)=y at *
  grind
 have p1:(0:Rat)<(a.2:Rat):=abg.mpr ha;have p2:(0:Rat)<(b.2:Rat):=abg.mpr hb;have pp:=Rat.mul_pos p1 p2;rw [<-aaU,aaD,aaD,<-e1,<-e2];generalize (a.2:Rat)=y at *
 generalize (b.2:Rat)=z at *
 generalize val a=u at *
 generalize val b=v at *
 constructor
 ·intro h;by_cases c:u<=v
  ·exact c
  ·have:=Rat.mul_pos (show 0<u-v by grind) pp;grind
 ·intro h;have:=abn h (Rat.le_of_lt pp);grind
theorem um{f n:Fr}(h1:0<f.2)(h2:0<n.2):cM f n=true↔val f<val n:=by
 unfold cM;rw [decide_eq_true_iff];have:=yP h2 h1;constructor
 ·intro h;by_cases c:val n<=val f
  ·have:=this.mpr c;omega
  ·grind
 ·intro h;by_cases c:n.1*f.2<=f.1*n.2
  ·have:=this.mp c;grind
  ·omega
theorem lC:∀(ns:List Fr) (f:Fr),0<f.2->(∀n∈ns,0<n.2)->(ns.foldl (λf n=>if cM f n then n else f) f∈f::ns)/\val f<=val (ns.foldl (λf n=>if cM f n then n else f) f)/\∀n∈ns,val n<=val (ns.foldl (λf n=>if cM f n then n else f) f)
 |[],f,_,_=>⟨List.mem_cons_self,by show val f<=val f;grind,λ_ z=>nomatch z⟩
 |a::ns,f,h,hn=>by
  have ha:=hn a aae;have u:=um h ha;rw [abl];by_cases c:cM f a=true
  ·rw [if_pos c];obtain ⟨m,l,al⟩:=lC ns a ha λn z=>hn n (aac _ z);have:=u.mp c;refine ⟨List.mem_cons_of_mem _ m,by grind,λn z=>?_⟩;rcases aay.mp z with e|e
   ·rw [e];exact l
   ·exact al n e
  ·rw [if_neg c];obtain ⟨m,l,al⟩:=lC ns f h λn z=>hn n (aac _ z);have c2:¬val f<val a:=λz=>c (u.mpr z);refine ⟨?_,l,λn z=>?_⟩
   ·rcases aay.mp m with e|e
    ·rw [e];exact aae
    ·exact aac _ (aac _ e)
   ·rcases aay.mp z with e|e
    ·rw [e];grind
    ·exact al n e
theorem lT:∀(ns:List Fr) (f:Fr),0<f.2->(∀n∈ns,0<n.2)->(ns.foldl (λf n=>if cM n f then n else f) f∈f::ns)/\val (ns.foldl (λf n=>if cM n f then n else f) f)<=val f/\∀n∈ns,val (ns.foldl (λf n=>if cM n f then n else f) f)<=val n
 |[],f,_,_=>⟨List.mem_cons_self,by show val f<=val f;grind,λ_ z=>nomatch z⟩
 |a::ns,f,h,hn=>by
  have ha:=hn a aae;have u:=um ha h;rw [abl];by_cases c:cM a f=true
  ·rw [if_pos c];obtain ⟨m,l,al⟩:=lT ns a ha λn z=>hn n (aac _ z);have:=u.mp c;refine ⟨List.mem_cons_of_mem _ m,by grind,λn z=>?_⟩;rcases aay.mp z with e|e
   ·rw [e];exact l
   ·exact al n e
  ·rw [if_neg c];obtain ⟨m,l,al⟩:=lT ns f h λn z=>hn n (aac _ z);have c2:¬val a<val f:=λz=>c (u.mpr z);refine ⟨?_,l,λn z=>?_⟩
   ·rcases aay.mp m with e|e
    ·rw [e];exact aae
    ·exact aac _ (aac _ e)
   ·rcases aay.mp z with e|e
    ·rw [e];grind
    ·exact al n e
def jJ(k:Str):Rat:=if k="one" then 1 else -1
section
variable{ε:Fr}{γ:List Rw}{tb:List Fr}{k:Str}{ds:List cj}
theorem uy(h0:ds≠[])(hp:∀d∈ds,0<(aa ε tb d).2):fM ε tb (.υ k ds)∈ds.map (aa ε tb)/\∀d∈ds,jJ k*val (aa ε tb d)<=jJ k*val (fM ε tb (.υ k ds)):=by
 obtain ⟨d1,mS,rfl⟩:=aa5 h0;have hn:∀n∈(d1::mS).map (aa ε tb),0<n.2:=λn hn=>by obtain ⟨d,hd,rfl⟩:=aaj.mp hn;exact hp d hd
 have h1:=hp d1 aae;unfold jJ;by_cases e:k="one"
 ·have e1:fM ε tb (.υ k (d1::mS))=lL ((d1::mS).map (aa ε tb)):=if_pos e;obtain ⟨m,l,al⟩:=lC ((d1::mS).map (aa ε tb)) (aa ε tb d1) h1 hn;have e2:lL ((d1::mS).map (aa ε tb))=((d1::mS).map (aa ε tb)).foldl (λf n=>if cM f n then n else f) (aa ε tb d1):=rfl;rw [e1,e2,if_pos e];refine ⟨?_,λd hd=>?_⟩
  ·rcases aay.mp m with y|y
   ·rw [y];exact aae
   ·exact y
  ·have:=al _ (aaj.mpr ⟨d,hd,rfl⟩);grind
 ·have e1:fM ε tb (.υ k (d1::mS))=me ((d1::mS).map (aa ε tb)):=if_neg e;obtain ⟨m,l,al⟩:=lT ((d1::mS).map (aa ε tb)) (aa ε tb d1) h1 hn;have e2:me ((d1::mS).map (aa ε tb))=((d1::mS).map (aa ε tb)).foldl (λf n=>if cM n f then n else f) (aa ε tb d1):=rfl;rw [e1,e2,if_neg e];refine ⟨?_,λd hd=>?_⟩
  ·rcases aay.mp m with y|y
   ·rw [y];exact aae
   ·exact y
  ·have:=al _ (aaj.mpr ⟨d,hd,rfl⟩);grind
end
theorem vL{l:List Nat}{v:Int}:Az l v=true↔∃j∈l,(j:Int)=v:=by
 unfold Az Oy;rw [List.any_eq_true];constructor
 ·rintro ⟨u,hu,e⟩;obtain ⟨j,hj,rfl⟩:=aaj.mp hu;refine ⟨j,hj,?_⟩;unfold tM at e;simpa using e
 ·rintro ⟨j,hj,e⟩;refine ⟨.int j,aaj.mpr ⟨j,hj,rfl⟩,?_⟩;unfold tM;simpa using e
section
variable{ε:Fr}{γ:List Rw}{X C:Int}{Ι bK:Pl}{tb:List Fr}{k:Str}{ds:List cj}{i j:Nat}
theorem nu{r:Rw}(hi:γ[i]? =some r):fY γ i=r:=by unfold fY;rw [aab,hi];rfl
theorem kC(hh:Β k=true):j∈cD ε tb (.υ k ds)↔j<ds.length/\aa ε tb (ds.getD j d0)=fM ε tb (.υ k ds):=by have e:cD ε tb (.υ k ds)=(List.range ds.length).filter λj=>decide (aa ε tb (ds.getD j d0)=fM ε tb (.υ k ds)):=if_pos hh;rw [e,List.mem_filter,aaW,decide_eq_true_iff]
theorem Mz(hh:Β k=true)(h0:ds≠[])(hp:∀d∈ds,0<(aa ε tb d).2):cD ε tb (.υ k ds)≠[]:=by obtain ⟨m,_⟩:=uy (k:=k) h0 hp;obtain ⟨d,hd,e⟩:=aaj.mp m;obtain ⟨j,jl,ej⟩:=aaX hd;have:j∈cD ε tb (.υ k ds):=(kC hh).mpr ⟨jl,by rw [aab,aaa jl];show aa ε tb ds[j]=_;rw [ej,e]⟩;exact List.ne_nil_of_mem this
theorem ni(fw:FW ε γ X C)(hm:Rw.υ k ds∈γ){d:cj}(hd:d∈ds)(hp:∀t,t<γ.length->0<(tb.getD t (0,1)).2):val (aa ε tb d)=val d.2.1+val ε*val (tb.getD d.1.toNat (0,1))/\Red (aa ε tb d):=by have s0:=fw.sh.1;have dr:=et fw.pl hm;obtain ⟨t0,t1⟩:=dr.to d hd;have tp:0<(tb.getD d.1.toNat (0,1)).2:=hp _ (by omega);have p0:=(dr.py d hd).2;have t:Red (aZ ε (tb.getD d.1.toNat (0,1))):=cy (abb (aaH s0 tp));refine ⟨?_,cy (abb (aaH p0 t.pos))⟩;show val (fQ d.2.1 (aZ ε (tb.getD d.1.toNat (0,1))))=_;rw [yM p0 t.pos,oo s0 tp]
theorem mQ(fw:FW ε γ X C)(hi:γ[i]? =some (.υ k ds))(hh:Β k=true)(gj:Λ Ι i=some (j:Int))(jl:j<ds.length)(hp:∀t,t<γ.length->0<(tb.getD t (0,1)).2):jH ε (xV γ Ι) (xY γ Ι) (λx=>val (tb.getD x (0,1))) i=val (aa ε tb (ds.getD j d0)):=by
 have rm:Rw.υ k ds∈γ:=aak hi;have gd:ds.getD j d0=ds[j]:=by rw [aab,aaa jl];rfl
 have dm:=aax jl;have e:aJ Ι i (.υ k ds)=[(ds[j].1,ds[j].2.1,[(1,1)])]:=by unfold aJ;rw [gj];show [((ds.getD ((j:Int)).toNat d0).1,(ds.getD ((j:Int)).toNat d0).2.1,(ds.getD ((j:Int)).toNat d0).2.2++[(1,1)])]=_;rw [abt,gd,fw.YH k ds rm hh _ dm];rfl
 have v1:val ((1,1):Fr)=1:=by show ((1:Int):Rat)/((1:Int):Rat)=1;grind
 have v0:val ((0,1):Fr)=0:=by show ((0:Int):Rat)/((1:Int):Rat)=0;grind
 have p0:=((et fw.pl rm).py ds[j] dm).2;have eg:val (QL Ι i (.υ k ds))=val ds[j].2.1:=by show val (h8 (((aJ Ι i (.υ k ds)).map ω).zip ((aJ Ι i (.υ k ds)).map (·.2.1))))=_;rw [e];show val (fQ (0,1) (aZ (1,1) ds[j].2.1))=_;have t:Red (aZ ((1,1):Fr) ds[j].2.1):=cy (abb (aaH (by decide) p0));rw [yM (by decide) t.pos,oo (by decide) p0,v0,v1];grind
 unfold jH xV xY;rw [nu hi,eg,gd,(ni fw rm dm hp).1];show _+val ε*aW (λd=>cV d*val (tb.getD d.1.toNat (0,1))) (aJ Ι i (.υ k ds))=_;rw [e];show _+val ε*(cV (ds[j].1,ds[j].2.1,[((1,1):Fr)])*val (tb.getD ds[j].1.toNat (0,1))+0)=_;have:cV (ds[j].1,ds[j].2.1,[((1,1):Fr)])=1:=v1;rw [this];grind
theorem zN{x:Nat->Rat}(h:Λ Ι i=Λ bK i):jH ε (xV γ Ι) (xY γ Ι) x i=jH ε (xV γ bK) (xY γ bK) x i:=by
 have e:∀r,aJ Ι i r=aJ bK i r:=λr=>by unfold aJ;rw [h]
 have e1:PB Ι i (fY γ i)=PB bK i (fY γ i):=by
  cases fY γ i with
  |fin p=>rfl
  |υ k ds=>exact e _
 have e2:QL Ι i (fY γ i)=QL bK i (fY γ i):=by
  cases fY γ i with
  |fin p=>rfl
  |υ k ds=>
   show h8 (((aJ Ι i (.υ k ds)).map ω).zip ((aJ Ι i (.υ k ds)).map (·.2.1)))=h8 (((aJ bK i (.υ k ds)).map ω).zip ((aJ bK i (.υ k ds)).map (·.2.1)));rw [e]
 unfold jH xV xY;rw [e1,e2]
theorem jL.jH(h:jL ε γ Ι tb)(il:i<γ.length):jH ε (xV γ Ι) (xY γ Ι) (λx=>val (tb.getD x (0,1))) i=val (tb.getD i (0,1)):=(h.tab.eq i il).symm
end
structure iT(hand ο:Str):Prop where
 h1:Β hand=true
 h2:Β ο=true
 ne:hand≠ο
 two:∀z:Str,Β z=true->z=hand\/z=ο
 sg:jJ ο= -jJ hand
theorem gF{hand ο:Str}(h:hand="one"/\ο="other"\/hand="other"/\ο="one"):iT hand ο:=by
 refine ⟨?_,?_,?_,λz hz=>?_,?_⟩
 ·rcases h with ⟨rfl,rfl⟩|⟨rfl,rfl⟩ <;> decide
 ·rcases h with ⟨rfl,rfl⟩|⟨rfl,rfl⟩ <;> decide
 ·rcases h with ⟨rfl,rfl⟩|⟨rfl,rfl⟩ <;> decide
 ·unfold Β at hz;rw [ab7,beq_iff_eq,beq_iff_eq] at hz;rcases h with ⟨rfl,rfl⟩|⟨rfl,rfl⟩
  ·exact hz
  ·exact hz.symm
 ·unfold jJ;rcases h with ⟨rfl,rfl⟩|⟨rfl,rfl⟩
  ·rw [if_neg (by decide),if_pos rfl]
  ·rw [if_pos rfl,if_neg (by decide)];grind
theorem yJ{k:Str}(h:Β k=true):∃r,iT k r/\iT r k:=by
 unfold Β at h;rw [ab7,beq_iff_eq,beq_iff_eq] at h;rcases h with h|h
 ·exact ⟨"other",gF (.inl ⟨h,rfl⟩),gF (.inr ⟨rfl,h⟩)⟩
 ·exact ⟨"one",gF (.inr ⟨h,rfl⟩),gF (.inl ⟨rfl,h⟩)⟩
section
variable{ε:Fr}{γ:List Rw}{X C:Int}{Ι bK:Pl}{tb pL:List Fr}{ο:Str}
def Dx(ε:Fr)(γ:List Rw)(tb:List Fr)(ο:Str)(Ι bK:Pl)(i:Nat):Prop:=∃ds j j',γ[i]? =some (.υ ο ds)/\Λ Ι i=some ((j:Nat):Int)/\Λ bK i=some ((j':Nat):Int)/\j<ds.length/\j∉cD ε tb (.υ ο ds)/\j'∈cD ε tb (.υ ο ds)
theorem yf(fw:FW ε γ X C){k:Str}{ds:List cj}(hm:Rw.υ k ds∈γ)(hp:∀t,t<γ.length->0<(tb.getD t (0,1)).2):Red (fM ε tb (.υ k ds))/\∀d∈ds,jJ k*val (aa ε tb d)<=jJ k*val (fM ε tb (.υ k ds)):=by have l1:=(et fw.pl hm).l1;obtain ⟨m,al⟩:=uy (ε:=ε) (tb:=tb) (k:=k) (ds:=ds) (λz=>by rw [z] at l1;exact absurd l1 (by decide)) λd hd=>(ni fw hm hd hp).2.pos;refine ⟨?_,al⟩;obtain ⟨d,hd,e⟩:=aaj.mp m;rw [<-e];exact (ni fw hm hd hp).2
theorem Ii{k:Str}{a b:Rat}(h:jJ k*a=jJ k*b):a=b:=by unfold jJ at h;split at h <;> grind
variable{hand:Str}
def Zw(ε:Fr)(γ:List Rw)(tb:List Fr)(hand ο:Str)(Ι bK:Pl)(i:Nat):Prop:=Λ bK i=Λ Ι i\/Dx ε γ tb hand Ι bK i\/∃ds j j',γ[i]? =some (.υ ο ds)/\Λ Ι i=some ((j:Nat):Int)/\Λ bK i=some ((j':Nat):Int)/\j'<ds.length/\j∈cD ε tb (.υ ο ds)
theorem q_(fw:FW ε γ X C)(hs:iT hand ο)(Lu:gO γ bK)(b1:1<=iC X C)(h:jL ε γ Ι tb)(h':jL ε γ bK pL)(hd:∀i,i<γ.length->Zw ε γ tb hand ο Ι bK i):(∀i,i<γ.length->jJ hand*val (tb.getD i (0,1))<=jJ hand*val (pL.getD i (0,1)))/\∀i,i<γ.length->Dx ε γ tb hand Ι bK i->jJ hand*val (tb.getD i (0,1))<jJ hand*val (pL.getD i (0,1)):=by
 have hp:∀t,t<γ.length->0<(tb.getD t (0,1)).2:=λt ht=>(h.tab.red t ht).pos;have chg:∀i,i<γ.length->Dx ε γ tb hand Ι bK i->0<jJ hand*(jH ε (xV γ bK) (xY γ bK) (λx=>val (tb.getD x (0,1))) i-val (tb.getD i (0,1))):=λi il ⟨ds,j,j',hi,g,g',jl,nb,b⟩=>by
  have rm:Rw.υ hand ds∈γ:=aak hi;obtain ⟨K7,e'⟩:=(kC hs.h1).mp b;obtain ⟨lr,al⟩:=yf (tb:=tb) fw rm hp;have gd:ds.getD j d0=ds[j]:=by rw [aab,aaa jl];rfl
  have dm:=aax jl;rw [mQ fw hi hs.h1 g' K7 hp,<-h.jH il,mQ fw hi hs.h1 g jl hp,e',gd];have le:=al _ dm;have ne:val (aa ε tb ds[j])≠val (fM ε tb (.υ hand ds)):=λz=>nb ((kC hs.h1).mpr ⟨jl,by rw [gd];exact xR (ni fw rm dm hp).2 lr z⟩);have ne2:jJ hand*val (aa ε tb ds[j])≠jJ hand*val (fM ε tb (.υ hand ds)):=λz=>ne (Ii z);grind
 have r0:∀i,i<γ.length->0<=jJ hand*(jH ε (xV γ bK) (xY γ bK) (λx=>val (tb.getD x (0,1))) i-val (tb.getD i (0,1))):=λi il=>by
  rcases hd i il with e|e|⟨ds,j,j',hi,g,g',K7,b⟩
  ·rw [zN e,h.jH il];grind
  ·exact Rat.le_of_lt (chg i il e)
  ·have rm:Rw.υ ο ds∈γ:=aak hi;obtain ⟨jl,e⟩:=(kC hs.h2).mp b;obtain ⟨lr,al⟩:=yf (tb:=tb) fw rm hp;have gd':ds.getD j' d0=ds[j']:=by rw [aab,aaa K7];rfl
   have le:=al _ (aax K7);rw [mQ fw hi hs.h2 g' K7 hp,<-h.jH il,mQ fw hi hs.h2 g jl hp,e,gd'];rw [hs.sg] at le;grind
 have key:=Tab.cmp (fw.sys Lu b1) h'.tab (x:=λx=>val (tb.getD x (0,1))) (sg:=jJ hand) r0;refine ⟨λi il=>?_,λi il e=>?_⟩
 ·have:=key i il;have:=r0 i il;grind
 ·have:=key i il;have:=chg i il e;grind
theorem Fb(fw:FW ε γ X C)(hh:Β ο=true)(dk:gO γ Ι)(Lu:gO γ bK)(b1:1<=iC X C)(h:jL ε γ Ι tb)(h':jL ε γ bK pL)(hd:∀i,i<γ.length->Λ bK i=Λ Ι i\/Dx ε γ tb ο Ι bK i):(∀i,i<γ.length->jJ ο*val (tb.getD i (0,1))<=jJ ο*val (pL.getD i (0,1)))/\∀i,i<γ.length->Dx ε γ tb ο Ι bK i->jJ ο*val (tb.getD i (0,1))<jJ ο*val (pL.getD i (0,1)):=by obtain ⟨r,hs,_⟩:=yJ hh;exact q_ fw hs Lu b1 h h' λi il=>(hd i il).elim .inl λc=> .inr (.inl c)
theorem BE(fw:FW ε γ X C)(hh:Β ο=true)(dk:gO γ Ι)(Lu:gO γ bK)(b1:1<=iC X C)(h:jL ε γ Ι tb)(h':jL ε γ bK pL)(hd:∀i,i<γ.length->Λ bK i=Λ Ι i\/Dx ε γ tb ο Ι bK i){i:Nat}(il:i<γ.length)(hc:Dx ε γ tb ο Ι bK i):Br ε γ (jJ ο) Ι<Br ε γ (jJ ο) bK:=by
 obtain ⟨a,b⟩:=Fb fw hh dk Lu b1 h h' hd;unfold Br;refine xI (λj hj=>?_) il ?_
 ·rw [vN fw dk b1 h,vN fw Lu b1 h'];exact a j hj
 ·rw [vN fw dk b1 h,vN fw Lu b1 h'];exact b i il hc
theorem yL(fw:FW ε γ X C)(hh:Β ο=true)(Lu:gO γ bK)(b1:1<=iC X C)(h:jL ε γ Ι tb)(h':jL ε γ bK pL)(hd:∀i,i<γ.length->Λ bK i=Λ Ι i\/∃ds j j',γ[i]? =some (.υ ο ds)/\Λ Ι i=some ((j:Nat):Int)/\Λ bK i=some ((j':Nat):Int)/\j'<ds.length/\j∈cD ε tb (.υ ο ds)):∀i,i<γ.length->jJ ο*val (pL.getD i (0,1))<=jJ ο*val (tb.getD i (0,1)):=λi il=>by obtain ⟨r,_,hs⟩:=yJ hh;have k:=(q_ fw hs Lu b1 h h' λi il=>(hd i il).elim .inl λc=> .inr (.inr c)).1 i il;rw [hs.sg];grind
end
theorem Lm{p:Fr}{C:Int}(h:0<p.2)(a:d7 p C):ab (val p)<=(C:Rat):=by
 have e:val p*(p.2:Rat)=p.1:=by
  have:=bc (show p.2≠0 by omega);unfold val;generalize (p.1:Rat)=x at *
  generalize (p.2:Rat)=y at *
  grind
 have p0:(0:Rat)<(p.2:Rat):=abg.mpr h;have a1:(p.1:Rat)<=(p.2:Rat)*(C:Rat):=by rw [<-aaD];exact aaU.mpr a.1
 have a2: -((p.2:Rat)*(C:Rat))<=(p.1:Rat):=by rw [<-aaD,<-Rat.intCast_neg];exact aaU.mpr a.2
 refine k7.mpr ⟨?_,?_⟩
 ·by_cases z: -(C:Rat)<=val p
  ·exact z
  ·have:=Rat.mul_pos (show 0< -(C:Rat)-val p by grind) p0;grind
 ·by_cases z:val p<=(C:Rat)
  ·exact z
  ·have:=Rat.mul_pos (show 0<val p-(C:Rat) by grind) p0;grind
theorem KZ{p:Fr}{C:Int}(h:0<p.2)(a:ab (val p)<=(C:Rat)):d7 p C:=by
 have e:val p*(p.2:Rat)=p.1:=by
  have:=bc (show p.2≠0 by omega);unfold val;generalize (p.1:Rat)=x at *
  generalize (p.2:Rat)=y at *
  grind
 have p0:(0:Rat)<=(p.2:Rat):=aaU.mpr (aai h);obtain ⟨a1,a2⟩:=k7.mp a;have b1:=abn a1 p0;have b2:=abn a2 p0;constructor
 ·apply aaU.mp;rw [Rat.intCast_mul];grind
 ·apply aaU.mp;rw [Rat.intCast_neg,Rat.intCast_mul];grind
theorem Sys.abs{ε:Fr}{n:Nat}{B:Int}{ws:Nat->List cj}{gv:Nat->Fr}{tb:List Fr}{c:Rat}(S:Sys ε n B ws gv)(h:Tab ε n ws gv tb)(s3:1<=1000*(1-val ε))(hg:∀i,i<n->ab (val (gv i))<=c):∀i,i<n->ab (val (tb.getD i (0,1)))<=1000*c:=λi hi=>by
 have s0:=S.s0;have s1:=S.s1
 have:=Kl (n:=n) (x:=λx=>val (tb.getD x (0,1))) (c:=c) s1 (λi hi m hm=>by
  obtain ⟨E,C,p,_⟩:=S.GA i hi;have w:=k7.mp (Dw p.wo (by omega) hm);have a:=aaJ w.1 s0;have b:=aaJ w.2 s0;have g:=k7.mp (hg i hi);rw [h.eq i hi]
  refine k7.mpr ⟨?_,?_⟩ <;> grind) i hi
 have a0:=Pu (val (tb.getD i (0,1)));have:=aaJ s3 a0;grind
structure JU(tb:List Fr)(n:Nat):Prop where
 len:tb.length=n
 red:∀t∈tb,Red t
 sz:∀t∈tb,t.2<2^1030/\t.1.natAbs<2^1150
theorem jL.ok{ε:Fr}{γ:List Rw}{Ι:Pl}{tb:List Fr}{X C:Int}(fw:FW ε γ X C)(dk:gO γ Ι)(b1:1<=iC X C)(h:jL ε γ Ι tb):JU tb γ.length:=by
 have S:=fw.sys dk b1;obtain ⟨_,_,_,_,_,s3⟩:=fw.sh;have c1:=fw.c1;have ln:=h.tab.len;have g:∀t∈tb,∃i,i<γ.length/\tb.getD i (0,1)=t:=λt ht=>by obtain ⟨i,hi,e⟩:=aaX ht;exact ⟨i,by omega,by rw [aab,aaa hi,e];rfl⟩
 have ab:=S.abs h.tab s3 (c:=((6*C:Int):Rat)) λi hi=>by obtain ⟨E,p,_⟩:=fw.GA dk (rw_at hi);exact Lm p.gn.red.pos p.gn.ab
 refine ⟨ln,λt ht=>?_,λt ht=>?_⟩
 ·obtain ⟨i,hi,e⟩:=g t ht;rw [<-e];exact h.tab.red i hi
 ·obtain ⟨i,hi,e⟩:=g t ht;have r:=h.tab.red i hi;have b:=h.bot i hi;have a:=ab i hi;rw [e] at r b a;have r0:=r.pos;have a:Pg.ab (val t)<=((1000*(6*C):Int):Rat):=by rw [aaD];exact a
  obtain ⟨v1,v2⟩:=KZ r0 a;refine ⟨b,?_⟩;have m:t.2*(1000*(6*C))<=2^1030*(1000*(6*10^30)):=abj (aai b) (by omega) (by have:=fw.c9;omega) (by decide);have:(t.1.natAbs:Int)<((2^1150:Nat):Int):=aaw (show _<=(2:Int)^1030*(1000*(6*10^30)) by omega) (by decide);exact abr.mp this
def uF(hand:Str)(pl:Pl):Str->Option Pl:=λz=>if z=hand then some pl else none
abbrev b_(γ:List Rw)(hand:Str)(pl:Pl):Pl:=cW γ (uF hand pl) γ.length
def eV(γ:List Rw)(ο:Str):List (Int×Nat):=(iK γ ο).map λi:Nat=>((i:Int),(Ν (fY γ i)).length)
theorem Ee{γ:List Rw}:∀{l:List Nat},(∀i∈l,1<=(Ν (fY γ i)).length)->ar (l.map λi:Nat=>((i:Int),(Ν (fY γ i)).length)) (l.map λi:Nat=>((i:Int),(0:Int)))
 |[],_=>trivial
 |i::l,h=>⟨rfl,Int.le_refl _,by have:=h i aae;omega,Ee λj hj=>h j (aac _ hj)⟩
section
variable{ε:Fr}{γ:List Rw}{X C:Int}{tb:List Fr}{hand ο:Str}{pl p:Pl}{i:Nat}
theorem iU:i∈iK γ ο↔i<γ.length/\eL γ i=ο:=by unfold iK;rw [List.mem_filter,aaW,decide_eq_true_iff]
theorem yK(fw:FW ε γ X C)(hh:Β ο=true)(h:i∈iK γ ο):∃ds,γ[i]? =some (.υ ο ds)/\Ν (fY γ i)=ds/\1<=ds.length:=by
 obtain ⟨il,e⟩:=iU.mp h;have hi:γ[i]? =some γ[i]:=aaa il;unfold eL at e;rw [hi] at e;have e:kindOf γ[i]=ο:=e;cases hr:γ[i] with
 |fin p=>
  rw [hr] at e;rw [<-e] at hh;exact absurd hh (by show¬Β (Str.ofString "end")=true;decide)
 |υ k ds=>
  rw [hr] at e hi;have e:k=ο:=e;subst e;exact ⟨ds,hi,by rw [nu hi];rfl,(et fw.pl (aak hi)).l1⟩
theorem qL(fw:FW ε γ X C)(hh:Β ο=true):ar (eV γ ο) (oH γ ο):=Ee λi hi=>by obtain ⟨ds,_,e,l⟩:=yK fw hh hi;rw [e];exact l
theorem fV:(eV γ ο).map (·.1)=(iK γ ο).map λi:Nat=>(i:Int):=by unfold eV;rw [List.map_map];rfl
theorem bw(h:ar (eV γ ο) p):uX p:=by unfold uX;rw [bJ h,fV];have nd:(iK γ ο).Nodup:=List.nodup_range.filter _;exact List.Pairwise.map _ (λa b Xz z=>Xz (by have z:(a:Int)=(b:Int):=z;omega)) nd
theorem cf(fw:FW ε γ X C)(hh:Β ο=true)(h:ar (eV γ ο) p):(∀ds,γ[i]? =some (.υ ο ds)->∃j:Nat,Λ p i=some (j:Int)/\j<ds.length)/\(∀r,γ[i]? =some r->kindOf r≠ο->Λ p i=none):=by
 refine ⟨λds hi=>?_,λr hi hk=>?_⟩
 ·have il:=(aaf.mp hi).1;have m:i∈iK γ ο:=iU.mpr ⟨il,by unfold eL;rw [hi];rfl⟩;have s:=mO (i:=(i:Int)) (p:=p) (by rw [bJ h,fV];exact aaj.mpr ⟨i,m,rfl⟩);obtain ⟨v,hv⟩:=abo.mp s;obtain ⟨c,hc,v0,v1⟩:=x' h hv;unfold eV at hc;obtain ⟨i',_,e⟩:=aaj.mp hc;have e1:(i':Int)=(i:Int):=congrArg Prod.fst e;have e2:(Ν (fY γ i')).length=c:=congrArg Prod.snd e;have:i'=i:=by omega
  subst this;rw [nu hi] at e2;have e2:ds.length=c:=e2;exact ⟨v.toNat,by rw [hv,abW v0],by omega⟩
 ·refine nD λz=>?_;rw [bJ h,fV] at z;obtain ⟨i',m,e⟩:=aaj.mp z;have:i'=i:=by have e:(i':Int)=(i:Int):=e;omega
  subst this;have:=(iU.mp m).2;unfold eL at this;rw [hi] at this;exact hk this
theorem Qw(fw:FW ε γ X C)(h1:Β hand=true)(h2:Β ο=true)(kM:hand≠ο)(two:∀k:Str,Β k=true->k=hand\/k=ο)(gd:∀i,i<γ.length->fb γ (uF hand pl) i=true)(h:ar (eV γ ο) p):gO γ (bf (b_ γ hand pl) p):=by
 have Oh:∀(i:Nat) (r:Rw),γ[i]? =some r->kindOf r≠hand->Λ (b_ γ hand pl) i=none:=λi r hi hk=>by have il:=(aaf.mp hi).1;rw [i5,if_pos il,hi];show Option.map _ (uF hand pl (kindOf r))=none;unfold uF;rw [if_neg hk];rfl
 refine ⟨λi r hi hk=>?_,λi r hi hk=>?_⟩
 ·rw [eB (bw h)];rcases two _ hk with e|e
  ·have il:=(aaf.mp hi).1;rw [(cf (i:=i) fw h2 h).2 r hi (λz=>kM (e.symm.trans z))];dsimp only;have g:=gd i il;unfold fb at g;rw [hi] at g;have g:jC (uF hand pl) i r=true:=g;have ep:uF hand pl (kindOf r)=some pl:=by unfold uF;rw [if_pos e]
   unfold jC at g;rw [ep] at g;have g:dM pl i (Ν r).length=true:=g;rw [i5,if_pos il,hi];show∃j:Nat,Option.map (λpl=>(Λ pl i).getD 0) (uF hand pl (kindOf r))=some (j:Int)/\_;rw [ep];unfold dM at g;cases hv:Λ pl i with
   |none=>rw [hv] at g;cases g
   |some v=>
    rw [hv] at g;have g:(decide (0<=v)&&decide (v<((Ν r).length:Int)))=true:=g;rw [aar,decide_eq_true_iff,decide_eq_true_iff] at g;refine ⟨v.toNat,?_,by omega⟩;show some ((Λ pl i).getD 0)=_;rw [hv,abW g.1];rfl
  ·cases r with
   |fin q=>exact absurd hk (by show¬Β (Str.ofString "end")=true;decide)
   |υ k ds=>
    have e:k=ο:=e;subst e;obtain ⟨j,gj,jl⟩:=(cf (i:=i) fw h2 h).1 ds hi;rw [gj];exact ⟨j,rfl,jl⟩
 ·rw [eB (bw h),(cf (i:=i) fw h2 h).2 r hi (λz=>by rw [z,h2] at hk;cases hk)];exact Oh i r hi λz=>by rw [z,h1] at hk;cases hk
end
section
variable{ε:Fr}{γ:List Rw}{X C:Int}{tb:List Fr}{hand ο:Str}{pl p:Pl}{i:Nat}
theorem rf:∀pl:Pl,((Α ε γ tb pl).map (·.1)).Sublist (pl.map (·.1))
 |[]=>List.Sublist.refl _
 |a::r=>by
  have ih:=rf r;have e:Α ε γ tb (a::r)=pX ε γ tb a++Α ε γ tb r:=by unfold Α;rw [List.flatMap_cons]
  rw [e,aaS,aaB];unfold pX;split
  ·exact List.Sublist.cons _ ih
  ·exact List.Sublist.cons₂ _ ih
theorem oG(h:uX pl):uX (Α ε γ tb pl):=(rf pl).nodup h
theorem gT{i:Int}:∀{pl:Pl},uX pl->Λ (Α ε γ tb pl) i=(match Λ pl i with
 |some v=>if Az (iB ε γ tb i) v then none else some (((iB ε γ tb i).headD 0:Nat):Int)
 |none=>none)
 |[],_=>rfl
 |a::r,nd=>by
  unfold uX at nd;rw [aaB,abu] at nd;have ih:=gT (i:=i) (pl:=r) nd.2;have e:Α ε γ tb (a::r)=pX ε γ tb a++Α ε γ tb r:=by unfold Α;rw [List.flatMap_cons]
  rw [e];by_cases ei:a.1=i
  ·have e2:Λ (a::r) i=some a.2:=by unfold Λ;rw [if_pos ei]
   have hn:Λ (Α ε γ tb r) i=none:=nD λz=>nd.1 (by rw [ei];exact fE z);rw [e2];dsimp only;unfold pX;rw [ei];by_cases c:Az (iB ε γ tb i) a.2=true
   ·rw [if_pos c,if_pos c,aaO,hn]
   ·rw [if_neg c,if_neg c];show Λ ((i,(((iB ε γ tb i).headD 0:Nat):Int))::Α ε γ tb r) i=_;unfold Λ;rw [if_pos rfl]
  ·have e2:Λ (a::r) i=Λ r i:=by rw [Λ,if_neg ei]
   rw [e2,<-ih];unfold pX;split
   ·rfl
   ·show Λ ((a.1,_)::Α ε γ tb r) i=_;rw [Λ,if_neg ei]
theorem zP{kc:List (Int×Nat)}:∀(q s:Pl),ar kc s->(∀e∈q,e.1∈kc.map (·.1)/\∀c,(e.1,c)∈kc->0<=e.2/\e.2<(c:Int))->ar kc (bf s q)
 |[],s,h,_=>h
 |e::q,s,h,hq=>by obtain ⟨a,b⟩:=hq e aae;exact zP q (eJ s e.1 e.2) (HL h a b) λx hx=>hq x (aac _ hx)
theorem iL(fw:FW ε γ X C)(hh:Β ο=true)(h:ar (eV γ ο) p)(hp:∀t,t<γ.length->0<(tb.getD t (0,1)).2)(hm:i∈iK γ ο):∃ds j,γ[i]? =some (.υ ο ds)/\Ν (fY γ i)=ds/\Λ p i=some ((j:Nat):Int)/\j<ds.length/\iB ε γ tb i=cD ε tb (.υ ο ds)/\cD ε tb (.υ ο ds)≠[]/\(cD ε tb (.υ ο ds)).headD 0∈cD ε tb (.υ ο ds):=by obtain ⟨ds,hi,ed,l1⟩:=yK fw hh hm;obtain ⟨j,gj,jl⟩:=(cf (i:=i) fw hh h).1 ds hi;have rm:Rw.υ ο ds∈γ:=aak hi;have ne:cD ε tb (.υ ο ds)≠[]:=Mz hh (λz=>by rw [z] at l1;exact absurd l1 (by decide)) λd hd=>(ni fw rm hd hp).2.pos;refine ⟨ds,j,hi,ed,gj,jl,by unfold iB;rw [Int.toNat_natCast,hi],ne,?_⟩;obtain ⟨b,bs,e⟩:=aa5 ne;rw [e];exact aae
theorem fG(fw:FW ε γ X C)(hh:Β ο=true)(h:ar (eV γ ο) p)(hp:∀t,t<γ.length->0<(tb.getD t (0,1)).2):ar (eV γ ο) (bf p (Α ε γ tb p)):=by
 refine zP _ _ h λe he=>?_;have ke:e.1∈p.map (·.1):=fE (aaj.mpr ⟨e,he,rfl⟩);have kk:=ke;rw [bJ h] at kk;rw [bJ h,fV] at ke;obtain ⟨i,hm,ei⟩:=aaj.mp ke;obtain ⟨ds,j,hi,ed,gj,jl,eb,ne,hd⟩:=iL fw hh h hp hm;refine ⟨kk,λc hc=>?_⟩;have c1:c=ds.length:=by
  unfold eV at hc;obtain ⟨i',_,e'⟩:=aaj.mp hc;have e1:(i':Int)=e.1:=congrArg Prod.fst e';have e2:(Ν (fY γ i')).length=c:=congrArg Prod.snd e';have:i'=i:=by have ei:(i:Int)=e.1:=ei;omega
  subst this;rw [<-e2,ed]
 have gb:=gT (ε:=ε) (γ:=γ) (tb:=tb) (i:=e.1) (bw h);have nb:=oG (ε:=ε) (γ:=γ) (tb:=tb) (bw h);have ge:Λ (Α ε γ tb p) e.1=some e.2:=by
  have:∀{l:Pl},uX l->e∈l->Λ l e.1=some e.2:=λ{l}=>by
   induction l with
   |nil=>intro _ z;cases z
   |cons a l ih=>
    intro nl hm;unfold uX at nl;rw [aaB,abu] at nl;unfold Λ;rcases aay.mp hm with y|y
    ·rw [if_pos (by rw [y]),y]
    ·rw [if_neg λz=>nl.1 (by rw [z];exact aaj.mpr ⟨e,y,rfl⟩)];exact ih nl.2 y
  exact this nb he
 have ei:e.1=(i:Int):=ei.symm;rw [ge,ei,gj,eb] at gb;dsimp only at gb;split at gb
 ·cases gb
 ·have gb:=aas gb;have:=((kC hh).mp hd).1;omega
theorem uY(fw:FW ε γ X C)(hh:Β ο=true)(h:ar (eV γ ο) p)(hp:∀t,t<γ.length->0<(tb.getD t (0,1)).2)(hb:Pl):∀i,i<γ.length->Λ (bf hb (bf p (Α ε γ tb p))) i=Λ (bf hb p) i\/Dx ε γ tb ο (bf hb p) (bf hb (bf p (Α ε γ tb p))) i:=λi il=>by
 have h':=fG (tb:=tb) fw hh h hp;have gb:=gT (ε:=ε) (γ:=γ) (tb:=tb) (i:=(i:Int)) (bw h);have g1:=eB (i:=(i:Int)) (p:=p) (oG (ε:=ε) (γ:=γ) (tb:=tb) (bw h));have g2:=eB (i:=(i:Int)) (p:=hb) (bw h');have g3:=eB (i:=(i:Int)) (p:=hb) (bw h);by_cases hm:i∈iK γ ο
 ·obtain ⟨ds,j,hi,ed,gj,jl,eb,ne,hd⟩:=iL fw hh h hp hm;rw [gj,eb] at gb;dsimp only at gb;by_cases c:Az (cD ε tb (.υ ο ds)) (j:Int)=true
  ·rw [if_pos c] at gb;rw [gb] at g1;left;rw [g2,g3,g1]
  ·rw [if_neg c] at gb;rw [gb] at g1;right;refine ⟨ds,j,_,hi,by rw [g3,gj],by rw [g2,g1],jl,λz=>c (vL.mpr ⟨j,z,rfl⟩),hd⟩
 ·have hi:γ[i]? =some γ[i]:=aaa il;have gn:=(cf (i:=i) fw hh h).2 γ[i] hi λz=>hm (iU.mpr ⟨il,by unfold eL;rw [hi];exact z⟩);rw [gn] at gb;have gb:Λ (Α ε γ tb p) i=none:=gb;rw [gb] at g1;left;rw [g2,g3,g1]
theorem pA(fw:FW ε γ X C)(hh:Β ο=true)(h:ar (eV γ ο) p)(hp:∀t,t<γ.length->0<(tb.getD t (0,1)).2)(hb:Pl)(ne:Α ε γ tb p≠[]):∃i,i<γ.length/\Dx ε γ tb ο (bf hb p) (bf hb (bf p (Α ε γ tb p))) i:=by
 obtain ⟨e,r,er⟩:=aa5 ne;have he:e∈Α ε γ tb p:=by rw [er];exact aae
 have ke:e.1∈p.map (·.1):=fE (aaj.mpr ⟨e,he,rfl⟩);rw [bJ h,fV] at ke;obtain ⟨i,hm,ei⟩:=aaj.mp ke;have ei:(i:Int)=e.1:=ei;have il:=(iU.mp hm).1;refine ⟨i,il,?_⟩;have h':=fG (tb:=tb) fw hh h hp;obtain ⟨ds,j,hi,ed,gj,jl,eb,ne',hd⟩:=iL fw hh h hp hm;have gb:=gT (ε:=ε) (γ:=γ) (tb:=tb) (i:=(i:Int)) (bw h);have s:(Λ (Α ε γ tb p) (i:Int)).isSome=true:=mO (aaj.mpr ⟨e,he,ei.symm⟩);rw [gj,eb] at gb;dsimp only at gb;by_cases c:Az (cD ε tb (.υ ο ds)) (j:Int)=true
 ·rw [if_pos c] at gb;rw [gb] at s;cases s
 ·rw [if_neg c] at gb;have g1:=eB (i:=(i:Int)) (p:=p) (oG (ε:=ε) (γ:=γ) (tb:=tb) (bw h));rw [gb] at g1;refine ⟨ds,j,_,hi,by rw [eB (bw h),gj],by rw [eB (bw h'),g1],jl,λz=>c (vL.mpr ⟨j,z,rfl⟩),hd⟩
theorem rK(fw:FW ε γ X C)(hh:Β ο=true)(h:ar (eV γ ο) p)(hp:∀t,t<γ.length->0<(tb.getD t (0,1)).2)(e:Α ε γ tb p=[]){ds:List cj}{j:Nat}(hi:γ[i]? =some (.υ ο ds))(gj:Λ p i=some (j:Int)):j∈cD ε tb (.υ ο ds):=by
 have il:=(aaf.mp hi).1;have hm:i∈iK γ ο:=iU.mpr ⟨il,by unfold eL;rw [hi];rfl⟩;obtain ⟨mS,j',tj,_,UR,_,eb,_,_⟩:=iL (tb:=tb) fw hh h hp hm;rw [hi] at tj;cases tj;have gb:=gT (ε:=ε) (γ:=γ) (tb:=tb) (i:=(i:Int)) (bw h);rw [e,gj,eb] at gb;dsimp only at gb;split at gb
 ·rename_i c;obtain ⟨b,hb,y⟩:=vL.mp c;have:b=j:=by omega
  rw [<-this];exact hb
 ·cases gb
end
theorem jL.X2{ε:Fr}{γ:List Rw}{Ι:Pl}{tb:List Fr}{X C:Int}(fw:FW ε γ X C)(dk:gO γ Ι)(b1:1<=iC X C)(h:jL ε γ Ι tb):Hu ε γ tb:=by
 have ok:=h.ok fw dk b1;refine ⟨fw.pl.sh,fw.pl.len,fw.pl.row,ok.len,λt ht=>⟨(ok.sz t ht).2,(ok.red t ht).pos,?_⟩⟩;have:(t.2.natAbs:Int)<((2^1150:Nat):Int):=by rw [aa0 (aai (ok.red t ht).pos)];exact ab0 (ok.sz t ht).1 (by decide)
 exact abr.mp this
theorem Mo{M:Ms}{k:Nat}{hand:Str}{pl:Pl}(h:M[k]? =some (dP pl)):Og (M++[.ef [Sum.inr hand] [.loc k]]) M.length (uF hand pl):=by
 refine ⟨_,_,aI,λz=>⟨?_,λq e=>?_⟩⟩
 ·unfold uF;show (decide ((Sum.inr hand:Key)=Sum.inr z) || false)=_;rw [Bool.or_false];by_cases y:z=hand
  ·rw [if_pos y,decide_eq_true (by rw [y])];rfl
  ·rw [if_neg y,decide_eq_false λx=>y (Sum.inr.inj x).symm];rfl
 ·unfold uF at e;split at e
  ·rename_i y;cases e;subst y;refine ⟨k,?_,aC h⟩;show ((List.zip [Sum.inr z] [Dt.loc k]).find? _).map _=_;simp [List.zip]
  ·cases e
theorem HH{n:Nat}:∀tb:List Fr,Dt.bF n (tb.map Ξ)
 |[]=>trivial
 |t::tb=>⟨lP t,HH tb⟩
theorem Ia{S:Ms}{q:DQ}{m:MO}{tb:List Fr}(h:q (.lst (tb.map Ξ)) S):rP S q (.loc (S.length+1)) (S++[m,.lst (tb.map Ξ)]):=
 j3 (d':= .lst (tb.map Ξ)) (.Eh (Nat.le_succ _) (by rw [abc];rfl) (iN.old (HH tb))) h
def yA(A:Addr):DF:=λas M q _=>∃(ε:Fr) (γ:List Rw) (hand ο:Str) (k:Nat) (pl:Pl) (X C:Int),as=[az A ε γ,.str hand,.loc k]/\M[k]? =some (dP pl)/\(hand="one"/\ο="other"\/hand="other"/\ο="one")/\FW ε γ X C/\iC X C<=2^450/\(12*iC X C)^γ.length<2^1030/\1<=iC X C/\(∀i,i<γ.length->fb γ (uF hand pl) i=true)/\∀(p:Pl) (tb:List Fr) (E':Ms),ar (eV γ ο) p->jL ε γ (bf (b_ γ hand pl) p) tb->Α ε γ tb p=[]->q (.tup [.loc (M.length+2),.lst (tb.map Ξ)]) (M++[.ef [Sum.inr hand] [.loc k],dP (b_ γ hand pl),dP p]++E')
theorem eP:Ε ["floor","hand","plan","held","answer","table","better"] ["floor","hand","plan"] (τ qY):= .of rfl
theorem B'{f:Addr}{fd:FuncData}(F:cI K "against" "against" qY f fd)(E:Ev K mg w Cm){sR:Addr}{sW:FuncData}(gw:av P w K mg base 4 "doors_of" ["floor","plans"] (qz Cm) sR sW){mh:Addr}{lR:FuncData}(d_:av P w K mg base 3 "first_plan" ["floor","hand"] (xb Cm) mh lR){qx:Addr}{rZ:FuncData}(dz:av P w K mg base 8 "worths_against" ["floor","held","answer"] (QV Cm) qx rZ){jw:Addr}{jd:FuncData}(bN:av P w K mg base 8 "better_doors" ["floor","plan","table"] (vD Cm) jw jd):aq P w K mg base (bV P w) 9 f fd ["floor","hand","plan"] (cC K (yA Cm)):=by
 refine F.de eP (λds M q x h=>?_) (λaV A outer s H E' hr=>⟨_,(θ (Γ 3 eP.nd (ae gw hr ξ (Ρ (jv 0) (ι (Hh (jv 1) (jv 2)) η))))
   (θ (Γ 4 eP.nd (ae d_ hr ξ (Ρ (jv 0) (ι (QY E.lh (jv 1)) η (hs:=aQ)))))
   (θ (Γ 5 eP.nd (cc (ae dz hr ξ (Ρ (jv 0) (Ρ (jv 3) (Ρ (jv 4) η))))))
   (θ (Γ 6 eP.nd (ae bN hr ξ (Ρ (jv 0) (Ρ (jv 4) (Ρ (jv 5) η)))))
   (θ (ng (CJ (GF E.bo (Ρ (jv 6) η)) χ) (θ (eh (Cb (jv 4) (jv 6)))
   (θ (Γ 5 eP.nd (cc (ae dz hr ξ (Ρ (jv 0) (Ρ (jv 3) (Ρ (jv 4) η))))))
   (μ (Γ 6 eP.nd (ae bN hr ξ (Ρ (jv 0) (Ρ (jv 4) (Ρ (jv 5) η)))))))))
   (μ (Ζ (fv (Ρ (jv 4) (Ρ (jv 5) η)))))))))),λds M q x h=>?_⟩)
 ·obtain ⟨ε,γ,hand,ο,k,pl,X,C,rfl,_⟩:=h;rfl
 ·obtain ⟨ε,γ,hand,ο,k,pl,X,C,rfl,hk,g7,fw,g8,lx,b1,gd,h⟩:=h;have lF:=fw.pl.len;have lk:List.lookup hand [(Str.ofString "one",Str.ofString "other"),(Str.ofString "other",Str.ofString "one"),(Str.ofString "chance",Str.ofString "chance")]=some ο:=by rcases g7 with ⟨rfl,rfl⟩|⟨rfl,rfl⟩ <;> decide
  have h1:Β hand=true:=by rcases g7 with ⟨rfl,rfl⟩|⟨rfl,rfl⟩ <;> decide
  have h2:Β ο=true:=by rcases g7 with ⟨rfl,rfl⟩|⟨rfl,rfl⟩ <;> decide
  have kM:hand≠ο:=by rcases g7 with ⟨rfl,rfl⟩|⟨rfl,rfl⟩ <;> decide
  have two:∀z:Str,Β z=true->z=hand\/z=ο:=λz hz=>by
   unfold Β at hz;rw [ab7,beq_iff_eq,beq_iff_eq] at hz;rcases g7 with ⟨rfl,rfl⟩|⟨rfl,rfl⟩
   ·exact hz
   ·exact hz.symm
  have OU:∀{p},ar (eV γ ο) p->gO γ (bf (b_ γ hand pl) p):=λhp=>Qw fw h1 h2 kM two gd hp;have FH:∀{p},ar (eV γ ο) p->p.length<=12:=λ{p} hp=>by have:=congrArg List.length (bJ hp);rw [aad,fV,aad] at this;have l:=List.length_filter_le (λi=>decide (eL γ i=ο)) (List.range γ.length);rw [aaM] at l;have l:(iK γ ο).length<=γ.length:=l;omega
  have hlen:(b_ γ hand pl).length<=12:=aaq (vA γ _ _) lF;walk_at "vc";dsimp only [Jh,Sa];walk_at "vc";refine ⟨Sum.inr hand,rfl,?_⟩;refine ⟨ε,γ,M.length,uF hand pl,rfl,Mo hk,fw.pl,gd,?_⟩;refine ⟨hand,ο,rfl,lk,?_⟩;refine ⟨ε,γ,ο,rfl,lF,?_⟩;obtain ⟨Gz,hd0⟩:∃d:MO,d=MO.ef [Sum.inr hand] [Dt.loc k]:=⟨_,rfl⟩;rw [<-hd0] at h⊢;dsimp only [b_] at h OU hlen;generalize YI:cW γ (uF hand pl) γ.length=held at *
  have B3:∀p:Pl,M++[Gz]++[dP held]++[dP p]=M++[Gz,dP held,dP p]:=λp=>by simp
  have kh1:(M++[Gz]).length=M.length+1:=by simp
  have ka1:(M++[Gz]++[dP held]).length=M.length+2:=by simp
  rw [kh1,ka1,B3];have ZI:∀(p:Pl) (E:Ms),(M++[Gz,dP held,dP p]++E)[M.length+1]? =some (dP held):=λp E=>aC (by rw [aal (by omega),show M.length+1-M.length=1 by omega];rfl);have QO:∀(p:Pl) (E:Ms),(M++[Gz,dP held,dP p]++E)[M.length+2]? =some (dP p):=λp E=>aC (by rw [aal (by omega),show M.length+2-M.length=2 by omega];rfl);have f0:=qL fw h2;generalize oH γ ο=p0 at *
  have gp:∀{p:Pl} {tb:List Fr},jL ε γ (bf held p) tb->∀t,t<γ.length->0<(tb.getD t (0,1)).2:=λwt t ht=>(wt.tab.red t ht).pos;have Zp:∀{p:Pl} {tb:List Fr},ar (eV γ ο) p->jL ε γ (bf held p) tb->∀e∈p,0<=e.1/\∃r,γ[e.1.toNat]? =some r/\Β (kindOf r)=true/\cD ε tb r≠[]:=λ{p tb} hp wt e he=>by have ke:e.1∈p.map (·.1):=aaj.mpr ⟨e,he,rfl⟩;rw [bJ hp,fV] at ke;obtain ⟨i,hm,ei⟩:=aaj.mp ke;have ei:(i:Int)=e.1:=ei;obtain ⟨ds,j,hi,_,_,_,_,ne,_⟩:=iL fw h2 hp (gp wt) hm;exact ⟨by omega, .υ ο ds,by rw [<-ei,abt];exact hi,h2,ne⟩
  have e0:M++[Gz,dP held,dP p0]=M++[Gz,dP held,dP p0]++[]:=(aaV _).symm;rw [e0];refine ⟨ε,γ,M.length+1,M.length+2,held,p0,X,C,rfl,ZI p0 [],QO p0 [],by have:=FH f0;omega,OU f0,fw,g8,lx,λWO Yj=>Ia ?_⟩;refine ⟨ε,γ,WO,M.length+2,p0,rfl,QO p0 [],Yj.X2 fw (OU f0) b1,bw f0,FH f0,Zp f0 Yj,?_⟩;have Yn:∀(p p':Pl) (E:Ms),(M++[Gz,dP held,dP p]++E).set (M.length+2) (dP p')=M++[Gz,dP held,dP p']++E:=λp p' E=>by rw [aaI,aaI,abM (h:=by omega),show M.length+2-M.length=2 by omega];rfl
  have l3:∀(p:Pl) (E:Ms),M.length+3<=(M++[Gz,dP held,dP p]++E).length:=λp E=>by rw [aag,aag];show M.length+3<=M.length+3+E.length;omega
  have Yy:∀{p:Pl} {tb:List Fr},ar (eV γ ο) p->(Α ε γ tb p).length<=12:=λhp=>aaq (i_ _) (FH hp);refine ⟨λm ρ' M'=>∃(p:Pl) (tb:List Fr) (E1:Ms) (kb:Nat),ar (eV γ ο) p/\jL ε γ (bf held p) tb/\above ε γ (jJ ο) (bf held) (eV γ ο) p=m/\M'=M++[Gz,dP held,dP p]++E1/\M'[kb]? =some (dP (Α ε γ tb p))/\M.length+3<=kb/\ρ'=[some (az Cm ε γ),some (.str hand),some (.loc k),some (.loc (M.length+1)),some (.loc (M.length+2)),some (.lst (tb.map Ξ)),some (.loc kb)],⟨_,p0,WO,[dP (Α ε γ WO p0)],_,f0,Yj,rfl,by rw [aaV],aI,l3 p0 [],rfl⟩,λm ρ' M' hw=>?_⟩;obtain ⟨p,tb,E1,kb,fp,wt,hm,rfl,Q_,kb3,rfl⟩:=hw;walk_at "vc";refine ⟨kb,_,_,rfl,Q_,?_⟩;have kl:(kP (Α ε γ tb p)).length=(Α ε γ tb p).length:=by unfold kP;rw [List.length_map]
  rw [kl];refine ⟨λz=>⟨_,λρ2 M2 hn=>hn,?_⟩,λz=>?_⟩
  ·have z:(0:Int)<((Α ε γ tb p).length:Int):=of_decide_eq_true z;have ne:Α ε γ tb p≠[]:=λy=>by rw [y] at z;exact absurd z (by decide)
   have tY:=fG (tb:=tb) fw h2 fp (gp wt);have hd:=uY fw h2 fp (gp wt) held;obtain ⟨i,il,hc⟩:=pA fw h2 fp (gp wt) held ne;dsimp only [Hk,CA];walk_at "vc";refine ⟨⟨M.length+2,_,_,rfl,QO p E1⟩,M.length+2,kb,_,_,_,_,rfl,rfl,by omega,QO p E1,Q_,by rw [kl];have:=FH fp;have:=Yy (tb:=tb) fp;unfold kP;rw [List.length_map];omega,?_⟩;rw [Dh,Di,Yn];generalize bf p (Α ε γ tb p)=p' at *
   refine ⟨ε,γ,M.length+1,M.length+2,held,p',X,C,rfl,ZI p' E1,QO p' E1,by have:=FH tY;omega,OU tY,fw,g8,lx,λpL Kr=>Ia ?_⟩;refine ⟨ε,γ,pL,M.length+2,p',rfl,QO p' E1,Kr.X2 fw (OU tY) b1,bw tY,FH tY,Zp tY Kr,?_⟩;refine ⟨_,?_,p',pL,E1++[dP (Α ε γ pL p')],_,tY,Kr,rfl,by rw [<-aaI],aI,l3 p' E1,rfl⟩;rw [<-hm];exact IW tY (BE fw h2 (OU fp) (OU tY) b1 wt Kr hd il hc)
  ·have z:¬(0:Int)<((Α ε γ tb p).length:Int):=of_decide_eq_false z;have e:Α ε γ tb p=[]:=List.length_eq_zero_iff.mp (by omega);exact ⟨by show 2<=sizeLine;decide,h p tb E1 fp wt e⟩
section
variable{ε:Fr}{γ:List Rw}{X C:Int}{Ι bK:Pl}{tb pL:List Fr}{hand ο:Str}{p pa p' Si:Pl}{i:Nat}
theorem jf(fw:FW ε γ X C)(hs:iT hand ο)(fp:ar (eV γ hand) p)(fa:ar (eV γ ο) pa){r:Rw}(hi:γ[i]? =some r):(kindOf r=hand->Λ (bf (b_ γ hand p) pa) i=Λ p i)/\(kindOf r=ο->Λ (bf (b_ γ hand p) pa) i=Λ pa i)/\(Β (kindOf r)=false->Λ (bf (b_ γ hand p) pa) i=none):=by
 have il:=(aaf.mp hi).1;have g:=eB (i:=(i:Int)) (p:=b_ γ hand p) (bw fa);have hh:Λ (b_ γ hand p) i=((uF hand p (kindOf r)).map λpl=>(Λ pl i).getD 0):=by rw [i5,if_pos il,hi];rfl
 refine ⟨λe=>?_,λe=>?_,λe=>?_⟩
 ·rw [g,(cf (i:=i) fw hs.h2 fa).2 r hi λz=>hs.ne (e.symm.trans z)];show Λ (b_ γ hand p) i=_;rw [hh];cases r with
  |fin q=>exact absurd (show Β (Str.ofString "end")=true by rw [<-hs.h1,<-e];rfl) (by decide)
  |υ k ds=>
   have e:k=hand:=e;subst e;obtain ⟨j,gj,_⟩:=(cf (i:=i) fw hs.h1 fp).1 ds hi;have:uF k p (kindOf (.υ k ds))=some p:=if_pos rfl;rw [this];show some ((Λ p i).getD 0)=Λ p i;rw [gj];rfl
 ·cases r with
  |fin q=>exact absurd (show Β (Str.ofString "end")=true by rw [<-hs.h2,<-e];rfl) (by decide)
  |υ k ds=>
   have e:k=ο:=e;subst e;obtain ⟨j,gj,_⟩:=(cf (i:=i) fw hs.h2 fa).1 ds hi;rw [g,gj]
 ·rw [g,(cf (i:=i) fw hs.h2 fa).2 r hi (λz=>by rw [z,hs.h2] at e;cases e)];show Λ (b_ γ hand p) i=_;rw [hh];have:uF hand p (kindOf r)=none:=if_neg λz=>by rw [z,hs.h1] at e;cases e
  rw [this];rfl
def EW(ε:Fr)(γ:List Rw)(hand ο:Str)(p pa:Pl)(tb:List Fr):Prop:=ar (eV γ ο) pa/\jL ε γ (bf (b_ γ hand p) pa) tb/\Α ε γ tb pa=[]
theorem D9{q:Pl}(nd:uX q)(i:Int):Λ (bf [] q) i=Λ q i:=by rw [eB nd];cases Λ q i <;> rfl
theorem qU(fw:FW ε γ X C)(hs:iT hand ο)(fp:ar (eV γ hand) p)(b:EW ε γ hand ο p pa tb)(Y7:ar (eV γ ο) Si)(tY:ar (eV γ hand) p')(hb:∀i,i<γ.length->Λ p' i=Λ p i\/Dx ε γ tb hand p p' i):∀i,i<γ.length->Zw ε γ tb hand ο (bf (b_ γ hand p) pa) (bf (b_ γ hand p') Si) i:=λi il=>by
 obtain ⟨fa,wt,be⟩:=b;have hp:∀t,t<γ.length->0<(tb.getD t (0,1)).2:=λt ht=>(wt.tab.red t ht).pos;have hi:γ[i]? =some γ[i]:=aaa il;generalize γ[i]=r at *
 obtain ⟨a1,a2,a3⟩:=jf (i:=i) fw hs fp fa hi;obtain ⟨c1,c2,c3⟩:=jf (i:=i) fw hs tY Y7 hi;cases hk:Β (kindOf r) with
 |false=>left;rw [a3 hk,c3 hk]
 |true=>
  rcases hs.two _ hk with e|e
  ·rcases hb i il with z|⟨ds,j,j',tj,g,g',jl,nb,b⟩
   ·left;rw [a1 e,c1 e,z]
   ·right;left;exact ⟨ds,j,j',tj,by rw [a1 e];exact g,by rw [c1 e];exact g',jl,nb,b⟩
  ·right;right;cases r with
   |fin q=>exact absurd hk (by show¬Β (Str.ofString "end")=true;decide)
   |υ k ds=>
    have e':k=ο:=e;subst e';obtain ⟨j,gj,jl⟩:=(cf (i:=i) fw hs.h2 fa).1 ds hi;obtain ⟨j',UR,K7⟩:=(cf (i:=i) fw hs.h2 Y7).1 ds hi;exact ⟨ds,j,j',hi,by rw [a2 rfl,gj],by rw [c2 rfl,UR],K7,rK fw hs.h2 fa hp be hi gj⟩
theorem p9(fw:FW ε γ X C)(hs:iT hand ο)(fp:ar (eV γ hand) p)(fa:ar (eV γ ο) pa):gO γ (bf (b_ γ hand p) pa):=by
 refine ⟨λi r hi hk=>?_,λi r hi hk=>(jf fw hs fp fa hi).2.2 hk⟩;obtain ⟨a1,a2,_⟩:=jf (i:=i) fw hs fp fa hi;cases r with
 |fin q=>exact absurd hk (by show¬Β (Str.ofString "end")=true;decide)
 |υ k ds=>
  rcases hs.two _ hk with e|e
  ·have e':k=hand:=e;subst e';rw [a1 rfl];exact (cf (i:=i) fw hs.h1 fp).1 ds hi
  ·have e':k=ο:=e;subst e';rw [a2 rfl];exact (cf (i:=i) fw hs.h2 fa).1 ds hi
noncomputable def QF(ε:Fr)(γ:List Rw)(hand ο:Str)(p:Pl)(i:Nat):Rat:=open Classical in if h:∃tb,∃pa,EW ε γ hand ο p pa tb then val (h.choose.getD i (0,1)) else 0
theorem DM(fw:FW ε γ X C)(hs:iT hand ο)(b1:1<=iC X C)(fp:ar (eV γ hand) p)(b:EW ε γ hand ο p pa tb){i:Nat}(il:i<γ.length):QF ε γ hand ο p i=val (tb.getD i (0,1)):=by
 have ex:∃tb,∃pa,EW ε γ hand ο p pa tb:=⟨tb,pa,b⟩;unfold QF;rw [dif_pos ex];obtain ⟨Si,b'⟩:=ex.choose_spec;generalize ex.choose=pL at *
 have u:=(q_ fw hs (p9 fw hs fp b'.1) b1 b.2.1 b'.2.1 (qU fw hs fp b b'.1 fp λ_ _=> .inl rfl)).1 i il;have v:=(q_ fw hs (p9 fw hs fp b.1) b1 b'.2.1 b.2.1 (qU fw hs fp b' b.1 fp λ_ _=> .inl rfl)).1 i il;exact Ii (k:=hand) (Rat.le_antisymm v u)
noncomputable def nU(ε:Fr)(γ:List Rw)(hand ο:Str)(p:Pl):Nat:=open Classical in (oC (eV γ hand)).countP λq=>decide (dc (λi=>jJ hand*QF ε γ hand ο p i) γ.length<dc (λi=>jJ hand*QF ε γ hand ο q i) γ.length)
theorem KR(fw:FW ε γ X C)(hs:iT hand ο)(b1:1<=iC X C)(fp:ar (eV γ hand) p)(b:EW ε γ hand ο p pa tb)(ne:Α ε γ tb p≠[])(b':EW ε γ hand ο (bf p (Α ε γ tb p)) Si pL):nU ε γ hand ο (bf p (Α ε γ tb p))<nU ε γ hand ο p:=by
 have hp:∀t,t<γ.length->0<(tb.getD t (0,1)).2:=λt ht=>(b.2.1.tab.red t ht).pos;have tY:=fG (tb:=tb) fw hs.h1 fp hp;have n1:=D9 (bw fp);have n2:=D9 (bw tY);have cut:∀i,Dx ε γ tb hand (bf [] p) (bf [] (bf p (Α ε γ tb p))) i->Dx ε γ tb hand p (bf p (Α ε γ tb p)) i:=λi ⟨ds,j,j',hi,g,g',r⟩=>⟨ds,j,j',hi,by rw [<-n1];exact g,by rw [<-n2];exact g',r⟩;have hb:∀i,i<γ.length->Λ (bf p (Α ε γ tb p)) i=Λ p i\/Dx ε γ tb hand p (bf p (Α ε γ tb p)) i:=λi il=>by
  rcases uY fw hs.h1 fp hp [] i il with e|e
  ·left;rw [<-n1,<-n2];exact e
  ·exact .inr (cut i e)
 obtain ⟨i,il,hc⟩:=pA fw hs.h1 fp hp [] ne;have mm:=qU fw hs fp b b'.1 tY hb;obtain ⟨u,v⟩:=q_ fw hs (p9 fw hs tY b'.1) b1 b.2.1 b'.2.1 mm;have zb:Dx ε γ tb hand (bf (b_ γ hand p) pa) (bf (b_ γ hand (bf p (Α ε γ tb p))) Si) i:=by obtain ⟨ds,j,j',hi,g,g',r⟩:=cut i hc;exact ⟨ds,j,j',hi,by rw [(jf fw hs fp b.1 hi).1 rfl];exact g,by rw [(jf fw hs tY b'.1 hi).1 rfl];exact g',r⟩
 have lt:dc (λi=>jJ hand*QF ε γ hand ο p i) γ.length<dc (λi=>jJ hand*QF ε γ hand ο (bf p (Α ε γ tb p)) i) γ.length:=by
  refine xI (λj hj=>?_) il ?_
  ·rw [DM fw hs b1 fp b hj,DM fw hs b1 tY b' hj];exact u j hj
  ·rw [DM fw hs b1 fp b il,DM fw hs b1 tY b' il];exact v i il zb
 unfold nU;refine AH (λa _ ha=>?_) (rO tY) (decide_eq_true lt) (decide_eq_false (by grind));have:=of_decide_eq_true ha;exact decide_eq_true (by grind)
end
section
variable{ε:Fr}{γ:List Rw}{X C:Int}{hand ο:Str}{p pa:Pl}{tb:List Fr}
theorem EB(fw:FW ε γ X C)(hh:Β hand=true)(fp:ar (eV γ hand) p):∀i,i<γ.length->fb γ (uF hand p) i=true:=λi il=>by
 have hi:γ[i]? =some γ[i]:=aaa il;generalize γ[i]=r at *
 unfold fb;rw [hi];show jC (uF hand p) i r=true;unfold jC uF;by_cases e:kindOf r=hand
 ·rw [if_pos e];cases r with
  |fin q=>exact absurd (show Β (Str.ofString "end")=true by rw [<-hh,<-e];rfl) (by decide)
  |υ k ds=>
   have e:k=hand:=e;subst e;obtain ⟨j,gj,jl⟩:=(cf (i:=i) fw hh fp).1 ds hi;show dM p i ds.length=true;unfold dM;rw [gj];show (decide (0<=(j:Int))&&decide ((j:Int)<(ds.length:Int)))=true;rw [decide_eq_true (show 0<=(j:Int) by omega),decide_eq_true (show (j:Int)<(ds.length:Int) by omega)];rfl
 ·rw [if_neg e]
theorem Hj:nU ε γ hand ο p<=(oC (eV γ hand)).length:=List.countP_le_length
theorem ID(fp:ar (eV γ hand) p):p.length<=γ.length:=by have:=congrArg List.length (bJ fp);rw [aad,fV,aad] at this;have l:=List.length_filter_le (λi=>decide (eL γ i=hand)) (List.range γ.length);rw [aaM] at l;have l:(iK γ hand).length<=γ.length:=l;omega
theorem LY(fw:FW ε γ X C)(hh:Β hand=true)(fp:ar (eV γ hand) p)(hp:∀t,t<γ.length->0<(tb.getD t (0,1)).2):∀e∈p,0<=e.1/\∃r,γ[e.1.toNat]? =some r/\Β (kindOf r)=true/\cD ε tb r≠[]:=λe he=>by have ke:e.1∈p.map (·.1):=aaj.mpr ⟨e,he,rfl⟩;rw [bJ fp,fV] at ke;obtain ⟨i,hm,ei⟩:=aaj.mp ke;have ei:(i:Int)=e.1:=ei;obtain ⟨ds,j,hi,_,_,_,_,ne,_⟩:=iL fw hh fp hp hm;exact ⟨by omega, .υ hand ds,by rw [<-ei,abt];exact hi,hh,ne⟩
def Rd(ε:Fr)(γ:List Rw)(hand ο:Str)(m:Nat)(p:Pl):Prop:=m=(oC (eV γ hand)).length+1\/∃pp ZD Um,ar (eV γ hand) pp/\EW ε γ hand ο pp ZD Um/\Α ε γ Um pp≠[]/\p=bf pp (Α ε γ Um pp)/\m=nU ε γ hand ο pp
theorem Rd.lt{m:Nat}(h:Rd ε γ hand ο m p)(fw:FW ε γ X C)(hs:iT hand ο)(b1:1<=iC X C)(fp:ar (eV γ hand) p)(b:EW ε γ hand ο p pa tb):nU ε γ hand ο p<m:=by
 rcases h with e|⟨pp,ZD,Um,f,b0,ne,e,em⟩
 ·rw [e];exact Nat.lt_succ_of_le Hj
 ·subst e;rw [em];exact KR fw hs b1 f b0 ne b
end
def yQ(A:Addr):DF:=λas M q _=>∃(ε:Fr) (γ:List Rw) (hand:Str),as=[az A ε γ,.str hand,.bq]/\γ.length<=12/\q (.loc M.length) (M++[dP (oH γ hand)])
theorem ER:Ε ["floor","hand","start"] ["floor","hand","start"] (τ sF):= .of rfl
theorem Bk{f:Addr}{fd:FuncData}(F:cI K "started" "started" sF f fd)(E:Ev K mg w Cm){mh:Addr}{lR:FuncData}(d_:av P w K mg base 3 "first_plan" ["floor","hand"] (xb Cm) mh lR):aq P w K mg base (bV P w) 5 f fd ["floor","hand","start"] (cC K (yQ Cm)):=by
 refine F.de ER (λds M q x h=>?_) (λaV A outer s H E' hr=>⟨_,(θ (aD (JC (jv 2) Me) (μ (Ζ (ae d_ hr ξ (Ρ (jv 0) (Ρ (jv 1) η))))) Υ)
   (μ fq)),λds M q x h=>?_⟩)
 ·obtain ⟨ε,γ,hand,rfl,_⟩:=h;rfl
 ·obtain ⟨ε,γ,hand,rfl,lF,h⟩:=h;refine ⟨λ_=>?_,λz=>(nomatch z)⟩;exact ⟨ε,γ,hand,rfl,lF,h⟩
def qo(A:Addr):DF:=λas M q _=>∃(ε:Fr) (γ:List Rw) (hand ο:Str) (X C:Int),as=[az A ε γ,.str hand,.bq]/\(hand="one"/\ο="other"\/hand="other"/\ο="one")/\FW ε γ X C/\iC X C<=2^450/\(12*iC X C)^γ.length<2^1030/\1<=iC X C/\(oC (eV γ hand)).length<=1000/\∀(p pa:Pl) (tb:List Fr) (E:Ms) (ka:Nat),ar (eV γ hand) p->EW ε γ hand ο p pa tb->Α ε γ tb p=[]->(M++[dP p]++E)[ka]? =some (dP pa)->q (.tup [.loc M.length,.loc ka,.lst (tb.map Ξ),.loc (M.length+1)]) (M++[dP p]++E)
theorem j5:Ε ["floor","hand","start","plan","rounds","found","better"] ["floor","hand","start"] (τ wN):= .of rfl
theorem Fu{U:Addr}{its:Array Value}{f:Addr}{fd:FuncData}(F:FO K "mended" wN U its f fd)(E:Ev K mg w Cm){IH:Addr}{GV:FuncData}(nG:av P w K mg base 5 "started" ["floor","hand","start"] (yQ Cm) IH GV){GH:Addr}{Js:FuncData}(oW:av P w K mg base 9 "against" ["floor","hand","plan"] (yA Cm) GH Js){jw:Addr}{jd:FuncData}(bN:av P w K mg base 8 "better_doors" ["floor","plan","table"] (vD Cm) jw jd):aq P w K mg base (bV P w) 10 f fd ["floor","hand","start"] (cC K (qo Cm)):=by
 refine F.de j5 (λds M q x h=>?_) (λaV A outer s H E' hr=>⟨_,(θ (Γ 3 j5.nd (ae nG hr ξ (Ρ (jv 0) (Ρ (jv 1) (Ρ (jv 2) η)))))
   (θ (Γ 4 j5.nd (kq η))
   (μ (ng (bB CB) (θ (Γ 5 j5.nd (ae oW hr ξ (Ρ (jv 0) (Ρ (jv 1) (Ρ (jv 3) η)))))
   (θ (eh (fC (jv 4) (ι (fv (ι (Iu E.qH (Ρ (jv 3) η)) (ι (wb E.kn (ι (Μ (jv 5) χ) η (hs:=aQ))) η (hs:=aG)) (hs:=aG))) η (hs:=DJ))))
   (θ (Γ 6 j5.nd (ae bN hr ξ (Ρ (jv 0) (Ρ (jv 3) (ι (Μ (jv 5) χ) η (hs:=aQ))))))
   (θ (aD (d9 hr (GF E.bo (Ρ (jv 6) η)) χ) (μ (Ζ (fv (Ρ (jv 3) (ι (Μ (jv 5) χ) (ι (Μ (jv 5) χ) (Ρ (jv 4) η) (hs:=aQ)) (hs:=aQ)))))) Υ)
   (μ (eh (Cb (jv 3) (jv 6)))))))))))),λds M q x h=>?_⟩)
 ·obtain ⟨ε,γ,hand,ο,X,C,rfl,_⟩:=h;rfl
 ·obtain ⟨ε,γ,hand,ο,X,C,rfl,g7,fw,g8,lx,b1,hN,h⟩:=h;have hs:=gF g7;have lF:=fw.pl.len;have sl:∀{z:Nat},z<=1000->z<sizeLine:=λh=>aaK h (by decide);refine ⟨ε,γ,hand,rfl,lF,?_⟩;walk_at "vc";dsimp only [Nz];walk_at "vc";refine ⟨by decide,?_⟩;have f0:=qL fw hs.h1;have kr:(M++[dP (oH γ hand)]).length=M.length+1:=by simp
  rw [kr];generalize oH γ hand=p0 at *
  refine ⟨λm ρ' M'=>∃(p:Pl) (xs:List Dt) (E1:Ms) (o5 o6:Option Dt),ar (eV γ hand) p/\Rd ε γ hand ο m p/\xs.length+m<=(oC (eV γ hand)).length+1/\M'=M++[dP p,.lst xs]++E1/\ρ'=[some (az Cm ε γ),some (.str hand),some .bq,some (.loc M.length),some (.loc (M.length+1)),o5,o6],⟨_,p0,[],[],none,none,f0,.inl rfl,by rw [List.length_nil,Nat.zero_add];exact Nat.le_refl _,by simp,rfl⟩,λm ρ' M' hw=>?_⟩;obtain ⟨p,xs,E1,o5,o6,fp,hm,hx,rfl,rfl⟩:=hw;walk_at "vc";refine ⟨λ_=>⟨_,λρ2 M2 hn=>hn,?_⟩,λz=>(nomatch z)⟩;have Sg:∀(p:Pl) (m:MO) (E:Ms),(M++[dP p,m]++E)[M.length]? =some (dP p):=λp m E=>aC (by rw [aal (aah _),acd];rfl);have ZW:∀(p:Pl) (m:MO) (E:Ms),(M++[dP p,m]++E)[M.length+1]? =some m:=λp m E=>aC (by rw [aal (by omega),abc];rfl);refine ⟨ε,γ,hand,ο,M.length,p,X,C,rfl,Sg p _ E1,g7,fw,g8,lx,b1,EB fw hs.h1 fp,λpa tb E2 fa wt be=>?_⟩;have Ro:EW ε γ hand ο p pa tb:=⟨fa,wt,be⟩;have lt:=hm.lt fw hs b1 fp Ro;have kE:(M++[dP p,MO.lst xs]++E1).length+2=M.length+4+E1.length:=by rw [aag,aag];show M.length+2+E1.length+2=_;omega
  have eS:M++[dP p,MO.lst xs]++E1++[MO.ef [Sum.inr hand] [Dt.loc (List.length M)],dP (b_ γ hand p),dP pa]++E2=M++[dP p,MO.lst xs]++(E1++[MO.ef [Sum.inr hand] [Dt.loc (List.length M)],dP (b_ γ hand p),dP pa]++E2):=by simp only [List.append_assoc]
  have Gw:∀(m1 m2:MO) (E:Ms),(M++[m1,m2]++(E1++[MO.ef [Sum.inr hand] [Dt.loc (List.length M)],dP (b_ γ hand p),dP pa]++E2++E))[M.length+4+E1.length]? =some (dP pa):=λm1 m2 E=>by rw [aal (by rw [aag];show M.length+2<=_;omega),aaI,aaI,aal (by rw [aag];show E1.length<=M.length+4+E1.length-(M.length+2);omega)];rw [aag];show ([MO.ef [Sum.inr hand] [Dt.loc (List.length M)],dP (b_ γ hand p),dP pa]++(E2++E))[M.length+4+E1.length-(M.length+2)-E1.length]? =_;rw [show M.length+4+E1.length-(M.length+2)-E1.length=2 by omega];rfl
  rw [kE,eS];generalize M.length+4+E1.length=ka at *
  generalize E1++[MO.ef [Sum.inr hand] [Dt.loc (List.length M)],dP (b_ γ hand p),dP pa]++E2=E3 at *
  dsimp only [Rx];walk_at "vc";refine ⟨⟨_,_,rfl,ZW p _ E3⟩,M.length,_,_,rfl,Sg p _ E3,?_⟩;have r1:∀(M':Ms) (q:DQ),q (.lst (tb.map Ξ)) M'->dF (.tup [.loc ka,.lst (tb.map Ξ)]) (.int 1) M' q:=λM' q hq=>Η (d:= .tup [.loc ka,.lst (tb.map Ξ)]) rfl (Κ (j:=1) rfl) hq;have r0:∀(M':Ms) (q:DQ),q (.loc ka) M'->dF (.tup [.loc ka,.lst (tb.map Ξ)]) (.int 0) M' q:=λM' q hq=>Η (d:= .tup [.loc ka,.lst (tb.map Ξ)]) rfl a_ hq;refine r1 _ _ ?_;dsimp only [yY,jU];refine ⟨by decide,M.length+1,xs,_,rfl,rfl,aC (aC (ZW p _ E3)),sl (by omega),?_⟩;have eT:M++[dP p,MO.lst xs]++E3++[MO.ef (kP p) (vP p)]++[MO.lst (tb.map Ξ)]=M++[dP p,MO.lst xs]++(E3++[MO.ef (kP p) (vP p),MO.lst (tb.map Ξ)]):=by simp
  have U8:∀(ys:List Dt) (E:Ms),(M++[dP p,MO.lst xs]++E).set (M.length+1) (.lst ys)=M++[dP p,MO.lst ys]++E:=λys E=>by rw [aaI,aaI,abM (h:=by omega),abc];rfl
  have Xb:∀(p':Pl) (ys:List Dt) (E:Ms),(M++[dP p,MO.lst ys]++E).set M.length (dP p')=M++[dP p',MO.lst ys]++E:=λp' ys E=>by rw [aaI,aaI,abM (h:=aah _),acd];rfl
  rw [eT,U8];have hl:(xs++[Dt.tup [.loc (M++[dP p,MO.lst xs]++E3).length,.loc (M++[dP p,MO.lst xs]++E3++[MO.ef (kP p) (vP p)]).length]]).length=xs.length+1:=by rw [aag];rfl
  generalize xs++[Dt.tup [.loc (M++[dP p,MO.lst xs]++E3).length,.loc (M++[dP p,MO.lst xs]++E3++[MO.ef (kP p) (vP p)]).length]]=ys at *
  have Gw:=λm1 m2 E=>Gw m1 m2 ([MO.ef (kP p) (vP p),MO.lst (tb.map Ξ)]++E);have e4:∀E:Ms,E3++([MO.ef (kP p) (vP p),MO.lst (tb.map Ξ)]++E)=E3++[MO.ef (kP p) (vP p),MO.lst (tb.map Ξ)]++E:=λE=>by rw [aaI]
  simp only [e4] at Gw;generalize E3++[MO.ef (kP p) (vP p),MO.lst (tb.map Ξ)]=E4 at *
  have hp:∀t,t<γ.length->0<(tb.getD t (0,1)).2:=λt ht=>(wt.tab.red t ht).pos;have tY:=fG (tb:=tb) fw hs.h1 fp hp;have pl:=ID fp;refine r1 _ _ ?_;refine ⟨ε,γ,tb,M.length,p,rfl,Sg p _ E4,wt.X2 fw (p9 fw hs fp fa) b1,bw fp,by omega,LY fw hs.h1 fp hp,?_⟩;have bl:(Α ε γ tb p).length<=12:=aaq (i_ _) (by omega);refine ⟨_,_,_,rfl,aI,?_⟩;have kl:(kP (Α ε γ tb p)).length=(Α ε γ tb p).length:=by unfold kP;rw [List.length_map]
  rw [kl];refine ⟨λz=>?_,λz=>?_⟩
  ·have z:((Α ε γ tb p).length:Int)=0:=of_decide_eq_true z;have e:Α ε γ tb p=[]:=List.length_eq_zero_iff.mp (by omega);refine r0 _ _ (r1 _ _ ⟨by decide,?_⟩);have:=h p pa tb ([.lst ys]++(E4++[dP (Α ε γ tb p)])) ka fp Ro e;have eU:M++[dP p]++([MO.lst ys]++(E4++[dP (Α ε γ tb p)]))=M++[dP p,MO.lst ys]++(E4++[dP (Α ε γ tb p)]):=by simp
   rw [eU] at this;rw [aaI];exact this (Gw _ _ _)
  ·have z:¬((Α ε γ tb p).length:Int)=0:=of_decide_eq_false z;have ne:Α ε γ tb p≠[]:=λy=>z (by rw [y];rfl);dsimp only [CA];walk_at "vc";have ll:(M++[dP p,MO.lst ys]++E4).length=M.length+2+E4.length:=by rw [aag,aag];rfl
   refine ⟨⟨_,_,_,rfl,aC (Sg p _ E4)⟩,M.length,_,_,_,_,_,rfl,rfl,by omega,aC (Sg p _ E4),aI,by rw [kl];unfold kP;rw [List.length_map];omega,?_⟩;rw [Dh,Di,aaI,Xb];exact ⟨_,lt,_,ys,_,_,_,tY,.inr ⟨p,pa,tb,fp,Ro,ne,rfl,rfl⟩,by omega,rfl,rfl⟩
def zD(A:Addr):DF:=λas M q _=>∃(ε:Fr) (γ:List Rw) (X C:Int),as=[az A ε γ]/\FW ε γ X C/\iC X C<=2^450/\(12*iC X C)^γ.length<2^1030/\1<=iC X C/\(oC (eV γ "one")).length<=1000/\∀(p pa:Pl) (tb:List Fr) (E:Ms),ar (eV γ "one") p->EW ε γ "one" "other" p pa tb->Α ε γ tb p=[]->q (.lst (tb.map Ξ)) (M++E)
theorem HD:Ε ["floor"] ["floor"] (τ vS):= .of rfl
theorem Ef{f:Addr}{fd:FuncData}(F:cI K "worths" "worths" vS f fd)(E:Ev K mg w Cm){p7:Addr}{qe:FuncData}(gx:EL P w K mg base 10 "mended" ["floor","hand","start"] (qo Cm) [.str "one",.bq] p7 qe):aq P w K mg base (bV P w) 11 f fd ["floor"] (cC K (zD Cm)):=by
 refine F.de HD (λds M q x h=>?_) (λaV A outer s H E' hr=>⟨_,(μ (Ζ (Μ (GO gx hr ξ (Ρ (jv 0) η)) χ))),λds M q x h=>?_⟩)
 ·obtain ⟨ε,γ,X,C,rfl,_⟩:=h;rfl
 ·obtain ⟨ε,γ,X,C,rfl,fw,g8,lx,b1,hN,h⟩:=h;refine ⟨ε,γ,"one","other",X,C,rfl,.inl ⟨rfl,rfl⟩,fw,g8,lx,b1,hN,λp pa tb E ka fp Ro be _=>?_⟩;refine Η (d:= .tup [.loc M.length,.loc ka,.lst (tb.map Ξ),.loc (M.length+1)]) rfl (Κ (j:=2) rfl) ?_;rw [aaI];exact h p pa tb _ fp Ro be
section
variable{ε:Fr}{γ:List Rw}{X C:Int}{Ι bK:Pl}{tb pL:List Fr}{hand ο:Str}{p pa p1 p2 q1 q2 qr:Pl}{i:Nat}
theorem jL.ext(h:jL ε γ Ι tb)(e:∀i:Nat,i<γ.length->Λ bK i=Λ Ι i):jL ε γ bK tb:=
 ⟨⟨h.tab.len,h.tab.red,λi il=>by
  have:=h.jH il;rw [<-zN (e i il)] at this
  exact this.symm⟩,h.bot⟩
def w4(γ:List Rw)(hand:Str)(p:Pl):Prop:=∀(i:Nat) (r:Rw),γ[i]? =some r->kindOf r=hand->∃j:Nat,Λ p i=some (j:Int)/\j<(Ν r).length
theorem b8(fw:FW ε γ X C)(hh:Β hand=true)(fp:ar (eV γ hand) p):w4 γ hand p:=λi r hi e=>by
 cases r with
 |fin q=>exact absurd (show Β (Str.ofString "end")=true by rw [<-hh,<-e];rfl) (by decide)
 |υ k ds=>
  have e:k=hand:=e;subst e;exact (cf (i:=i) fw hh fp).1 ds hi
theorem C3{r:Rw}(o:w4 γ hand p)(hi:γ[i]? =some r)(e:kindOf r=hand):dM p i (Ν r).length=true:=by obtain ⟨j,gj,jl⟩:=o i r hi e;unfold dM;rw [gj];show (decide (0<=(j:Int))&&decide ((j:Int)<((Ν r).length:Int)))=true;rw [decide_eq_true (show 0<=(j:Int) by omega),decide_eq_true (show (j:Int)<((Ν r).length:Int) by omega)];rfl
theorem dj(o1:w4 γ "one" p1)(o2:w4 γ "other" p2):∀i,i<γ.length->fb γ (ao p1 p2) i=true:=λi il=>by
 have hi:γ[i]? =some γ[i]:=aaa il;generalize γ[i]=r at *
 unfold fb;rw [hi];show jC (ao p1 p2) i r=true;unfold jC ao;by_cases e:kindOf r="one"
 ·rw [if_pos e];exact C3 o1 hi e
 ·rw [if_neg e];by_cases e2:kindOf r="other"
  ·rw [if_pos e2];exact C3 o2 hi e2
  ·rw [if_neg e2]
theorem vm{r:Rw}(hi:γ[i]? =some r):Λ (cW γ (ao p1 p2) γ.length) i=((ao p1 p2 (kindOf r)).map λpl=>(Λ pl i).getD 0):=by rw [i5,if_pos (aaf.mp hi).1,hi];rfl
structure Gs(ε:Fr)(γ:List Rw)(p1 p2:Pl)(tb:List Fr):Prop where
 f1:ar (eV γ "one") p1
 f2:ar (eV γ "other") p2
 wt:jL ε γ (cW γ (ao p1 p2) γ.length) tb
 n1:Α ε γ tb p1=[]
 n2:Α ε γ tb p2=[]
theorem eY:iT "one" "other":=gF (.inl ⟨rfl,rfl⟩)
theorem Qu:iT "other" "one":=gF (.inr ⟨rfl,rfl⟩)
theorem Ak{z:Str}(h:Β z=false):ao p1 p2 z=none:=by unfold ao;rw [if_neg (λe=>by rw [e] at h;exact absurd h (by decide)),if_neg (λe=>by rw [e] at h;exact absurd h (by decide))]
theorem y4(fw:FW ε γ X C)(hs:iT hand ο)(fp:ar (eV γ hand) p)(fa:ar (eV γ ο) pa)(e1:ao p1 p2 hand=some p)(e2:ao p1 p2 ο=some pa)(w:jL ε γ (bf (b_ γ hand p) pa) tb):jL ε γ (cW γ (ao p1 p2) γ.length) tb:=w.ext λi il=>by
 have hi:γ[i]? =some γ[i]:=aaa il;generalize γ[i]=r at *
 obtain ⟨a1,a2,a3⟩:=jf (i:=i) fw hs fp fa hi;rw [vm hi];cases hk:Β (kindOf r) with
 |false=>rw [a3 hk,Ak hk];rfl
 |true=>
  rcases hs.two _ hk with e|e
  ·obtain ⟨j,gj,_⟩:=b8 fw hs.h1 fp i r hi e;rw [a1 e,e,e1,gj];show some ((Λ p i).getD 0)=_;rw [gj];rfl
  ·obtain ⟨j,gj,_⟩:=b8 fw hs.h2 fa i r hi e;rw [a2 e,e,e2,gj];show some ((Λ pa i).getD 0)=_;rw [gj];rfl
theorem NT(fw:FW ε γ X C)(fp:ar (eV γ "one") p)(b:EW ε γ "one" "other" p pa tb)(n:Α ε γ tb p=[]):Gs ε γ p pa tb:=⟨fp,b.1,y4 fw eY fp b.1 rfl rfl b.2.1,n,b.2.2⟩
theorem TZ(fw:FW ε γ X C)(fp:ar (eV γ "other") p)(b:EW ε γ "other" "one" p pa tb)(n:Α ε γ tb p=[]):Gs ε γ pa p tb:=⟨b.1,fp,y4 fw Qu fp b.1 rfl rfl b.2.1,b.2.2,n⟩
theorem yd(fw:FW ε γ X C)(b1:1<=iC X C)(hh:Β ο=true)(fa:ar (eV γ ο) pa)(be:Α ε γ tb pa=[])(e1:ao p1 p2 ο=some pa)(e2:ao q1 q2 ο=some qr)(eo:∀z:Str,z≠ο->ao q1 q2 z=ao p1 p2 z)(has:w4 γ ο qr)(dk:gO γ (cW γ (ao q1 q2) γ.length))(wt:jL ε γ (cW γ (ao p1 p2) γ.length) tb)(Kr:jL ε γ (cW γ (ao q1 q2) γ.length) pL):∀i,i<γ.length->jJ ο*val (pL.getD i (0,1))<=jJ ο*val (tb.getD i (0,1)):=by
 have hp:∀t,t<γ.length->0<(tb.getD t (0,1)).2:=λt ht=>(wt.tab.red t ht).pos;refine yL fw hh dk b1 wt Kr λi il=>?_;have hi:γ[i]? =some γ[i]:=aaa il;generalize γ[i]=r at *
 rw [vm hi,vm hi];by_cases ek:kindOf r=ο
 ·right;obtain ⟨j,gj,_⟩:=b8 fw hh fa i r hi ek;obtain ⟨j',UR,K7⟩:=has i r hi ek;cases r with
  |fin q=>exact absurd (show Β (Str.ofString "end")=true by rw [<-hh,<-ek];rfl) (by decide)
  |υ k ds=>
   have ek:k=ο:=ek;subst ek;refine ⟨ds,j,j',hi,?_,?_,K7,rK fw hh fa hp be hi gj⟩
   ·show Option.map _ (ao p1 p2 k)=_;rw [e1];show some ((Λ pa i).getD 0)=_;rw [gj];rfl
   ·show Option.map _ (ao q1 q2 k)=_;rw [e2];show some ((Λ qr i).getD 0)=_;rw [UR];rfl
 ·left;rw [eo _ ek]
theorem sg1:jJ "one"=1:=if_pos rfl
theorem sg2:jJ "other"= -1:=if_neg (by decide)
theorem xE{z:Str}(h:z≠"other"):ao p1 q2 z=ao p1 p2 z:=by
 unfold ao;by_cases e:z="one"
 ·rw [if_pos e,if_pos e]
 ·rw [if_neg e,if_neg e,if_neg h,if_neg h]
theorem BU{z:Str}(h:z≠"one"):ao q1 p2 z=ao p1 p2 z:=by unfold ao;rw [if_neg h,if_neg h]
theorem Gs.low(o:Gs ε γ p1 p2 tb)(fw:FW ε γ X C)(b1:1<=iC X C)(has:w4 γ "other" q2)(Kr:jL ε γ (cW γ (ao p1 q2) γ.length) pL)(il:i<γ.length):val (tb.getD i (0,1))<=val (pL.getD i (0,1)):=by have:=yd fw b1 eY.h2 o.f2 o.n2 rfl rfl (λz hz=>xE hz) has (pw (dj (b8 fw eY.h1 o.f1) has)) o.wt Kr i il;rw [sg2] at this;grind
theorem Gs.high(o:Gs ε γ p1 p2 tb)(fw:FW ε γ X C)(b1:1<=iC X C)(has:w4 γ "one" q1)(Kr:jL ε γ (cW γ (ao q1 p2) γ.length) pL)(il:i<γ.length):val (pL.getD i (0,1))<=val (tb.getD i (0,1)):=by have:=yd fw b1 eY.h1 o.f1 o.n1 rfl rfl (λz hz=>BU hz) has (pw (dj has (b8 fw eY.h2 o.f2))) o.wt Kr i il;rw [sg1] at this;grind
end
theorem TJ{a b:Int}(h1: -(10^30)<=a)(h2:a<=10^30)(h3:b<=1000000):bx (a,b)=true:=by
 unfold bx;have:(if a<0 then -a else a)<=10^30:=by split <;> omega
 show (decide ((if a<0 then -a else a)<=10^30)&&decide (b<=1000000))=true;rw [decide_eq_true this,decide_eq_true h3];rfl
theorem CZ{t b:Int}(h1: -(10^30)<=t)(h2:t<=10^30)(h0:0<b)(h3:b<=1000000):bx (aw t b)=true:=by
 have l1:=qV (t:=t) (show b≠0 by omega);have l2:=jT (t:=t) (show b≠0 by omega);generalize aw t b=f at *
 obtain ⟨x,y⟩:=f;have l1:x.natAbs<=t.natAbs:=l1;have l2:y.natAbs<=b.natAbs:=l2;exact TJ (by omega) (by omega) (by omega)
theorem Cr{t b:Int}(t0:0<=t)(t1:t<b)(ZS:b<=1000):aT (aw t b)=true:=by
 have Kt:0<b:=by omega
 have l2:=jT (t:=t) (show b≠0 by omega);have q0:=cB (t:=t) (show b≠0 by omega);have hc:=cv (t:=t) (show b≠0 by omega);generalize aw t b=f at *
 obtain ⟨x,y⟩:=f;have l2:y.natAbs<=b.natAbs:=l2;have q0:0<y:=q0;have hc:t*y=b*x:=hc;have x0:0<=x:=by
  rcases abZ x 0 with z|z
  ·have:=abC Kt z;have:=aaY t0 (aai q0);omega
  ·exact z
 have x1:x<y:=by
  rcases abZ x y with z|z
  ·exact z
  ·have h3:b*y<=b*x:=aan z (aai Kt);have h4:t*y<b*y:=Int.mul_lt_mul_of_pos_right t1 q0;omega
 unfold aT;show (decide (0<=x)&&(decide (x<y)&&decide (y<=1000)))=true;rw [decide_eq_true x0,decide_eq_true x1,decide_eq_true (show y<=1000 by omega)];rfl
def VG(ns:List Int)(k:Int):Int:=ns.getD k.toNat 0
theorem Qh{ns:List Int}{k:Int}(h0:0<=k)(h2:k<ns.length):nE (ns.map Dt.int) k=some (.int (VG ns k)):=by
 have e:(ns.map Dt.int)[k.toNat]? =some (.int (VG ns k)):=by rw [aam,aaa (show k.toNat<ns.length by omega)];unfold VG;rw [aab,aaa (show k.toNat<ns.length by omega)];rfl
 have:=Κ e;rwa [show ((k.toNat:Nat):Int)=k by omega] at this
def Nm(n:Int):Prop:=0<=n/\n<10^300
theorem RP:Aq 10 60:=⟨by decide,by decide,by decide⟩
theorem XR:Aq 10 30:=⟨by decide,by decide,by decide⟩
theorem p18:Aq 10 18:=⟨by decide,by decide,by decide⟩
theorem p12:Aq 10 12:=⟨by decide,by decide,by decide⟩
theorem p6:Aq 10 6:=⟨by decide,by decide,by decide⟩
theorem oX{n:Int}(h:Nm n):iw n:=pO (k:=1000) h.1 (ab0 h.2 (by decide)) (by decide)
theorem AQ{a b:Int}(h0:0<b)(h1:b<=10^300):Nm (a%b):=⟨aaP _ (by omega),Int.lt_of_lt_of_le (aaL _ h0) h1⟩
theorem xq{n b:Int}(h:Nm n)(h0:0<b):Nm (n/b):=⟨Int.ediv_nonneg h.1 (aai h0),aaw (abU _ h.1) h.2⟩
def Wx:DF:=λas M q _=>∃(ns:List Int) (k:Int),as=[.iY ns,.int k]/\ns.length<=63/\0<=k/\k<=200/\∀n,Nm n->q (.int n) M
theorem qk:Ε ["_law_script","_law_k","_law_mixed","_law_cell"] ["_law_script","_law_k"] (τ AJ):= .of rfl
theorem JH{f:Addr}{fd:FuncData}(F:cI K "_law_at" "_law_at" AJ f fd)(E:Ev K mg w Cm):aq P w K mg base (bV P w) 1 f fd ["_law_script","_law_k"] (cC K Wx):=by
 refine F.de qk (λds M q x h=>?_) (λaV A outer s H E' hr=>⟨_,(θ (aD (sj (jv 1) (bU E.bo (Ρ (jv 0) η))) (μ (Ζ (bL (Μ (jv 0) (jv 1)) (aL (aL (aL (aL (iQ χ χ) (iQ χ χ)) (iQ χ χ)) (iQ χ χ)) (iQ χ χ))))) Υ)
   (θ (Γ 2 qk.nd (cG χ (aL χ (bU E.bo (Ρ (jv 0) η)))))
   (θ (dw (bR (cc (vo (jv 0) χ))) (ax (i:=3) qk.nd rfl (Or.inl rfl)) aS (μ (Γ 2 qk.nd (bL (cG (aL (jv 2) χ) (bL (jv 3) (iQ χ χ))) χ))))
   (μ (Ζ (bL (aL (cG (jv 2) χ) (cG (aL (jv 1) (jv 1)) χ)) χ)))))),λds M q x h=>?_⟩)
 ·obtain ⟨ns,k,rfl,_⟩:=h;rfl
 ·obtain ⟨ns,k,rfl,nl,hk,k2,h⟩:=h;have bk:iw k:=bg (k:=40) (by omega);have bl:iw (ns.length:Int):=bg (k:=40) (by omega);have b6:iw ((10:Int)^(60:Int).toNat):=bg (k:=210) (by decide);walk_at "vc";refine (au (d:= .iY ns) (xs:=ns.map .int) rfl ?_:eZ [.iY ns] M _);rw [aad];refine ⟨λh1=>?_,λh1=>?_⟩
  ·have U3:k<ns.length:=of_decide_eq_true h1;refine (Η (d:= .iY ns) rfl (Qh hk U3) ?_:dF (.iY ns) (.int k) M _);exact ⟨RP,RP,⟨b6,b6⟩,RP,⟨bg (k:=410) (by decide),b6⟩,RP,⟨bg (k:=610) (by decide),b6⟩,RP,⟨bg (k:=810) (by decide),b6⟩,by decide,h _ (AQ (by decide) (by decide))⟩
  ·refine (au (d:= .iY ns) (xs:=ns.map .int) rfl ?_:eZ [.iY ns] M _);rw [aad];refine ⟨⟨bg (k:=40) (by decide),bl⟩,?_⟩;dsimp only [vc,gC,Tw,G7];walk_at "vc";refine ⟨ns.map .int,6,rfl,rfl,?_⟩;rw [<-ab5];refine cT (gc _) ?_;refine bZ (λzs ρ' M'=>M'=M/\∃(rest:List Int) (m:Int) (o:Option Dt),zs=rest.map Dt.int/\0<=m/\m<2147483647/\ρ'=[some (.iY ns),some (.int k),some (.int m),o]) (λzs ρ' M' hj=>trivial) (λx zs ρ' M' hj fH=>?_) (λρ' M' hj=>?_) _ _ _ ⟨rfl,_,_,none,rfl,by omega,by omega,rfl⟩
   ·obtain ⟨rfl,rest,m,o,ex,m0,m1,rfl⟩:=hj;cases rest with
    |nil=>cases ex
    |cons c rest=>
     cases ex;exact ⟨⟨bg (k:=40) (by omega),bg (k:=40) (by decide)⟩,p12,by decide,by decide,fH _ _ ⟨rfl,rest,_,_,rfl,aaP _ (by decide),aaL _ (by decide),rfl⟩⟩
   ·obtain ⟨rfl,rest,m,o,ex,m0,m1,rfl⟩:=hj;have kk:0<=k*k/\k*k<=200*200:=⟨aaY hk hk,abj k2 k2 hk (by decide)⟩;exact ⟨⟨bk,bk⟩,⟨bg (k:=40) (by omega),bg (k:=40) (by omega)⟩,by decide,h _ (AQ (by decide) (by decide))⟩
def Xs(x:Int):Prop:=0<=x/\x<2^110
def wA:DF:=λas M q _=>∃(n:Int) (aP:Nat),as=[.int n,.int (aP:Nat)]/\iw n/\aP<=60/\∀xs:List Int,xs.length=aP->(∀x∈xs,Xs x)->q (.loc M.length) (M++[.lst (xs.map Dt.int)])
theorem fB:Ε ["_law_number","_law_many","_law_some","_law_seed","_law_k"] ["_law_number","_law_many"] (τ mB):= .of rfl
theorem xn{f:Addr}{fd:FuncData}(F:cI K "_law_stream" "_law_stream" mB f fd)(E:Ev K mg w Cm):aq P w K mg base (bV P w) 1 f fd ["_law_number","_law_many"] (cC K wA):=by
 refine F.de fB (λds M q x h=>?_) (λaV A outer s H E' hr=>⟨_,(θ (Γ 2 fB.nd (kq η))
   (θ (Γ 3 fB.nd (cG (bL (aL (jv 0) χ) χ) χ))
   (θ (ie (cR E.bW (Ρ (jv 1) η)) (ax (i:=4) fB.nd rfl (Or.inl rfl)) aS (θ (Γ 3 fB.nd (bL (cG (cG (aL (jv 3) χ) (aL (jv 4) (jv 4))) χ) χ))
   (μ (eh (fC (jv 2) (Ρ (jv 3) η))))))
   (μ (Ζ (jv 2)))))),λds M q x h=>?_⟩)
 ·obtain ⟨n,aP,rfl,_⟩:=h;rfl
 ·obtain ⟨n,aP,rfl,bn,m60,h⟩:=h;refine ⟨by decide,⟨bn,bg (k:=20) (by decide)⟩,by decide,?_⟩;have s0:=aaP (n*69621) (show (2147483629:Int)≠0 by decide);have s1:=aaL (n*69621) (show (0:Int)<2147483629 by decide);dsimp only [yi];generalize n*69621%2147483629=sd at *
  refine ⟨⟨by omega,by omega⟩,?_⟩;rw [show ((aP:Int)).toNat=aP by omega];refine cL (λzs ρ' M'=>∃(i c:Nat) (xs:List Int) (sd:Int) (o:Option Dt),zs=dU (i:Int) c/\i+c=aP/\xs.length=i/\(∀x∈xs,Xs x)/\0<=sd/\sd<=2147483647/\M'=M++[.lst (xs.map Dt.int)]/\ρ'=[some (.int n),some (.int (aP:Int)),some (.loc M.length),some (.int sd),o]) (λx zs ρ' M' hj fH=>?_) (λρ' M' hj=>?_) _ _ _ ⟨0,aP,[],sd+1,none,rfl,by omega,rfl,λ_ z=>(nomatch z),by omega,by omega,rfl,rfl⟩
  ·obtain ⟨i,c,xs,sd,o,ex,ic,xl,hx,d0,d1,rfl,rfl⟩:=hj;obtain ⟨c',rfl,rfl,rfl⟩:=cE ex;have i60:(i:Int)<60:=by omega
   have ii:0<=(i:Int)*i/\(i:Int)*i<=60*60:=⟨aaY (by omega) (by omega),abj (by omega) (by omega) (by omega) (by decide)⟩;refine ⟨⟨bg (k:=40) (by omega),bg (k:=20) (by decide)⟩,⟨bg (k:=20) (by omega),bg (k:=20) (by omega)⟩,by decide,?_⟩;have t0:=aaP (sd*48271+(i:Int)*i+7) (show (2147483647:Int)≠0 by decide);have t1:=aaL (sd*48271+(i:Int)*i+7) (show (0:Int)<2147483647 by decide);refine ⟨⟨_,_,rfl,aI⟩,M.length,_,_,rfl,rfl,aI,?_,?_⟩
   ·rw [aad,xl];exact aaK (show i<=60 by omega) (by decide)
   rw [dE];refine fH _ _ ⟨i+1,c',xs++[(sd*48271+(i:Int)*i+7)%2147483647],_,_,by rw [Int.natCast_add];rfl,by omega,by simp [xl],λy hy=>?_,t0,Int.le_of_lt t1,by simp,rfl⟩;rcases aaN.mp hy with z|z
   ·exact hx y z
   ·rw [aa6.mp z];exact ⟨t0,ab0 t1 (by decide)⟩
  ·obtain ⟨i,c,xs,sd,o,ex,ic,xl,hx,d0,d1,rfl,rfl⟩:=hj;have c0:c=0:=by have:=congrArg List.length ex;rw [gD] at this;exact this.symm
   exact h xs (by omega) hx
def J3:DF:=λas M q _=>∃t b:Int,as=[.int t,.int b]/\0<b/\iw b/\q (Ξ (aw t b)) M
theorem jM:Ε ["_law_top","_law_bottom","_law_one","_law_two"] ["_law_top","_law_bottom"] (τ md):= .of rfl
theorem xj{f:Addr}{fd:FuncData}(F:cI K "_law_lowest" "_law_lowest" md f fd)(E:Ev K mg w Cm):aq P w K mg base (bV P w) 1 f fd ["_law_top","_law_bottom"] (cC K J3):=by
 refine F.de jM (λds M q x h=>?_) (λaV A outer s H E' hr=>⟨_,(θ (HJ (i:=2) (j:=3) jM.nd rfl rfl (ι (D5 E.rD (Ρ (jv 0) η)) (Ρ (jv 1) η) (hs:=aG)))
   (θ (ng (qt hr (jv 3) χ) (μ (HJ (i:=2) (j:=3) jM.nd rfl rfl (Ρ (jv 3) (ι (bL (jv 2) (jv 3)) η (hs:=bY))))))
   (μ (Ζ (fv (ι (iG (jv 0) (jv 2)) (ι (iG (jv 1) (jv 2)) η (hs:=bY)) (hs:=bY))))))),λds M q x h=>?_⟩)
 ·obtain ⟨t,b,rfl,_⟩:=h;rfl
 ·obtain ⟨t,b,rfl,h0,h1,h⟩:=h;have ga:g (if t<0 then -t else t) b=g t b:=by have:=Ng t b;rwa [if_neg (show¬b<0 by omega)] at this
  refine ⟨λm ρ M'=>M'=M/\∃(x y:Int),ρ=[some (.int t),some (.int b),some (.int x),some (.int y)]/\0<=x/\0<=y/\g x y=g t b/\m=y.toNat,⟨_,rfl,_,_,rfl,by split <;> omega,by omega,ga,rfl⟩,?_⟩;rintro m ρ M' ⟨rfl,x,y,rfl,hx,hy,e,rfl⟩;refine ⟨λhb=>?_,λhb=>?_⟩
  ·have K0:y≠0:=by simpa using hb
   refine ⟨_,λρ' M2 h2=>h2,?_⟩;refine ⟨by omega,(x%y).toNat,?_,rfl,y,x%y,rfl,hy,aaP _ K0,?_,rfl⟩
   ·have:=aaL x (show 0<y by omega);have:=aaP x K0;omega
   ·rw [<-abx x hy,He (by omega)];exact e
  ·have K0:y=0:=by simpa using hb
   subst K0;rw [J6 hx] at e;subst e;have hg:0<g t b:=Aa (by omega);have hle:g t b<=b:=abN h0 (Int.gcd_dvd_right ..);have hb:iw (g t b):=aaK (show (g t b).natAbs<=b.natAbs by omega) h1;have e:aw t b=(t/g t b,b/g t b):=by rw [Mg h0,abP _ (aai hg),abP _ (aai hg)]
   rw [e] at h;exact ⟨⟨hg,hb⟩,⟨hg,hb⟩,(by show 2<=sizeLine;decide),h⟩
def EZ:DF:=λas M q _=>∃n:Int,as=[.int n]/\∀b,q (.bl b) M
theorem tZ:Ε ["_law_number"] ["_law_number"] (τ ju):= .of rfl
theorem qR{f:Addr}{fd:FuncData}(F:cI K "_law_by_digits" "_law_by_digits" ju f fd)(E:Ev K mg w Cm):aq P w K mg base (bV P w) 1 f fd ["_law_number"] (cC K EZ):=by
 refine F.de tZ (λds M q x h=>?_) (λaV A outer s H E' hr=>⟨_,(μ (Ζ (VF (jv 0) (iQ χ χ)))),λds M q x h=>?_⟩)
 ·obtain ⟨n,rfl,_⟩:=h;rfl
 ·obtain ⟨n,rfl,h⟩:=h;exact ⟨p18,h _⟩
def Ay(ss:List Int):Dt:= .lst (ss.map Dt.int)
structure IC(ss:List Int):Prop where
 len:ss.length=5
 pos:∀s∈ss,0<s/\s<=2*10^30+1
theorem Q3{ss:List Int}(h:IC ss){j:Int}:∃s,nE (ss.map Dt.int) (j%5)=some (.int s)/\0<s/\s<=2*10^30+1:=by
 have j0:=aaP j (show (5:Int)≠0 by decide);have j1:=aaL j (show (0:Int)<5 by decide);have hl:(j%5).toNat<ss.length:=by rw [h.len];omega
 have:=fK hl;rw [show (((j%5).toNat:Nat):Int)=j%5 by omega] at this;exact ⟨_,this,h.pos _ (aax hl)⟩
def D4:DF:=λas M q _=>∃(n k:Int) (aP:Nat) (ss:List Int),as=[.int n,.int k,.int (aP:Nat),Ay ss]/\Nm n/\0<=k/\k<=12/\aP<=30/\IC ss/\∀xs:List Int,xs.length=aP->(∀x∈xs,Xs x)->q (.loc M.length) (M++[.lst (xs.map Dt.int)])
theorem fD:Ε ["_law_number","_law_k","_law_many","_law_sizes","_law_some","_law_rest","_law_j"] ["_law_number","_law_k","_law_many","_law_sizes"] (τ mE):= .of rfl
theorem xh{f:Addr}{fd:FuncData}(F:cI K "_law_things" "_law_things" mE f fd)(E:Ev K mg w Cm){bt:Addr}{bu:FuncData}(ag:av P w K mg base 1 "_law_by_digits" ["_law_number"] EZ bt bu){mF:Addr}{lM:FuncData}(d8:av P w K mg base 1 "_law_stream" ["_law_number","_law_many"] wA mF lM):aq P w K mg base (bV P w) 2 f fd ["_law_number","_law_k","_law_many","_law_sizes"] (cC K D4):=by
 refine F.de fD (λds M q x h=>?_) (λaV A outer s H E' hr=>⟨_,(θ (aD (eR (bB (ae ag hr ξ (Ρ (jv 0) η)))) (μ (Ζ (ae d8 hr ξ (ι (cG (aL (jv 0) χ) (jv 1)) (Ρ (jv 2) η) (hs:=bY))))) Υ)
   (θ (Γ 4 fD.nd (kq η))
   (θ (Γ 5 fD.nd (iG (jv 0) χ))
   (θ (ie (cR E.bW (Ρ (jv 2) η)) (ax (i:=6) fD.nd rfl (Or.inl rfl)) aS (θ (eh (fC (jv 4) (ι (bL (jv 5) (Μ (jv 3) (bL (jv 6) χ))) η (hs:=bY))))
   (μ (Γ 5 fD.nd (iG (jv 5) (Μ (jv 3) (bL (jv 6) χ)))))))
   (μ (Ζ (jv 4))))))),λds M q x h=>?_⟩)
 ·obtain ⟨n,k,aP,ss,rfl,_⟩:=h;rfl
 ·obtain ⟨n,k,aP,ss,rfl,hn,k0,k1,U',so,h⟩:=h;refine ⟨n,rfl,λb=>⟨λ_=>?_,λ_=>?_⟩⟩
  ·refine ⟨⟨oX hn,bg (k:=10) (by decide)⟩,?_⟩;refine ⟨n*12+k,aP,rfl,?_,by omega,h⟩;obtain ⟨n0,n1⟩:=hn;refine pO (k:=1100) (by omega) ?_ (by decide);exact Int.lt_of_lt_of_le (show n*12+k<10^300*12+13 by omega) (by decide)
  ·refine ⟨by decide,⟨by decide,bg (k:=10) (by decide)⟩,⟨by omega,by omega⟩,?_⟩;rw [show ((aP:Int)).toNat=aP by omega];refine cL (λzs ρ' M'=>∃(i c:Nat) (xs:List Int) (r:Int) (o:Option Dt),zs=dU (i:Int) c/\i+c=aP/\xs.length=i/\(∀x∈xs,Xs x)/\Nm r/\M'=M++[.lst (xs.map Dt.int)]/\ρ'=[some (.int n),some (.int k),some (.int (aP:Int)),some (Ay ss),some (.loc M.length),some (.int r),o]) (λx zs ρ' M' hj fH=>?_) (λρ' M' hj=>?_) _ _ _ ⟨0,aP,[],_,none,rfl,by omega,rfl,λ_ z=>(nomatch z),xq hn (by decide),rfl,rfl⟩
   ·obtain ⟨i,c,xs,r,o,ex,ic,xl,hx,g7,rfl,rfl⟩:=hj;obtain ⟨c',rfl,rfl,rfl⟩:=cE ex;obtain ⟨sz,es,s0,s1⟩:=Q3 so (j:=(i:Int));have rd:∀(M':Ms) (q:DQ),q (.int sz) M'->dF (Ay ss) (.int ((i:Int)%5)) M' q:=λM' q hq=>Η (d:=Ay ss) rfl es hq;walk_at "vc";refine ⟨⟨_,_,rfl,aI⟩,?_⟩;refine ⟨by decide,rd _ _ ⟨s0,?_⟩⟩;refine ⟨M.length,_,_,rfl,rfl,aI,?_,?_⟩
    ·rw [aad,xl];exact aaK (show i<=60 by omega) (by decide)
    rw [dE];refine ⟨by decide,rd _ _ ⟨⟨s0,pO (k:=110) (aai s0) (aaw s1 (by decide)) (by decide)⟩,?_⟩⟩;refine fH _ _ ⟨i+1,c',xs++[r%sz],_,_,by rw [Int.natCast_add];rfl,by omega,by simp [xl],λy hy=>?_,xq g7 s0,by simp,rfl⟩;rcases aaN.mp hy with z|z
    ·exact hx y z
    ·rw [aa6.mp z];exact ⟨aaP _ (by omega),ab0 (aaL _ s0) (aaw s1 (by decide))⟩
   ·obtain ⟨i,c,xs,r,o,ex,ic,xl,hx,g7,rfl,rfl⟩:=hj;have c0:c=0:=by have:=congrArg List.length ex;rw [gD] at this;exact this.symm
    exact h xs (by omega) hx
def zd:DF:=λas M q _=>∃n low:Int,as=[.int n,.int low]/\Nm n/\1<=low/\low<=1000/\∀p,aT p=true->q (Ξ p) M
theorem jq:Ε ["_law_number","_law_low","_law_bottom","_law_top"] ["_law_number","_law_low"] (τ jN):= .of rfl
theorem tR{f:Addr}{fd:FuncData}(F:cI K "_law_share_of" "_law_share_of" jN f fd)(E:Ev K mg w Cm){bt:Addr}{bu:FuncData}(ag:av P w K mg base 1 "_law_by_digits" ["_law_number"] EZ bt bu){dQ:Addr}{dH:FuncData}(aR:av P w K mg base 1 "_law_lowest" ["_law_top","_law_bottom"] J3 dQ dH):aq P w K mg base (bV P w) 2 f fd ["_law_number","_law_low"] (cC K zd):=by
 refine F.de jq (λds M q x h=>?_) (λaV A outer s H E' hr=>⟨_,(θ (Γ 2 jq.nd (cG χ (bL (jv 0) (jv 1))))
   (θ (h9 (Γ 3 jq.nd (r6 (bB (ae ag hr ξ (Ρ (jv 0) η))) (iG (jv 0) (jv 1)) (bL (aL (jv 0) χ) χ))))
   (μ (Ζ (ae aR hr ξ (ι (bL (jv 3) (jv 2)) (Ρ (jv 2) η) (hs:=bY))))))),λds M q x h=>?_⟩)
 ·obtain ⟨n,low,rfl,_⟩:=h;rfl
 ·obtain ⟨n,low,rfl,hn,l1,l2,h⟩:=h;have b0:=aaP n (show low≠0 by omega);have b1:=aaL n (show 0<low by omega);refine ⟨by omega,?_⟩;dsimp only [yi];generalize n%low=r at *
  have fin:∀t:Int,aT (aw (t%(1+r)) (1+r))=true:=λt=>Cr (aaP _ (by omega)) (aaL _ (by omega)) (by omega);refine ⟨λρ M'=>M'=M/\∃t:Int,ρ=[some (.int n),some (.int low),some (.int (1+r)),some (.int t)],?_,?_⟩
  ·refine ⟨n,rfl,λb=>⟨λ_=>?_,λ_=>?_⟩⟩
   ·exact ⟨⟨by omega,bg (k:=12) (by omega)⟩,rfl,_,rfl⟩
   ·exact ⟨⟨oX hn,bg (k:=20) (by decide)⟩,by decide,rfl,_,rfl⟩
  ·rintro ρ M' ⟨rfl,t,rfl⟩;exact ⟨by omega,_,_,rfl,by omega,bg (k:=12) (by omega),h _ (fin t)⟩
structure uU(kd:Str)(size:Int)(cs:List Fr)(ds:List cj):Prop where
 fit:∀d∈ds,aH d.1 d.2.1 size=true/\0<d.2.1.2
 UN:kd="chance"->(∀d∈ds,d.2.2=[ω d])/\ds.map ω=cs.take ds.length
 VR:kd≠"chance"->∀d∈ds,d.2.2=[]
theorem uU.more{kd:Str}{size:Int}{cs:List Fr}{ds:List cj}{d:cj}(h:uU kd size cs ds)(h1:aH d.1 d.2.1 size=true)(h2:0<d.2.1.2)(hl:ds.length<cs.length)(h3:kd="chance"->d.2.2=[cs[ds.length]])(h4:kd≠"chance"->d.2.2=[]):uU kd size cs (ds++[d]):=by
 refine ⟨λe he=>?_,λhc=>⟨λe he=>?_,?_⟩,λhc e he=>?_⟩
 ·rcases aaN.mp he with he|he
  ·exact h.fit e he
  ·have:e=d:=by simpa using he
   subst this;exact ⟨h1,h2⟩
 ·rcases aaN.mp he with he|he
  ·exact (h.UN hc).1 e he
  ·have:e=d:=by simpa using he
   subst this;unfold ω;rw [h3 hc];rfl
 ·rw [aaS,(h.UN hc).2,aag];show cs.take ds.length++[ω d]=cs.take (ds.length+1);rw [List.take_succ,aaa hl];unfold ω;rw [h3 hc];rfl
 ·rcases aaN.mp he with he|he
  ·exact h.VR hc e he
  ·have:e=d:=by simpa using he
   subst this;exact h4 hc
theorem uU.good{kd:Str}{size:Int}{cs:List Fr}{ds:List cj}(h:uU kd size cs ds)(hk:Β kd=true\/kd="chance")(h1:1<=ds.length)(h6:ds.length<=6)(hl:ds.length=cs.length)(hc:aj cs=true)(ho:Pz cs):qb size (.υ kd ds):=by
 by_cases Au:kd="chance"
 ·subst Au;have e:ds.map ω=cs:=by rw [(h.UN rfl).2,hl,List.take_length]
  exact Fd h1 h6 (λd hd=>(h.fit d hd).1) (h.UN rfl).1 (by rw [e];exact hc) (by rw [e];exact ho) λd hd=>(h.fit d hd).2
 ·exact Lz (hk.resolve_right Au) h1 h6 (λd hd=>(h.fit d hd).1) λd hd=>⟨h.VR Au d hd,(h.fit d hd).2⟩
def RwG(size:Int)(r:Rw):Prop:=qb size r/\∀k ds,r= .υ k ds->Β k=true->∀d∈ds,d.2.2=[]
theorem KQ{k:Str}(h:Β k=true):k≠"chance":=λz=>by subst z;exact absurd h (by decide)
structure vJ(cq:Bool)(p:Fr):Prop where
 red:Red p
 fit:bx p=true
 near:cq=false->p.2∣12/\d7 p 9
theorem LM{t b:Int}(h1: -(10^30)<=t)(h2:t<=10^30)(h0:0<b)(h3:b<=1000000):vJ true (aw t b):=⟨cy (by omega),CZ h1 h2 h0 h3,λz=>(nomatch z)⟩
theorem JQ{x y:Int}:vJ false (aw (x%19-9) (1+y%4)):=by
 have b0:0<1+y%4:=by omega
 refine ⟨cy (by omega),CZ (by omega) (by omega) b0 (by omega),λ_=>⟨?_,nA b0 (by omega) (by omega)⟩⟩;refine Int.dvd_trans (zF b0) ?_;have:y%4=0\/y%4=1\/y%4=2\/y%4=3:=by omega
 rcases this with e|e|e|e <;> rw [e] <;> decide
theorem Xs.big{x:Int}(h:Xs x):iw x:=pO h.1 h.2 (by decide)
theorem GS{a b:Int}{j k:Nat}(a0:0<=a)(a1:a<2^j)(b0:0<=b)(b1:b<2^k):0<=a*b/\a*b<2^(j+k):=by refine ⟨aaY a0 b0,?_⟩;rw [Int.pow_add];exact aaw (aaA (aai a1) b0) (Int.mul_lt_mul_of_pos_left b1 (Int.pow_pos (by decide)))
def Hc:DF:=λas M q _=>∃(xs:List Int) (cq:Bool),as=[.lst (xs.map Dt.int),.bl cq]/\3<=xs.length/\(∀x∈xs,Xs x)/\∀p,vJ cq p->q (Ξ p) M
theorem yI:Ε ["_law_xs","_law_far","_law_top"] ["_law_xs","_law_far"] (τ vU):= .of rfl
theorem FE{f:Addr}{fd:FuncData}(F:cI K "_law_pay" "_law_pay" vU f fd)(E:Ev K mg w Cm){dQ:Addr}{dH:FuncData}(aR:av P w K mg base 1 "_law_lowest" ["_law_top","_law_bottom"] J3 dQ dH):aq P w K mg base (bV P w) 2 f fd ["_law_xs","_law_far"] (cC K Hc):=by
 refine F.de yI (λds M q x h=>?_) (λaV A outer s H E' hr=>⟨_,(θ (aD (bB (jv 1)) (θ (h9 (Γ 2 yI.nd (r6 (CJ (Μ (jv 0) χ) χ) (aL (aL (aL (Μ (jv 0) χ) (Μ (jv 0) χ)) (Μ (jv 0) χ)) (Μ (jv 0) χ)) (Μ (jv 0) χ))))
   (μ (Ζ (ae aR hr ξ (ι (yx (bL (jv 2) (cG (aL χ (iQ χ χ)) χ)) (iQ χ χ)) (ι (cG χ (bL (Μ (jv 0) χ) (iQ χ χ))) η (hs:=bY)) (hs:=bY)))))) Υ)
   (μ (Ζ (ae aR hr ξ (ι (yx (bL (Μ (jv 0) χ) χ) χ) (ι (cG χ (bL (Μ (jv 0) χ) χ)) η (hs:=bY)) (hs:=bY)))))),λds M q x h=>?_⟩)
 ·obtain ⟨xs,cq,rfl,_⟩:=h;rfl
 ·obtain ⟨xs,cq,rfl,l3,hx,h⟩:=h;have rd:∀(j:Nat) (hj:j<3) (M':Ms) (q:DQ),q (.int (xs[j]'(by omega))) M'->dF (.lst (xs.map Dt.int)) (.int (j:Int)) M' q:=λj hj M' q hq=>Η (d:= .lst (xs.map Dt.int)) rfl (fK (by omega)) hq;have x0:=hx _ (aax (show 0<xs.length by omega));have x1:=hx _ (aax (show 1<xs.length by omega));have x2:=hx _ (aax (show 2<xs.length by omega));walk_at "vc";refine ⟨λz=>?_,λz=>?_⟩
  ·subst z;refine ⟨λρ M'=>M'=M/\∃t:Int,ρ=[some (.lst (xs.map Dt.int)),some (.bl true),some (.int t)],?_,?_⟩
   ·walk_at "vc";refine rd 2 (by decide) _ _ ⟨λ_=>?_,λ_=>?_⟩
    ·obtain ⟨p0,p1⟩:=GS x0.1 x0.2 x1.1 x1.2;obtain ⟨q0,q1⟩:=GS p0 p1 x2.1 x2.2;refine rd 0 (by decide) _ _ ?_;refine rd 1 (by decide) _ _ ?_;refine ⟨⟨x0.big,x1.big⟩,?_⟩;walk_at "vc";refine rd 2 (by decide) _ _ ?_;refine ⟨⟨pO p0 p1 (by decide),x2.big⟩,?_⟩;walk_at "vc";refine rd 0 (by decide) _ _ ?_;exact ⟨⟨pO q0 q1 (by decide),x0.big⟩,rfl,_,rfl⟩
    ·refine rd 0 (by decide) _ _ ?_;exact ⟨rfl,_,rfl⟩
   ·rintro ρ M' ⟨rfl,t,rfl⟩;have XX:iw ((10:Int)^(30:Int).toNat):=bg (k:=110) (by decide);have m0:(0:Int)<2*10^(30:Int).toNat+1:=by decide
    have YS:=aaP t (show (2*10^(30:Int).toNat+1:Int)≠0 by decide);have Z5:=aaL t m0;have S_:0<1+xs[1]%10^(6:Int).toNat/\1+xs[1]%10^(6:Int).toNat<=1000000:=by show 0<1+xs[1]%1000000/\1+xs[1]%1000000<=1000000;omega
    have hb7:iw (1+xs[1]%10^(6:Int).toNat):=pO (k:=20) (aai S_.1) (aaw S_.2 (by decide)) (by decide);walk_at "vc";refine ⟨XR,⟨bg (k:=4) (by decide),XX⟩,m0,XR,?_⟩;dsimp only [A_];refine rd 1 (by decide) _ _ ?_;refine ⟨p6,(by show (0:Int)<1000000;decide),_,_,rfl,S_.1,hb7,h _ (LM ?_ ?_ S_.1 S_.2)⟩
    ·show -(10^30)<=t%(2*10^(30:Int).toNat+1)-10^30;omega
    ·have e:(10:Int)^(30:Int).toNat=10^30:=rfl;rw [e] at Z5;show t%(2*10^30+1)-10^30<=10^30;omega
  ·subst z;refine rd 0 (by decide) _ _ ?_;refine ⟨by decide,?_⟩;dsimp only [A_];refine (rd 1 (by decide) _ _ ?_:dF (.lst (xs.map Dt.int)) (.int 1) _ _);exact ⟨by decide,_,_,rfl,by omega,bg (k:=10) (by omega),h _ JQ⟩
def Tg(cq:Bool)(size:Int)(r:Rw):Prop:=RwG size r/\(∀p,r= .fin p->vJ cq p)/\∀k ds,r= .υ k ds->∀d∈ds,vJ cq d.2.1
theorem M7(c:Nat):sliceRange ((4:Nat):Int) ((5*c:Nat):Int) ((5:Nat):Int)=(List.range c).map λk=>5*k+4:=by
 unfold sliceRange;have hc:(if ((4:Nat):Int)<((5*c:Nat):Int) then (((5*c:Nat):Int)-((4:Nat):Int)+((5:Nat):Int)-1)/((5:Nat):Int) else 0)=c:=by split <;> omega
 simp only [show ((5:Nat):Int) > 0 by decide,if_true,hc,Int.toNat_natCast];apply aaT;intro k _;omega
theorem S9{c:Nat}{ds:List Dt}{xs:List Int}(e:ds=xs.map Dt.int)(h:xs.length=5*c):iF (sliceRange ((4:Nat):Int) (ds.length:Int) ((5:Nat):Int)) ds=((List.range c).map λk=>xs.getD (5*k+4) 0).map Dt.int:=by
 subst e;rw [aad,h,M7];unfold iF;rw [List.filterMap_map,aaC];have:∀l:List Nat,(∀k∈l,k<c)->l.filterMap ((λi=>(xs.map Dt.int)[i]?) ∘ λk=>5*k+4)=l.map (Dt.int ∘ λk=>xs.getD (5*k+4) 0):=λl=>by
  induction l with
  |nil=>intro _;rfl
  |cons k l ih=>
   intro hk;have kc:=hk k aae;have e:((λi=>(xs.map Dt.int)[i]?) ∘ λk=>5*k+4) k=some (Dt.int (xs.getD (5*k+4) 0)):=by show (xs.map Dt.int)[5*k+4]? =_;rw [aam,aab,aaa (by omega)];rfl
   rw [abV,e,aaB,<-ih λz hz=>hk z (aac _ hz)];rfl
 exact this _ λk hk=>aaW.mp hk
def CT:DF:=λas M q _=>∃(kd:Str) (xs:List Int) (aP:Int) (cq:Bool) (c:Nat),as=[.str kd,.lst (xs.map Dt.int),.int aP,.bl cq]/\xs.length=5*c/\1<=c/\c<=6/\(∀x∈xs,Xs x)/\1<=aP/\aP<=12/\(Β kd=true\/kd="chance")/\∀ds,ds.length=c->Tg cq aP (.υ kd ds)->q (.loc M.length) (M++[.lst (ds.map eO)])
theorem dG:Ε ["_law_kind","_law_xs","_law_many","_law_far","_law_doors_here","_law_parts","_law_k","_law_door"] ["_law_kind","_law_xs","_law_many","_law_far"] (τ pk):= .of rfl
theorem zf{f:Addr}{fd:FuncData}(F:cI K "_law_doors" "_law_doors" pk f fd)(E:Ev K mg w Cm){wI:Addr}{xg:FuncData}(iV:av P w K mg base 2 "_law_pay" ["_law_xs","_law_far"] Hc wI xg){dQ:Addr}{dH:FuncData}(aR:av P w K mg base 1 "_law_lowest" ["_law_top","_law_bottom"] J3 dQ dH):aq P w K mg base (bV P w) 4 f fd ["_law_kind","_law_xs","_law_many","_law_far"] (cC K CT):=by
 refine F.de dG (λds M q x h=>?_) (λaV A outer s H E' hr=>⟨_,(θ (Γ 4 dG.nd (kq η))
   (θ (jY (i:=5) dG.nd rfl (Or.inl rfl) (ys:=["_law_far"]) (ak:=[3]) (.of dG rfl rfl rfl) (bR (cc (Pn (a:=4) (b:=5) (jv 1) χ χ))) (λC s H fp=>(cG χ (bL (jv 0) (Μ (eE 3 (d:= .lst [.int 4,.int 150000]) (by rfl)) (ND E.uN (Ρ (jv 1) η)))))))
   (θ (ie (cR E.bW (ι (bU E.bo (Ρ (jv 5) η)) η (hs:=aG))) (ax (i:=6) dG.nd rfl (Or.inl rfl)) aS (θ (Γ 7 dG.nd (fv (ι (bL (Μ (jv 1) (cG (aL χ (jv 6)) χ)) (jv 2)) (ι (ae iV hr ξ (ι (cc (ui (jv 1) (aL χ (jv 6)) (cG (aL χ (jv 6)) χ))) (Ρ (jv 3) η) (hs:=aQ))) η (hs:=aG)) (hs:=bY))))
   (θ (h9 (aD (d9 hr (jv 0) jx) (μ (Γ 7 dG.nd (cG (jv 7) (fv (ι (ae aR hr ξ (ι (Μ (jv 5) (jv 6)) (ι (NH E.zz (Ρ (jv 5) η)) η (hs:=aG)) (hs:=aQ))) η (hs:=aG)))))) Υ))
   (μ (eh (fC (jv 4) (Ρ (jv 7) η)))))))
   (μ (Ζ (jv 4)))))),λds M q x h=>?_⟩)
 ·obtain ⟨kd,xs,aP,cq,c,rfl,_⟩:=h;rfl
 ·obtain ⟨kd,xs,aP,cq,c,rfl,xl,c1,c6,hx,s1,s12,OJ,h⟩:=h;have sl:∀{z:Nat},z<=1000->z<=sizeLine:=λh=>aaq h (by decide);refine ⟨by decide,?_⟩;generalize hM0:M++[MO.lst []]=M0;dsimp only [oY,gC,Tw,M_];walk_at "vc";refine ⟨rfl,_,rfl,rfl,by rw [aad];omega,?_,?_⟩
  ·rw [aad,xl,M7,aad,aaM];omega
  rw [S9 rfl xl];refine cT (gc _) ?_;obtain ⟨most,em,m0,m1⟩:∃most:Int,(∀(M':Ms) (q:DQ),q (.int most) M'->dF (.lst [.int 4,.int 150000]) (.int (if cq=true then 1 else 0)) M' q)/\0<most/\most<=150000:=by
   cases cq with
   |true=>exact ⟨150000,λM' q hq=>Η (d:= .lst [.int 4,.int 150000]) rfl (Κ (j:=1) rfl) hq,by decide,by decide⟩
   |false=>exact ⟨4,λM' q hq=>Η (d:= .lst [.int 4,.int 150000]) rfl a_ hq,by decide,by decide⟩
  refine ⟨by rw [aad,aad,aaM];exact sl (by omega),?_⟩;refine dI (F:=λx n=>x=Dt.int n) (f:=λn=> .int (1+n%most)) (as:=(List.range c).map λk=>xs.getD (5*k+4) 0) trivial (λx n OS qq hq=>?_) ?_ ?_
  ·subst OS;walk_at "vc";show zZ [.bl cq] M0 λd2 M2=>dF (.lst [.int 4,.int 150000]) d2 M2 λd2 M2=>KN (.int n) d2 M2 λd2 M2=>yi (.int 1) d2 M2 qq;dsimp only [zZ];refine em _ _ ?_;exact ⟨m0,hq⟩
  ·have:∀l:List Int,Paired (λx n=>x=Dt.int n) (l.map Dt.int) l:=λl=>by
    induction l with
    |nil=>exact .nil
    |cons a l ih=>exact .cons rfl ih
   exact this _
  rw [aaO,aaC];generalize SQ:((List.range c).map λk=>1+xs.getD (5*k+4) 0%most)=ws;have ew:(List.range c).map ((λn=>Dt.int (1+n%most)) ∘ λk=>xs.getD (5*k+4) 0)=ws.map Dt.int:=by rw [<-SQ,aaC];rfl
  rw [ew];have wl:ws.length=c:=by rw [<-SQ,aad,aaM]
  have w0:∀w∈ws,0<w/\w<=most:=λw hw=>by rw [<-SQ] at hw;obtain ⟨y,_,rfl⟩:=aaj.mp hw;have e0:=aaP (xs.getD (5*y+4) 0) (show most≠0 by omega);have e1:=aaL (xs.getD (5*y+4) 0) m0;omega
  have hS:ws.sum<=1000000:=by have:=GK λw Vp=>(w0 w Vp).2;rw [wl] at this;have:(c:Int)*most<=6*150000:=abj (by omega) m1 (by omega) (by decide);omega
  have kM:ws≠[]:=λz=>by rw [z] at wl;simp at wl;omega
  have Wl:=CL (λw hw=>(w0 w hw).1) kM;obtain ⟨cc1,cc2⟩:=BI (S:=ws.sum) rfl (λw Vp=>(w0 w Vp).1) kM hS (by omega);have cl:(ws.map λw=>aw w ws.sum).length=c:=by rw [aad,wl]
  have bS:iw ws.sum:=bg (k:=21) (by omega);clear SQ;refine (au (d:= .lst (ws.map .int)) (xs:=ws.map .int) rfl ?_:eZ [.lst (ws.map .int)] _ _);rw [aad,wl];refine ⟨⟨by omega,by omega⟩,?_⟩;rw [show ((c:Int)).toNat=c by omega];subst hM0;refine cL (λzs ρ M'=>∃(n k:Nat) (ds:List cj) (o1 o2:Option Dt),zs=dU k n/\k+n=c/\ds.length=k/\uU kd aP (ws.map λw=>aw w ws.sum) ds/\(∀d∈ds,vJ cq d.2.1)/\M'=M++[MO.lst (ds.map eO)]/\ρ=[some (.str kd),some (.lst (xs.map Dt.int)),some (.int aP),some (.bl cq),some (.loc M.length),some (.lst (ws.map .int)),o1,o2]) (λx zs ρ M' hj fH=>?_) (λρ M' hj=>?_) _ _ _ ⟨c,0,[],none,none,by simp,by simp,rfl,⟨λ_ z=>(nomatch z),λ_=>⟨λ_ z=>(nomatch z),rfl⟩,λ_ _ z=>(nomatch z)⟩,λ_ z=>(nomatch z),rfl,rfl⟩
  ·obtain ⟨n,k,ds,o1,o2,ex,Xa,hl,hd,hp,rfl,rfl⟩:=hj;obtain ⟨m,rfl,rfl,rfl⟩:=cE ex;have k6:(k:Int)<6:=by omega
   have kx:5*k+3<xs.length:=by omega
   have kw:k<ws.length:=by omega
   have QI:(M++[MO.lst (ds.map eO)])[M.length]? =some (.lst (ds.map eO)):=by simp
   have setM:∀y:cj,(M++[MO.lst (ds.map eO)]).set M.length (.lst (ds.map eO++[eO y]))=M++[.lst ((ds++[y]).map eO)]:=λy=>by simp
   have lt:(ds.map eO).length<sizeLine:=by rw [aad,hl];exact aaK (show k<=12 by omega) (by decide)
   have e5:5*(k:Int)+3=((5*k+3:Nat):Int):=by omega
   have e50:5*(k:Int)=((5*k:Nat):Int):=by omega
   have b5:iw (5:Int):=bg (k:=10) (by decide);have bk:iw (k:Int):=bg (k:=10) (by omega);walk_at "vc";refine ⟨⟨b5,bk⟩,?_⟩;dsimp only [yi];rw [e5];refine (Η (d:= .lst (xs.map .int)) rfl (fK kx) ?_:dF (.lst (xs.map .int)) (.int ((5*k+3:Nat):Int)) _ _);refine ⟨by omega,⟨b5,bk⟩,5*k,by rw [e50],⟨b5,bk⟩,xs.map Dt.int,5*k+3,rfl,by rw [<-e5],?_⟩;rw [<-ab6,<-ab5];refine cT (gc _) ?_;refine ⟨(xs.drop (5*k)).take (5*k+3-5*k),cq,rfl,by rw [abT,abp];omega,λy hy=>hx y (List.mem_of_mem_drop (List.mem_of_mem_take hy)),λp pp=>⟨by show 2<=sizeLine;decide,?_⟩⟩;have ZQ:=pp.red.pos;have Lv:aH (xs[5*k+3]%aP) p aP=true:=MB (aaP _ (by omega)) (aaL _ (by omega)) pp.fit;refine ⟨λρ M2=>M2=M++[MO.lst (ds.map eO)]/\∃d:cj,(aH d.1 d.2.1 aP=true/\0<d.2.1.2/\(kd="chance"->d.2.2=[aw ws[k] ws.sum])/\(kd≠"chance"->d.2.2=[])/\vJ cq d.2.1)/\ρ=[some (.str kd),some (.lst (xs.map Dt.int)),some (.int aP),some (.bl cq),some (.loc M.length),some (.lst (ws.map .int)),some (.int (k:Int)),some (eO d)],⟨λhc=>?_,λhc=>?_⟩,?_⟩
   ·have hc:kd="chance":=of_decide_eq_true hc;walk_at "vc";refine (Η (d:= .lst (ws.map .int)) rfl (fK kw) ?_:dF (.lst (ws.map .int)) (.int (k:Int)) _ _);exact ⟨ws,rfl,⟨_,_,rfl⟩,_,_,rfl,Wl,bS,(by show 1<=sizeLine;decide),⟨by simp,by show 3<=sizeLine;decide⟩,rfl,(xs[5*k+3]%aP,p,[aw ws[k] ws.sum]),⟨Lv,ZQ,λ_=>rfl,λz=>absurd hc z,pp⟩,rfl⟩
   ·have hc:kd≠"chance":=of_decide_eq_false hc;exact ⟨rfl,(xs[5*k+3]%aP,p,[]),⟨Lv,ZQ,λz=>absurd z hc,λ_=>rfl,pp⟩,rfl⟩
   ·rintro ρ2 M2 ⟨rfl,d,⟨d1,d2,d3,d4,d5⟩,rfl⟩;refine ⟨⟨M.length,_,rfl,QI⟩,M.length,_,_,rfl,rfl,QI,lt,?_⟩;rw [setM d];refine fH _ _ ⟨m,k+1,ds++[d],_,_,by simp,by omega,by simp [hl],hd.more d1 d2 (by rw [cl];omega) (λz=>?_) d4,λy hy=>?_,rfl,rfl⟩
    ·rw [d3 z];simp [hl]
    ·rcases aaN.mp hy with z|z
     ·exact hp y z
     ·rw [aa6.mp z];exact d5
  ·obtain ⟨n,k,ds,o1,o2,ex,Xa,hl,hd,hp,rfl,rfl⟩:=hj;have hn:n=0:=by have:=congrArg List.length ex;unfold dU at this;simpa using this.symm
   refine h ds (by omega) ⟨⟨hd.good OJ (by omega) (by omega) (by rw [cl];omega) cc1 cc2,λk' mS e hk d LX=>by cases e;exact hd.VR (KQ hk) d LX⟩,λp e=>(nomatch e),λk' mS e d LX=>by cases e;exact hp d LX⟩
theorem Qy{n:Int}:∃kd:Str,nE [Dt.str "one",Dt.str "other",Dt.str "chance",Dt.str "end",Dt.str "one",Dt.str "other",Dt.str "chance",Dt.str "chance"] (n%8)=some (.str kd)/\(Β kd=true\/kd="chance"\/kd="end"):=by
 have:n%8=0\/n%8=1\/n%8=2\/n%8=3\/n%8=4\/n%8=5\/n%8=6\/n%8=7:=by omega
 rcases this with e|e|e|e|e|e|e|e <;> rw [e]
 ·exact ⟨_,a_,.inl (by decide)⟩
 ·exact ⟨_,Κ (j:=1) rfl,.inl (by decide)⟩
 ·exact ⟨_,Κ (j:=2) rfl,.inr (.inl rfl)⟩
 ·exact ⟨_,Κ (j:=3) rfl,.inr (.inr rfl)⟩
 ·exact ⟨_,Κ (j:=4) rfl,.inl (by decide)⟩
 ·exact ⟨_,Κ (j:=5) rfl,.inl (by decide)⟩
 ·exact ⟨_,Κ (j:=6) rfl,.inr (.inl rfl)⟩
 ·exact ⟨_,Κ (j:=7) rfl,.inr (.inl rfl)⟩
theorem Q9{n:Int}:∃m:Int,nE [Dt.int 4,Dt.int 4,Dt.int 4,Dt.int 4,Dt.int 4,Dt.int 4,Dt.int 6,Dt.int 12] (n%8)=some (.int m)/\1<=m/\m<=12/\(n%8=5->m=4):=by
 have:n%8=0\/n%8=1\/n%8=2\/n%8=3\/n%8=4\/n%8=5\/n%8=6\/n%8=7:=by omega
 rcases this with e|e|e|e|e|e|e|e <;> rw [e]
 ·exact ⟨_,a_,by decide,by decide,by decide⟩
 ·exact ⟨_,Κ (j:=1) rfl,by decide,by decide,by decide⟩
 ·exact ⟨_,Κ (j:=2) rfl,by decide,by decide,by decide⟩
 ·exact ⟨_,Κ (j:=3) rfl,by decide,by decide,by decide⟩
 ·exact ⟨_,Κ (j:=4) rfl,by decide,by decide,by decide⟩
 ·exact ⟨_,Κ (j:=5) rfl,by decide,by decide,by decide⟩
 ·exact ⟨_,Κ (j:=6) rfl,by decide,by decide,by decide⟩
 ·exact ⟨_,Κ (j:=7) rfl,by decide,by decide,by decide⟩
theorem VU{n:Int}:∃m:Int,nE [Dt.int 10,Dt.int 10,Dt.int 10,Dt.int 10,Dt.int 1,Dt.int 1000,Dt.int 10,Dt.int 10] (n%8)=some (.int m)/\1<=m/\m<=1000:=by
 have:n%8=0\/n%8=1\/n%8=2\/n%8=3\/n%8=4\/n%8=5\/n%8=6\/n%8=7:=by omega
 rcases this with e|e|e|e|e|e|e|e <;> rw [e]
 ·exact ⟨_,a_,by decide,by decide⟩
 ·exact ⟨_,Κ (j:=1) rfl,by decide,by decide⟩
 ·exact ⟨_,Κ (j:=2) rfl,by decide,by decide⟩
 ·exact ⟨_,Κ (j:=3) rfl,by decide,by decide⟩
 ·exact ⟨_,Κ (j:=4) rfl,by decide,by decide⟩
 ·exact ⟨_,Κ (j:=5) rfl,by decide,by decide⟩
 ·exact ⟨_,Κ (j:=6) rfl,by decide,by decide⟩
 ·exact ⟨_,Κ (j:=7) rfl,by decide,by decide⟩
def cH(k:Str)(n:Nat):Nat:=if Β k=true then n else 1
def hZ:List Rw->Nat
 |[]=>1
 |r::rs=>cH (kindOf r) (Ν r).length*hZ rs
theorem o7:∀(rs:List Rw) (r:Rw),hZ (rs++[r])=hZ rs*cH (kindOf r) (Ν r).length
 |[],r=>by show cH _ _*1=1*_;omega
 |a::rs,r=>by show cH _ _*hZ (rs++[r])=cH _ _*hZ rs*_;rw [o7 rs r,Nat.mul_assoc]
theorem Ml{a c r rm:Int}(ha:0<=a)(h:c*r<=rm)(l:a*rm<=30):a*c*r<=30:=by rw [ab4];exact abf (aan h ha) l
structure LF(ε:Fr)(γ:List Rw)(cq:Bool):Prop where
 sh:aT ε=true
 n1:1<=γ.length
 Ax:γ.length<=12
 n4:cq=true->γ.length<=4
 row:∀r∈γ,Tg cq γ.length r
 pr:hZ γ<=30
def BW(cq:Bool)(aP:Int):List Int:=if cq=true then [2*10^(30:Int).toNat+1,10^(6:Int).toNat,1,aP,150000] else [19,4,1,aP,4]
theorem Sl{cq:Bool}{aP:Int}(h1:1<=aP)(h2:aP<=12):IC (BW cq aP):=by
 have U':aP<=2*10^30+1:=abf h2 (by decide);cases cq with
 |true=>
  refine ⟨rfl,λs hs=>?_⟩;have hs:s∈[2*10^(30:Int).toNat+1,10^(6:Int).toNat,1,aP,150000]:=hs;simp only [List.mem_cons,List.not_mem_nil,or_false] at hs;rcases hs with e|e|e|e|e
  ·rw [e];decide
  ·rw [e];decide
  ·rw [e];decide
  ·rw [e];exact ⟨by omega,U'⟩
  ·rw [e];decide
 |false=>
  refine ⟨rfl,λs hs=>?_⟩;have hs:s∈[19,4,1,aP,4]:=hs;simp only [List.mem_cons,List.not_mem_nil,or_false] at hs;rcases hs with e|e|e|e|e
  ·rw [e];decide
  ·rw [e];decide
  ·rw [e];decide
  ·rw [e];exact ⟨by omega,U'⟩
  ·rw [e];decide
theorem T3{n:Int}:∃r:Int,nE [Dt.int 30,Dt.int 30,Dt.int 30,Dt.int 30,Dt.int 30,Dt.int 12,Dt.int 24,Dt.int 12] (n%8)=some (.int r)/\1<=r/\r<=30:=by
 have:n%8=0\/n%8=1\/n%8=2\/n%8=3\/n%8=4\/n%8=5\/n%8=6\/n%8=7:=by omega
 rcases this with e|e|e|e|e|e|e|e <;> rw [e]
 ·exact ⟨_,a_,by decide,by decide⟩
 ·exact ⟨_,Κ (j:=1) rfl,by decide,by decide⟩
 ·exact ⟨_,Κ (j:=2) rfl,by decide,by decide⟩
 ·exact ⟨_,Κ (j:=3) rfl,by decide,by decide⟩
 ·exact ⟨_,Κ (j:=4) rfl,by decide,by decide⟩
 ·exact ⟨_,Κ (j:=5) rfl,by decide,by decide⟩
 ·exact ⟨_,Κ (j:=6) rfl,by decide,by decide⟩
 ·exact ⟨_,Κ (j:=7) rfl,by decide,by decide⟩
def DU:DF:=λas M q _=>∃ns:List Int,as=[.iY ns]/\ns.length<=63/\∀ε γ cq,LF ε γ cq->q (.tup [Ξ ε,.loc M.length]) (M++[.lst (γ.map aU)])
theorem aE:Ε ["_law_script","_law_begun","_law_how","_law_places","_law_many","_law_share","_law_sizes","_law_rows","_law_room","_law_k","_law_number","_law_kind","_law_count","_law_xs"] ["_law_script"] (τ oQ):= .of rfl
theorem xZ{f:Addr}{fd:FuncData}(F:cI K "_law_floor" "_law_floor" oQ f fd)(E:Ev K mg w Cm){Ba:Addr}{A7:FuncData}(f_:av P w K mg base 1 "_law_at" ["_law_script","_law_k"] Wx Ba A7){bt:Addr}{bu:FuncData}(ag:av P w K mg base 1 "_law_by_digits" ["_law_number"] EZ bt bu){y9:Addr}{zA:FuncData}(i4:av P w K mg base 2 "_law_share_of" ["_law_number","_law_low"] zd y9 zA){wI:Addr}{xg:FuncData}(iV:av P w K mg base 2 "_law_pay" ["_law_xs","_law_far"] Hc wI xg){BY:Addr}{Ce:FuncData}(hI:av P w K mg base 2 "_law_things" ["_law_number","_law_k","_law_many","_law_sizes"] D4 BY Ce){EM:Addr}{Gg:FuncData}(l9:av P w K mg base 4 "_law_doors" ["_law_kind","_law_xs","_law_many","_law_far"] CT EM Gg):aq P w K mg base (bV P w) 5 f fd ["_law_script"] (cC K DU):=by
 refine F.de aE (λds M q x h=>?_) (λaV A outer s H E' hr=>⟨_,(θ (Γ 1 aE.nd (ae f_ hr ξ (Ρ (jv 0) (ι χ η (hs:=dt)))))
   (θ (Γ 2 aE.nd (bL (jv 1) χ))
   (θ (h9 (Γ 3 aE.nd (r6 (bB (ae ag hr ξ (Ρ (jv 1) η))) (iG (jv 1) χ) (bL (aL (jv 1) χ) χ))))
   (θ (Γ 4 aE.nd (cG χ (bL (jv 3) (Μ (eE 3 (d:= .lst [.int 4,.int 4,.int 4,.int 4,.int 4,.int 4,.int 6,.int 12]) (by rfl)) (jv 2)))))
   (θ (Γ 5 aE.nd (ae i4 hr ξ (ι (ae f_ hr ξ (Ρ (jv 0) (ι χ η (hs:=dt)))) (ι (Μ (eE 3 (d:= .lst [.int 10,.int 10,.int 10,.int 10,.int 1,.int 1000,.int 10,.int 10]) (by rfl)) (jv 2)) η (hs:=aQ)) (hs:=aG))))
   (θ (Γ 6 aE.nd (Μ (lq (ι (lq (ι χ (ι χ (ι χ (Ρ (jv 4) (ι χ η (hs:=dt))) (hs:=dt)) (hs:=dt)) (hs:=dt))) (ι (lq (ι (cG (aL χ (iQ χ χ)) χ) (ι (iQ χ χ) (ι χ (Ρ (jv 4) (ι χ η (hs:=dt))) (hs:=dt)) (hs:=bY)) (hs:=bY))) η))) (ND E.uN (ι (KD hr (jv 2) χ) η (hs:=CC)))))
   (θ (Γ 7 aE.nd (kq η))
   (θ (Γ 8 aE.nd (Μ (eE 3 (d:= .lst [.int 30,.int 30,.int 30,.int 30,.int 30,.int 12,.int 24,.int 12]) (by rfl)) (jv 2)))
   (θ (ie (cR E.bW (Ρ (jv 4) η)) (ax (i:=9) aE.nd rfl (Or.inl rfl)) aS (θ (Γ 10 aE.nd (ae f_ hr ξ (Ρ (jv 0) (ι (cG χ (jv 9)) η (hs:=bY)))))
   (θ (Γ 11 aE.nd (Μ (eE 3 (d:= .lst [.str "one",.str "other",.str "chance",.str "end",.str "one",.str "other",.str "chance",.str "chance"]) (by rfl)) (bL (jv 10) χ)))
   (θ (h9 (Γ 12 aE.nd (cG χ (bL (r6 (bB (ae ag hr ξ (Ρ (jv 10) η))) (iG (jv 10) χ) (bL (aL (jv 10) χ) χ)) χ))))
   (θ (h9 (aD (JW.jt (jB (d9 hr (jv 11) jx) (i9 (d9 hr (jv 11) jx)))) (θ (Γ 12 aE.nd (Nh E.An (Ρ (jv 12) (Ρ (jv 8) η))))
   (μ (Γ 8 aE.nd (iG (jv 8) (jv 12))))) Υ))
   (μ (aD (d9 hr (jv 11) jx) (μ (eh (fC (jv 7) (ι (fv (Ρ (jv 11) (ι (ae iV hr ξ (ι (cc (ae hI hr ξ (Ρ (jv 10) (Ρ (jv 9) (ι χ (Ρ (jv 6) η) (hs:=dt)))))) (ι (KD hr (jv 2) χ) η (hs:=CC)) (hs:=aG))) η (hs:=aG)))) η (hs:=DJ))))) (θ (Γ 13 aE.nd (cc (ae hI hr ξ (Ρ (jv 10) (Ρ (jv 9) (ι (aL χ (jv 12)) (Ρ (jv 6) η) (hs:=bY)))))))
   (μ (eh (fC (jv 7) (ι (fv (Ρ (jv 11) (ι (cc (ae l9 hr ξ (Ρ (jv 11) (Ρ (jv 13) (Ρ (jv 4) (ι (KD hr (jv 2) χ) η (hs:=CC))))))) η (hs:=aG)))) η (hs:=DJ)))))))))))))
   (μ (Ζ (fv (Ρ (jv 5) (Ρ (jv 7) η)))))))))))))),λds M q x h=>?_⟩)
 ·obtain ⟨ns,rfl,_⟩:=h;rfl
 ·obtain ⟨ns,rfl,nl,h⟩:=h;refine ⟨ns,0,rfl,nl,by decide,by decide,λb0 Kt=>⟨by decide,?_⟩⟩;refine ⟨λρ M'=>M'=M/\∃t:Int,ρ=[some (.iY ns),some (.int b0),some (.int (b0%8)),some (.int t),none,none,none,none,none,none,none,none,none,none],?_,?_⟩
  ·refine ⟨b0,rfl,λb=>⟨λ_=>?_,λ_=>?_⟩⟩
   ·exact ⟨⟨by decide,bg (k:=10) (by decide)⟩,rfl,_,rfl⟩
   ·exact ⟨⟨oX Kt,bg (k:=20) (by decide)⟩,by decide,rfl,_,rfl⟩
  rintro ρ M' ⟨rfl,t,rfl⟩;obtain ⟨mx,emx,mx1,afA,mx5⟩:=Q9 (n:=b0);obtain ⟨low,Xk,W3,Wa⟩:=VU (n:=b0);have t0:=aaP t (show mx≠0 by omega);have t1:=aaL t (show 0<mx by omega);walk_at "vc";refine (Η rfl emx ?_:dF (.lst [Dt.int 4,Dt.int 4,Dt.int 4,Dt.int 4,Dt.int 4,Dt.int 4,Dt.int 6,Dt.int 12]) (.int (b0%8)) _ _);refine ⟨by omega,?_⟩;dsimp only [yi];obtain ⟨sz,hz,z1,z12,z4⟩:∃sz:Nat,1+t%mx=(sz:Int)/\1<=sz/\sz<=12/\(b0%8=5->sz<=4):=⟨(1+t%mx).toNat,by omega,by omega,by omega,λz=>by have:=mx5 z;omega⟩;rw [hz];refine ⟨ns,1,rfl,nl,by decide,by decide,λb1 ZS=>?_⟩;refine (Η rfl Xk ?_:dF (.lst [Dt.int 10,Dt.int 10,Dt.int 10,Dt.int 10,Dt.int 1,Dt.int 1000,Dt.int 10,Dt.int 10]) (.int (b0%8)) _ _);refine ⟨b1,low,rfl,ZS,W3,Wa,λε hs=>?_⟩;obtain ⟨cq,K9⟩:∃cq,cq=decide (b0%8=5):=⟨_,rfl⟩;have XX:iw ((10:Int)^(30:Int).toNat):=bg (k:=110) (by decide);have sl:∀{z:Nat},z<=1000->z<=sizeLine:=λh=>aaq h (by decide);refine ⟨sl (by decide),XR,⟨bg (k:=4) (by decide),XX⟩,p6,sl (by decide),sl (by decide),?_⟩;have rd:∀(M':Ms) (q:DQ),q (Ay (BW cq sz)) M'->Ci (.int (b0%8)) (.int 5) M' λd M1=>zZ [d] M1 λd2 M2=>dF (.lst [.lst [.int 19,.int 4,.int 1,.int (sz:Int),.int 4],.lst [.int (2*10^(30:Int).toNat+1),.int (10^(6:Int).toNat),.int 1,.int (sz:Int),.int 150000]]) d2 M2 q:=λM' q hq=>by
   show zZ [.bl (decide (b0%8=5))] M' λd2 M2=>dF (.lst [Ay (BW false sz),Ay (BW true sz)]) d2 M2 q;rw [<-K9];dsimp only [zZ];cases cq with
   |true=>exact Η (d:= .lst [Ay (BW false sz),Ay (BW true sz)]) rfl (Κ (j:=1) rfl) hq
   |false=>exact Η (d:= .lst [Ay (BW false sz),Ay (BW true sz)]) rfl a_ hq
  refine rd _ _ ?_;have n4:cq=true->sz<=4:=λz=>z4 (of_decide_eq_true (by rw [<-K9];exact z));obtain ⟨Zk,erm,rm1,rm2⟩:=T3 (n:=b0);refine ⟨by decide,?_⟩;refine (Η rfl erm ?_:dF (.lst [Dt.int 30,Dt.int 30,Dt.int 30,Dt.int 30,Dt.int 30,Dt.int 12,Dt.int 24,Dt.int 12]) (.int (b0%8)) _ _);refine ⟨⟨by omega,by omega⟩,?_⟩;rw [show ((sz:Int)).toNat=sz by omega];refine cL (λzs ρ M2=>∃(n k:Nat) (rs:List Rw) (rm:Int) (o1 o2 o3 o4 o5:Option Dt),(1<=rm/\rm<=30/\(hZ rs:Int)*rm<=30)/\zs=dU k n/\k+n=sz/\rs.length=k/\(∀r∈rs,Tg cq sz r)/\M2=M'++[MO.lst (rs.map aU)]/\ρ=[some (.iY ns),some (.int b0),some (.int (b0%8)),some (.int t),some (.int (sz:Int)),some (Ξ ε),some (Ay (BW cq sz)),some (.loc M'.length),some (.int rm),o1,o2,o3,o4,o5]) (λx zs ρ M2 hj fH=>?_) (λρ M2 hj=>?_) _ _ _ ⟨sz,0,[],Zk,none,none,none,none,none,⟨rm1,rm2,by show (1:Int)*Zk<=30;omega⟩,by simp,by simp,rfl,λ_ z=>(nomatch z),rfl,rfl⟩
  ·obtain ⟨n,k,rs,rm,o1,o2,o3,o4,o5,⟨rl,rh,rp⟩,ex,Xa,hl,hd,rfl,rfl⟩:=hj;obtain ⟨m,rfl,rfl,rfl⟩:=cE ex;have k12:(k:Int)<12:=by omega
   have QI:(M'++[MO.lst (rs.map aU)])[M'.length]? =some (.lst (rs.map aU)):=by simp
   have setM:∀y:Rw,(M'++[MO.lst (rs.map aU)]).set M'.length (.lst (rs.map aU++[aU y]))=M'++[.lst ((rs++[y]).map aU)]:=λy=>by simp
   have lt:(rs.map aU).length<sizeLine:=by rw [aad,hl];exact aaK (show k<=12 by omega) (by decide)
   have first:∃k' xs',Dt.loc M'.length= .loc k'/\(M'++[MO.lst (rs.map aU)])[k']? =some (.lst xs'):=⟨_,_,rfl,QI⟩
   have more:∀y,Tg cq sz y->∀r∈rs++[y],Tg cq sz r:=λy hy r hr=>by
    rcases aaN.mp hr with hr|hr
    ·exact hd r hr
    ·rw [aa6.mp hr];exact hy
   have so:=Sl (cq:=cq) (aP:=(sz:Int)) (by omega) (by omega);refine ⟨ns,2+(k:Int),rfl,nl,by omega,by omega,λf hf=>⟨by decide,?_⟩⟩;obtain ⟨kd,ek,OJ⟩:=Qy (n:=f);refine Η rfl ek ?_;refine ⟨λρ M2=>M2=M'++[MO.lst (rs.map aU)]/\∃c:Nat,(1<=c/\c<=6)/\ρ=[some (.iY ns),some (.int b0),some (.int (b0%8)),some (.int t),some (.int (sz:Int)),some (Ξ ε),some (Ay (BW cq sz)),some (.loc M'.length),some (.int rm),some (.int (k:Int)),some (.int f),some (.str kd),some (.int (c:Int)),o5],?_,?_⟩
   ·have cut:∀t:Int,∃c:Nat,(1<=c/\c<=6)/\1+t%6=(c:Int):=λt=>⟨(1+t%6).toNat,by omega,by omega⟩;have Ss:∀(t:Int) (ρ:List (Option Dt)),(∃c:Nat,(1<=c/\c<=6)/\ρ++[some (.int (1+t%6)),o5]=ρ++[some (.int (c:Int)),o5]):=λt ρ=>by obtain ⟨c,h1,h2⟩:=cut t;exact ⟨c,h1,by rw [h2]⟩
    refine ⟨f,rfl,λb=>⟨λ_=>?_,λ_=>?_⟩⟩
    ·exact ⟨⟨by decide,bg (k:=10) (by decide)⟩,by decide,rfl,Ss (f/8) [some (.iY ns),some (.int b0),some (.int (b0%8)),some (.int t),some (.int (sz:Int)),some (Ξ ε),some (Ay (BW cq sz)),some (.loc M'.length),some (.int rm),some (.int (k:Int)),some (.int f),some (.str kd)]⟩
    ·exact ⟨⟨oX hf,bg (k:=20) (by decide)⟩,by decide,by decide,rfl,Ss (f*48271%65537) [some (.iY ns),some (.int b0),some (.int (b0%8)),some (.int t),some (.int (sz:Int)),some (Ξ ε),some (Ay (BW cq sz)),some (.loc M'.length),some (.int rm),some (.int (k:Int)),some (.int f),some (.str kd)]⟩
   rintro ρ2 M2 ⟨rfl,c0,⟨Z3,c06⟩,rfl⟩;refine ⟨λρ M2=>M2=M'++[MO.lst (rs.map aU)]/\∃(c:Nat) (rm:Int),(1<=c/\c<=6)/\(1<=rm/\rm<=30/\(hZ rs:Int)*(cH kd c:Int)*rm<=30)/\ρ=[some (.iY ns),some (.int b0),some (.int (b0%8)),some (.int t),some (.int (sz:Int)),some (Ξ ε),some (Ay (BW cq sz)),some (.loc M'.length),some (.int rm),some (.int (k:Int)),some (.int f),some (.str kd),some (.int (c:Int)),o5],?_,?_⟩
   ·have yes:∃(c:Nat) (r':Int),(1<=c/\c<=6)/\(1<=r'/\r'<=30)/\(if rm<(c0:Int) then rm else (c0:Int))=(c:Int)/\rm/(if rm<(c0:Int) then rm else (c0:Int))=r'/\(c:Int)*r'<=rm:=by
     by_cases y:rm<(c0:Int)
     ·rw [if_pos y];exact ⟨rm.toNat,1,by omega,by decide,by omega,Int.ediv_self (by omega),by omega⟩
     ·rw [if_neg y];have a1:1<=rm/(c0:Int):=(Int.le_ediv_iff_mul_le (by omega)).mpr (by omega);have a2:rm/(c0:Int)<=rm:=abU _ (by omega);exact ⟨c0,_,by omega,⟨a1,by omega⟩,rfl,rfl,Int.mul_ediv_self_le (by omega)⟩
    obtain ⟨c',r',zb,g7,ec,er,Z_⟩:=yes;have yD:Β kd=true->1<=r'/\r'<=30/\(hZ rs:Int)*(cH kd c':Int)*r'<=30:=λy=>⟨g7.1,g7.2,by unfold cH;rw [if_pos y];exact Ml (Int.natCast_nonneg _) Z_ rp⟩;rw [ec] at er;walk_at "vc";refine ⟨λz=>⟨λ_=>?_,λy=>(nomatch y)⟩,λz=>⟨λz'=>?_,λz'=>?_⟩⟩
    ·have z:kd="one":=of_decide_eq_true z;dsimp only [Ei];rw [ec];refine ⟨⟨by omega,bg (k:=4) (by omega)⟩,rfl,c',r',zb,yD (by rw [z];decide),?_⟩;rw [<-er]
    ·have z':kd="other":=of_decide_eq_true z';dsimp only [Ei];rw [ec];refine ⟨⟨by omega,bg (k:=4) (by omega)⟩,rfl,c',r',zb,yD (by rw [z'];decide),?_⟩;rw [<-er]
    ·have z:kd≠"one":=of_decide_eq_false z;have z':kd≠"other":=of_decide_eq_false z';refine ⟨rfl,c0,rm,⟨Z3,c06⟩,⟨rl,rh,?_⟩,rfl⟩;have:Β kd=false:=by unfold Β;rw [beq_eq_false_iff_ne.mpr z,beq_eq_false_iff_ne.mpr z'];rfl
     unfold cH;rw [if_neg (by rw [this];decide)];show (hZ rs:Int)*1*rm<=30;rw [Int.mul_one];exact rp
   rintro ρ2 M2 ⟨rfl,c,rm,⟨c1,c6⟩,⟨rl,rh,rp⟩,rfl⟩;refine ⟨λz=>?_,λz=>?_⟩
   ·have z:kd="end":=of_decide_eq_true z;refine ⟨first,f,(k:Int),3,BW cq sz,rfl,hf,by omega,by omega,by decide,so,λxs xl hx=>cT (gc _) ?_⟩;refine ⟨xs,decide (b0%8=5),rfl,by omega,hx,λp pp=>⟨by show 2<=sizeLine;decide,M'.length,_,_,rfl,rfl,QI,lt,?_⟩⟩;rw [<-K9] at pp;have e:Dt.tup [.str kd,Ξ p]=aU (.fin p):=by rw [z];rfl
    rw [e,setM (.fin p)];exact fH _ _ ⟨m,k+1,rs++[Rw.fin p],_,_,_,_,_,_,⟨rl,rh,by rw [o7];rw [z] at rp;rw [Int.natCast_mul];exact rp⟩,by simp,by omega,by simp [hl],more (.fin p) ⟨⟨⟨pp.red.pos,pp.fit⟩,λ_ _ e=>nomatch e⟩,λ_ e=>by cases e;exact pp,λ_ _ e=>nomatch e⟩,rfl,rfl⟩
   ·have z:kd≠"end":=of_decide_eq_false z;have OJ:Β kd=true\/kd="chance":=by
     rcases OJ with hk|hk|hk
     ·exact .inl hk
     ·exact .inr hk
     ·exact absurd hk z
    refine ⟨⟨bg (k:=10) (by decide),bg (k:=10) (by omega)⟩,f,(k:Int),5*c,BW cq sz,by rw [Int.natCast_mul];rfl,hf,by omega,by omega,by omega,so,λxs xl hx=>cT (gc _) ?_⟩;refine ⟨first,kd,xs,sz,decide (b0%8=5),c,rfl,xl,c1,c6,hx,by omega,by omega,OJ,λds dl ZX=>cT (hV ds) ?_⟩;rw [<-K9] at ZX;refine ⟨by show 2<=sizeLine;decide,M'.length,_,_,rfl,rfl,QI,lt,?_⟩;exact fH _ _ ⟨m,k+1,rs++[Rw.υ kd ds],_,_,_,_,_,_,⟨rl,rh,by rw [o7,Int.natCast_mul];rw [<-dl] at rp;exact rp⟩,by simp,by omega,by simp [hl],more (.υ kd ds) ZX,setM (.υ kd ds),rfl⟩
  ·obtain ⟨n,k,rs,rm,o1,o2,o3,o4,o5,⟨rl,rh,rp⟩,ex,Xa,hl,hd,rfl,rfl⟩:=hj;have hn:n=0:=by have:=congrArg List.length ex;unfold dU at this;simpa using this.symm
   have e:rs.length=sz:=by omega
   exact ⟨by show 2<=sizeLine;decide,h ε rs cq ⟨hs,by omega,by omega,λz=>by have:=n4 z;omega,by rw [e];exact hd,by have:=aan rl (Int.natCast_nonneg (hZ rs));omega⟩⟩
def Kg:DF:=λas M q _=>∃γ:List Rw,as=[.lst (γ.map aU)]/\γ.length<=12/\(∀r∈γ,fP r)/\q (.lst (γ.map aU)) M
theorem uJ:Ε ["_law_rows"] ["_law_rows"] (τ qu):= .of rfl
theorem BF{f:Addr}{fd:FuncData}(F:cI K "_law_copy" "_law_copy" qu f fd)(E:Ev K mg w Cm):aq P w K mg base (bV P w) 1 f fd ["_law_rows"] (cC K Kg):=by
 refine F.de uJ (λds M q x h=>?_) (λaV A outer s H E' hr=>⟨_,(μ (Ζ (Dq (ys:=[]) (ak:=[]) (.of uJ rfl rfl rfl) (bR (jv 0)) (λC s H fp=>(fv (Ρ (jv 0) (ι (r6 (d9 hr (jv 0) jx) (jv 1) (cc (wb E.kn (Ρ (jv 1) η)))) η))))))),λds M q x h=>?_⟩)
 ·obtain ⟨γ,rfl,_⟩:=h;rfl
 ·obtain ⟨γ,rfl,lF,ro,h⟩:=h;walk_at "vc";dsimp only [AR,gC];walk_at "vc";refine ⟨by rw [aad];exact aaq (show _<=12 by omega) (by decide),?_⟩;refine oh trivial (λx=>x) _ _ (λx hx qq hq=>?_) ?_
  ·obtain ⟨r,g7,rfl⟩:=aaj.mp hx;have rr:=ro r g7;cases r with
   |fin p=>
    refine ⟨λ_=>?_,λz=>(nomatch z)⟩;exact ⟨by show 2<=sizeLine;decide,hq⟩
   |υ k ds=>
    refine ⟨λz=>absurd (of_decide_eq_true z) rr.1,λ_=>?_⟩;refine KU (hV ds) ?_;exact ⟨by show 2<=sizeLine;decide,hq⟩
  ·rw [aaO,List.map_id'];exact h
def xF(cq:Bool):Int:=if cq=true then 10^36 else 12
def cF(cq:Bool):Int:=if cq=true then 10^30 else 9
theorem pb{b:Int}{m n:Nat}(hb:1<=b)(hmn:m<=n):b^m<=b^n:=by obtain ⟨c,rfl⟩:=Nat.exists_eq_add_of_le hmn;rw [Int.pow_add];have p:0<b^c:=Int.pow_pos (by omega);have q:0<=b^m:=abB (by omega);have:=aan (show 1<=b^c by omega) q;omega
theorem rE{p:Fr}(h:bx p=true)(p0:0<p.2):d7 p (10^30)/\p.2<=1000000:=by
 unfold bx at h;rw [aar,decide_eq_true_iff,decide_eq_true_iff] at h;have h1:=h.1;have:10^30<=p.2*10^30:=by have:=aaA (show 1<=p.2 by omega) (show (0:Int)<=10^30 by decide);omega
 unfold d7;split at h1 <;> exact ⟨⟨by omega,by omega⟩,h.2⟩
theorem vJ.nr{cq:Bool}{p:Fr}{E:Int}(h:vJ cq p)(he:p.2∣E):Nr E (cF cq) p:=by
 refine ⟨h.red,zL he,?_⟩;cases cq with
 |true=>exact (rE h.fit h.red.pos).1
 |false=>exact (h.near rfl).2
theorem LF.fw{ε:Fr}{γ:List Rw}{cq:Bool}(lf:LF ε γ cq):FW ε γ (xF cq) (cF cq):=by
 refine ⟨⟨lf.sh,lf.Ax,λr hr=>(lf.row r hr).1.1⟩,lf.n1,λk ds hm hk=>(lf.row _ hm).1.2 k ds rfl hk,λk ds hm=>?_,λp hm=>?_,?_,?_,?_⟩
 ·have pp:=(lf.row _ hm).2.2 k ds rfl;cases cq with
  |true=>
   have l6:ds.length<=6:=(et (ε:=ε) (γ:=γ) ⟨lf.sh,lf.Ax,λr hr=>(lf.row r hr).1.1⟩ hm).l6;have all:∀a∈ds.map (·.2.1.2),0<a/\a<=1000000:=λa ha=>by obtain ⟨d,hd,rfl⟩:=aaj.mp ha;exact ⟨(pp d hd).red.pos,(rE (pp d hd).fit (pp d hd).red.pos).2⟩
   refine ⟨pN (ds.map (·.2.1.2)),sN λa ha=>(all a ha).1,?_,λd hd=>(pp d hd).nr (zQ (aaj.mpr ⟨d,hd,rfl⟩))⟩;have:=CD all;rw [aad] at this;refine abf this ?_;exact abf (pb (by decide) l6) (by decide)
  |false=>exact ⟨12,by decide,by decide,λd hd=>(pp d hd).nr ((pp d hd).near rfl).1⟩
 ·have pp:=(lf.row _ hm).2.1 p rfl;cases cq with
  |true=>exact ⟨p.2,pp.red.pos,abf (rE pp.fit pp.red.pos).2 (by decide),pp.nr (Int.dvd_refl _)⟩
  |false=>exact ⟨12,by decide,by decide,pp.nr (pp.near rfl).1⟩
 ·cases cq <;> decide
 ·cases cq <;> decide
 ·cases cq <;> decide
theorem LF.sz{ε:Fr}{γ:List Rw}{cq:Bool}(lf:LF ε γ cq):iC (xF cq) (cF cq)<=2^450/\(12*iC (xF cq) (cF cq))^γ.length<2^1030:=by
 cases cq with
 |true=>exact ⟨by decide,aaw (pb (by decide) (lf.n4 rfl)) (by decide)⟩
 |false=>exact ⟨by decide,aaw (pb (by decide) lf.Ax) (by decide)⟩
structure N6(γ:List Rw)(hand:Str)(p:Pl):Prop where
 nd:uX p
 len:p.length<=12
 has:∀(i:Nat) (r:Rw),γ[i]? =some r->kindOf r=hand->∃j:Nat,Λ p i=some (j:Int)/\j<(Ν r).length
 only:∀(i v:Int),Λ p i=some v->∃(j:Nat) (r:Rw),i=(j:Int)/\γ[j]? =some r/\kindOf r=hand
structure lK(γ:List Rw)(hand:Str)(n:Nat)(p:Pl):Prop where
 nd:uX p
 len:p.length<=n
 has:∀(i:Nat) (r:Rw),i<n->γ[i]? =some r->kindOf r=hand->∃j:Nat,Λ p i=some (j:Int)/\j<(Ν r).length
 only:∀(i v:Int),Λ p i=some v->∃(j:Nat) (r:Rw),i=(j:Int)/\γ[j]? =some r/\kindOf r=hand
theorem MK{p:Pl}{i v:Int}{n:Nat}(h:p.length<=n):(eJ p i v).length<=n+1:=by
 unfold eJ;split
 ·rw [aad];omega
 ·rw [aag];exact Nat.succ_le_succ h
theorem lK.put{γ:List Rw}{hand:Str}{n j:Nat}{p:Pl}{r:Rw}(h:lK γ hand n p)(hi:γ[n]? =some r)(hk:kindOf r=hand)(hj:j<(Ν r).length):lK γ hand (n+1) (eJ p n (j:Int)):=by
 refine ⟨Pf h.nd,MK h.len,λi r' il tj tm=>?_,λi v hg=>?_⟩
 ·rw [qh];by_cases e:i=n
  ·subst e;rw [hi] at tj;cases tj;exact ⟨j,by rw [if_pos rfl],hj⟩
  ·rw [if_neg (by omega)];exact h.has i r' (by omega) tj tm
 ·rw [qh] at hg;split at hg
  ·rename_i e;exact ⟨n,r,e,hi,hk⟩
  ·exact h.only i v hg
theorem lK.skip{γ:List Rw}{hand:Str}{n:Nat}{p:Pl}{r:Rw}(h:lK γ hand n p)(hi:γ[n]? =some r)(hk:kindOf r≠hand):lK γ hand (n+1) p:=by
 refine ⟨h.nd,Nat.le_succ_of_le h.len,λi r' il tj tm=>?_,h.only⟩;by_cases e:i=n
 ·subst e;rw [hi] at tj;cases tj;exact absurd tm hk
 ·exact h.has i r' (by omega) tj tm
theorem K2{r:Rw}{M:Ms}{q:DQ}(h:q (.str (kindOf r)) M):dF (aU r) (.int 0) M q:=by obtain ⟨e,er⟩:=HM (r:=r);rw [er];exact Η (xs:=[.str (kindOf r),e]) rfl a_ h
theorem J0{γ:List Rw}{i:Nat}{r:Rw}(hi:γ[i]? =some r){M:Ms}{q:DQ}(h:q (aU r) M):dF (.lst (γ.map aU)) (.int (i:Int)) M q:=Η (xs:=γ.map aU) rfl (Κ (mN hi)) h
def Jw:DF:=λas M q _=>∃(γ:List Rw) (hand:Str) (n0:Int),as=[.lst (γ.map aU),.str hand,.int n0]/\Nm n0/\γ.length<=12/\Β hand=true/\(∀k ds,Rw.υ k ds∈γ->1<=ds.length/\ds.length<=6)/\∀p,N6 γ hand p->q (.loc M.length) (M++[dP p])
theorem gA:Ε ["_law_rows","_law_hand","_law_number","_law_plan_here","_law_digits","_law_xs","_law_k"] ["_law_rows","_law_hand","_law_number"] (τ rN):= .of rfl
theorem B8{f:Addr}{fd:FuncData}(F:cI K "_law_plan" "_law_plan" rN f fd)(E:Ev K mg w Cm){bt:Addr}{bu:FuncData}(ag:av P w K mg base 1 "_law_by_digits" ["_law_number"] EZ bt bu){mF:Addr}{lM:FuncData}(d8:av P w K mg base 1 "_law_stream" ["_law_number","_law_many"] wA mF lM):aq P w K mg base (bV P w) 2 f fd ["_law_rows","_law_hand","_law_number"] (cC K Jw):=by
 refine F.de gA (λds M q x h=>?_) (λaV A outer s H E' hr=>⟨_,(θ (Γ 3 gA.nd wJ)
   (θ (Γ 4 gA.nd (ae ag hr ξ (Ρ (jv 2) η)))
   (θ (Γ 5 gA.nd (cc (ae d8 hr ξ (Ρ (jv 2) (ι (bU E.bo (Ρ (jv 0) η)) η (hs:=aG))))))
   (θ (ie (cR E.bW (ι (bU E.bo (Ρ (jv 0) η)) η (hs:=aG))) (ax (i:=6) gA.nd rfl (Or.inl rfl)) aS (μ (aD (d9 hr (Μ (Μ (jv 0) (jv 6)) χ) (jv 1)) (θ (h9 (qm hr (jv 3) (jv 6) (bL (r6 (bB (jv 4)) (jv 2) (Μ (jv 5) (jv 6))) (bU E.bo (ι (Μ (Μ (jv 0) (jv 6)) χ) η (hs:=aQ))))))
   (μ (Γ 2 gA.nd (iG (jv 2) (bU E.bo (ι (Μ (Μ (jv 0) (jv 6)) χ) η (hs:=aQ))))))) Υ)))
   (μ (Ζ (jv 3))))))),λds M q x h=>?_⟩)
 ·obtain ⟨γ,hand,n0,rfl,_⟩:=h;rfl
 ·obtain ⟨γ,hand,n0,rfl,Ur,lF,hh,hdr,h⟩:=h;refine ⟨n0,rfl,λdg=>?_⟩;walk_at "vc";refine (au (d:= .lst (γ.map aU)) (xs:=γ.map aU) rfl ?_:eZ [.lst (γ.map aU)] _ _);rw [aad];refine ⟨n0,γ.length,rfl,oX Ur,by omega,λxs xl hx=>cT (gc _) ?_⟩;refine (au (d:= .lst (γ.map aU)) (xs:=γ.map aU) rfl ?_:eZ [.lst (γ.map aU)] _ _);rw [aad];refine ⟨by omega,?_⟩;rw [show ((γ.length:Int)).toNat=γ.length by omega];refine cL (λzs ρ' M'=>∃(i m:Nat) (p:Pl) (n:Int) (o6:Option Dt),zs=dU (i:Int) m/\i+m=γ.length/\lK γ hand i p/\Nm n/\M'=M++[dP p]/\ρ'=[some (.lst (γ.map aU)),some (.str hand),some (.int n),some (.loc M.length),some (.bl dg),some (.lst (xs.map Dt.int)),o6]) (λx zs ρ' M' hj fH=>?_) (λρ' M' hj=>?_) _ _ _ ⟨0,γ.length,[],n0,none,rfl,by omega,⟨List.nodup_nil,aah _,λi r il=>absurd il (abm _),λi v hg=>(nomatch hg)⟩,Ur,rfl,rfl⟩
  ·obtain ⟨i,m,p,n,o6,ex,im,pt,hn,rfl,rfl⟩:=hj;obtain ⟨m',rfl,rfl,rfl⟩:=cE ex;have il:i<γ.length:=by omega
   have hi:γ[i]? =some γ[i]:=aaa il;generalize hr0:γ[i]=r at *
   have rm:r∈γ:=aak hi;walk_at "vc";refine J0 hi (K2 ?_);refine ⟨λz=>?_,λz=>?_⟩
   ·have z:kindOf r=hand:=of_decide_eq_true z;cases r with
    |fin p=>exact absurd (z▸hh) (by show¬Β (Str.ofString "end")=true;decide)
    |υ k ds=>
     obtain ⟨d1,d6⟩:=hdr k ds rm;have d0:(0:Int)<ds.length:=by omega
     have ln:∀(M':Ms) (q:DQ),q (.int (ds.length:Int)) M'->dF (.lst (γ.map aU)) (.int (i:Int)) M' λd1 M1=>dF d1 (.int 1) M1 λd1 M1=>eZ [d1] M1 q:=λM' q hq=>J0 hi (NN ((au (d:= .lst (ds.map eO)) (xs:=ds.map eO) rfl (by rw [aad];exact hq):eZ [.lst (ds.map eO)] _ _)));have put:∀v:Int,∃j:Nat,v%(ds.length:Int)=(j:Int)/\j<ds.length:=λv=>by have v0:=aaP v (show (ds.length:Int)≠0 by omega);have v1:=aaL v d0;exact ⟨(v%(ds.length:Int)).toNat,by omega,by omega⟩
     have fin:∀v:Int,∃k ks mS key,Dt.loc M.length= .loc k/\(M++[dP p])[k]? =some (.ef ks mS)/\Ad (.int (i:Int))=some key/\ks.length<1000/\(∃j:Nat,j<ds.length/\(M++[dP p]).set k (.ef (fL ks key) (eA ks key mS (.int (v%(ds.length:Int)))))=M++[dP (eJ p i (j:Int))]):=λv=>by obtain ⟨j,e,jl⟩:=put v;refine ⟨M.length,_,_,Sum.inl (i:Int),rfl,aI,rfl,by unfold kP;rw [List.length_map];have:=pt.len;omega,j,jl,?_⟩;rw [e,vf (v:=(j:Int)),yt,dE]
     refine ⟨λρ M2=>∃j:Nat,j<ds.length/\M2=M++[dP (eJ p i (j:Int))]/\ρ=[some (.lst (γ.map aU)),some (.str hand),some (.int n),some (.loc M.length),some (.bl dg),some (.lst (xs.map Dt.int)),some (.int (i:Int))],⟨λ_=>?_,λ_=>?_⟩,?_⟩
     ·walk_at "vc";refine ln _ _ ?_;refine ⟨d0,?_⟩;obtain ⟨k',ks,mS,key,f1,f2,f3,f4,j,jl,f5⟩:=fin n;exact ⟨k',ks,mS,key,f1,f2,f3,f4,j,jl,f5,rfl⟩
     ·have kx:i<xs.length:=by omega
      walk_at "vc";refine (Η (d:= .lst (xs.map Dt.int)) rfl (fK kx) ?_:dF (.lst (xs.map Dt.int)) (.int (i:Int)) _ _);refine ln _ _ ?_;refine ⟨d0,?_⟩;obtain ⟨k',ks,mS,key,f1,f2,f3,f4,j,jl,f5⟩:=fin xs[i];exact ⟨k',ks,mS,key,f1,f2,f3,f4,j,jl,f5,rfl⟩
     ·rintro ρ2 M2 ⟨j,jl,rfl,rfl⟩;walk_at "vc";refine ln _ _ ?_;refine ⟨⟨d0,bg (k:=10) (by omega)⟩,?_⟩;exact fH _ _ ⟨i+1,m',_,_,_,by rw [abF];rfl,by omega,pt.put hi z jl,xq hn d0,rfl,rfl⟩
   ·have z:kindOf r≠hand:=of_decide_eq_false z;exact fH _ _ ⟨i+1,m',p,n,_,by rw [abF];rfl,by omega,pt.skip hi z,hn,rfl,rfl⟩
  ·obtain ⟨i,m,p,n,o6,ex,im,pt,hn,rfl,rfl⟩:=hj;have m0:m=0:=by have:=congrArg List.length ex;rw [gD] at this;exact this.symm
   have e:i=γ.length:=by omega
   subst e;exact h p ⟨pt.nd,aaq pt.len lF,λi r hi hk=>pt.has i r (aaf.mp hi).1 hi hk,pt.only⟩
theorem LO(i:Int):tM (V.int i) (V.int i)=true:=by unfold tM;simp
theorem As{l:List Nat}{f:Nat->Bool}(h:∀j,f j=true):l.all f=true:=abz.mpr λj _=>h j
theorem LK{M:Ms}{n:Nat}(i:Int):xU M n (.int i) (.int i) true:=by have:=xU.flat (M:=M) (n:=n) (d:= .int i) (e:= .int i) rfl rfl;rwa [LO] at this
theorem KJ{M:Ms}{n:Nat}{ds:List Dt}(h:∀d∈ds,xU M n d d true):xU M (n+1) (.tup ds) (.tup ds) true:=by
 have:=xU.tup (M:=M) (n:=n) (ds:=ds) (es:=ds) (f:=λ_=>true) λj d e h1 h2=>by rw [h1] at h2;cases h2;exact h d (aak h1)
 rwa [As λ_=>rfl,beq_self_eq_true] at this
theorem K4{M:Ms}{n:Nat}{d e:Dt}{ds:List Dt}(h1:lJ M d=some ds)(h2:lJ M e=some ds)(h:∀d∈ds,xU M n d d true):xU M (n+1) d e true:=by
 have:=xU.lst (M:=M) (n:=n) (d:=d) (e:=e) (f:=λ_=>true) h1 h2 rfl λj d e h1 h2=>by rw [h1] at h2;cases h2;exact h d (aak h1)
 rwa [As λ_=>rfl] at this
theorem O6{M:Ms}{n:Nat}(p:Fr):xU M (n+1) (Ξ p) (Ξ p) true:=KJ λd hd=>by have hd:d∈[Dt.int p.1,Dt.int p.2]:=hd;simp only [List.mem_cons,List.not_mem_nil,or_false] at hd;rcases hd with rfl|rfl <;> exact LK _
theorem Dr{M:Ms}{n:Nat}{d e:Dt}{tb:List Fr}(h1:lJ M d=some (tb.map Ξ))(h2:lJ M e=some (tb.map Ξ)):xU M (n+2) d e true:=K4 h1 h2 λd hd=>by obtain ⟨p,_,rfl⟩:=aaj.mp hd;exact O6 p
theorem MZ{p:Fr}{M:Ms}{k:Bool->Ms->Prop}(h:k false M):Lr (Ξ p) (Ξ p) M (λd M1=>match d with|.bl b=>k b M1|_=>False):=by show k (!mH [.int p.1,.int p.2] [.int p.1,.int p.2]) M;rw [T_,decide_eq_true rfl];exact h
theorem IM{M:Ms}{k:Nat}{xs:List Dt}(h:M[k]? =some (MO.lst xs)):pI M (.loc k)=some (xs,λM'=>M'[k]? =some (MO.lst xs)):=by show (match M[k]? with|some (MO.lst xs)=>some (xs,λM':Ms=>M'[k]? =some (MO.lst xs))|_=>none)=_;rw [h]
def Dm:DF:=λas M q _=>∃i:Int,as=[.int i]/\q (.bl true) M
theorem BS:Ε ["_law_number"] ["_law_number"] (τ oO):= .of rfl
theorem zX{f:Addr}{fd:FuncData}(F:cI K "_law_whole" "_law_whole" oO f fd)(E:Ev K mg w Cm):aq P w K mg base (bV P w) 1 f fd ["_law_number"] (cC K Dm):=by
 refine F.de BS (λds M q x h=>?_) (λaV A outer s H E' hr=>⟨_,(μ (Ζ (iy (wx K E.cn (Ρ (jv 0) (Ρ (KP E.uN uL) η))) (lE (P6 (wx K E.cn (Ρ (jv 0) (Ρ (KP E.xf Cj) η)))))))),λds M q x h=>?_⟩)
 ·obtain ⟨i,rfl,_⟩:=h;rfl
 ·obtain ⟨i,rfl,h⟩:=h;refine ⟨_,_,_,_,true,rfl,rfl,rfl,B1,λ_=>?_,λz=>(nomatch z)⟩;exact ⟨_,_,_,_,false,rfl,rfl,rfl,E.ib,h⟩
structure Hv(M:Ms)(d:Dt)(tb:List Fr)(ok:Ms->Prop):Prop where
 kind:CU M d=some (.type "list")
 seq:jU M d=some (tb.map Ξ)
 it:pI M d=some (tb.map Ξ,ok)
 ok:ok M
theorem rH{M:Ms}{tb:List Fr}:Hv M (.lst (tb.map Ξ)) tb (λ_=>True):=⟨rfl,rfl,rfl,trivial⟩
theorem nq{M:Ms}{kt:Nat}{tb:List Fr}(h:M[kt]? =some (.lst (tb.map Ξ))):Hv M (.loc kt) tb (λM'=>M'[kt]? =some (MO.lst (tb.map Ξ))):=⟨Ew (kI h),Jm h,IM h,h⟩
def GC:DF:=λas M q _=>∃(d:Dt) (tb:List Fr) (n:Nat) (ok:Ms->Prop),as=[d,.int (n:Nat)]/\Hv M d tb ok/\JU tb n/\q (.bl true) M
theorem sC:Ε ["_law_table_here","_law_many","_law_one"] ["_law_table_here","_law_many"] (τ pe):= .of rfl
theorem x9{f:Addr}{fd:FuncData}(F:cI K "_law_table" "_law_table" pe f fd)(E:Ev K mg w Cm){EY:Addr}{Fv:FuncData}(jh:av P w K mg base 1 "_law_whole" ["_law_number"] Dm EY Fv){dQ:Addr}{dH:FuncData}(aR:av P w K mg base 1 "_law_lowest" ["_law_top","_law_bottom"] J3 dQ dH):aq P w K mg base (bV P w) 2 f fd ["_law_table_here","_law_many"] (cC K GC):=by
 refine F.de sC (λds M q x h=>?_) (λaV A outer s H E' hr=>⟨_,(θ (aD (JW.jt (jB (eR (bB (wx K E.cn (Ρ (jv 0) (Ρ (KP E.kn rL) η))))) (i9 (qt hr (bU E.bo (Ρ (jv 0) η)) (jv 1))))) (μ (Ζ CB)) Υ)
   (θ (dw (bR (jv 0)) (ax (i:=2) sC.nd rfl (Or.inl rfl)) aS (θ (aD (JW.jt (jB (eR (bB (wx K E.cn (Ρ (jv 2) (Ρ (KP E.qa yX) η))))) (jB (qt hr (bU E.bo (Ρ (jv 2) η)) χ) (jB (eR (bB (ae jh hr ξ (ι (Μ (jv 2) χ) η (hs:=aQ))))) (i9 (eR (bB (ae jh hr ξ (ι (Μ (jv 2) χ) η (hs:=aQ)))))))))) (μ (Ζ CB)) Υ)
   (μ (aD (JW.jt (jB (sj (Μ (jv 2) χ) χ) (i9 (qt hr (ae aR hr ξ (ι (Μ (jv 2) χ) (ι (Μ (jv 2) χ) η (hs:=aQ)) (hs:=aQ))) (jv 2))))) (μ (Ζ CB)) Υ))))
   (μ (Ζ CB)))),λds M q x h=>?_⟩)
 ·obtain ⟨d,tb,n,ok,rfl,_⟩:=h;rfl
 ·obtain ⟨d,tb,n,ok,rfl,hk,tk,h⟩:=h;have HI:=hk.kind;walk_at "vc";refine ⟨_,_,_,_,true,rfl,HI,rfl,B1,λz=>(nomatch z),λ_=>?_⟩;refine (au (d:=d) hk.seq ?_:eZ [d] _ _);rw [aad,tk.len];refine ⟨λz=>?_,λ_=>?_⟩
  ·have z:(!decide ((n:Int)=(n:Int)))=true:=z;rw [decide_eq_true rfl] at z;exact nomatch z
  dsimp only [vc,gC];walk_at "vc";rw [show (List.map some [d,Dt.int (n:Int)]++[none])[0]? =some (some d) from rfl];dsimp only;rw [hk.it];refine bZ (λzs ρ' M'=>M=M'/\∃(rest:List Fr) (o2:Option Dt),zs=rest.map Ξ/\(∀p∈rest,p∈tb)/\ρ'=[some d,some (.int (n:Int)),o2]) (λzs ρ' M' hj=>by obtain ⟨rfl,_⟩:=hj;exact hk.ok) (λx zs ρ' M' hj fH=>?_) (λρ' M' hj=>?_) _ _ _ ⟨rfl,tb,none,rfl,λ_ h=>h,rfl⟩
  ·obtain ⟨rfl,rest,o2,ex,g7,rfl⟩:=hj;cases rest with
   |nil=>cases ex
   |cons p rest=>
    cases ex;have pm:=g7 p aae;have rp:=tk.red p pm;obtain ⟨s1,s2⟩:=tk.sz p pm;walk_at "vc";refine ⟨_,_,_,_,true,rfl,rfl,rfl,B1,λz=>(nomatch z),λ_=>?_⟩;refine (au (d:=Ξ p) (xs:=[.int p.1,.int p.2]) rfl ?_:eZ [Ξ p] _ _);refine ⟨λz=>(nomatch z),λ_=>?_⟩;refine (DC ?_:dF (Ξ p) (.int 0) _ _);refine ⟨p.1,rfl,λz=>(nomatch z),λ_=>?_⟩;refine (yT ?_:dF (Ξ p) (.int 1) _ _);refine ⟨p.2,rfl,λz=>(nomatch z),λ_=>?_⟩;refine (yT ?_:dF (Ξ p) (.int 1) _ _);refine ⟨λz=>?_,λ_=>?_⟩
    ·have z:p.2<1:=of_decide_eq_true z;have:=rp.pos;omega
    refine (DC ?_:dF (Ξ p) (.int 0) _ _);refine (yT ?_:dF (Ξ p) (.int 1) _ _);refine ⟨p.1,p.2,rfl,rp.pos,pO (k:=1030) (aai rp.pos) s1 (by decide),?_⟩;rw [uS rp.pos rp.low];refine MZ ?_;exact ⟨λz=>(nomatch z),λ_=>fH _ _ ⟨rfl,rest,_,rfl,λy hy=>g7 y (aac _ hy),rfl⟩⟩
  ·obtain ⟨rfl,rest,o2,ex,g7,rfl⟩:=hj;exact h
theorem IG{tb:List Fr}{n i:Nat}(tk:JU tb n)(h:i<n):0<(tb.getD i (0,1)).2/\(tb.getD i (0,1)).2.natAbs<2^1030/\(tb.getD i (0,1)).1.natAbs<2^1150/\nE (tb.map Ξ) (i:Int)=some (Ξ (tb.getD i (0,1))):=by
 have hl:i<tb.length:=by rw [tk.len];exact h
 have m:=Ed hl;obtain ⟨s1,s2⟩:=tk.sz _ m;have r:=(tk.red _ m).pos;refine ⟨r,?_,s2,?_⟩
 ·have:((tb.getD i (0,1)).2.natAbs:Int)<((2^1030:Nat):Int):=by rw [aa0 (aai r),Int.natCast_pow];exact s1
  exact abr.mp this
 ·rw [NO hl,aab,aaa hl];rfl
def RK:DF:=λas M q _=>∃(da db:Dt) (tb to:List Fr) (n:Nat) (ok Kz:Ms->Prop),as=[da,db]/\Hv M da tb ok/\Hv M db to Kz/\JU tb n/\JU to n/\n<=12/\(∀i,i<n->val (tb.getD i (0,1))<=val (to.getD i (0,1)))/\q (.bl true) M
theorem pv:Ε ["_law_table_here","_law_other","_law_k"] ["_law_table_here","_law_other"] (τ lG):= .of rfl
theorem xH{f:Addr}{fd:FuncData}(F:cI K "_law_no_less" "_law_no_less" lG f fd)(E:Ev K mg w Cm):aq P w K mg base (bV P w) 1 f fd ["_law_table_here","_law_other"] (cC K RK):=by
 refine F.de pv (λds M q x h=>?_) (λaV A outer s H E' hr=>⟨_,(θ (ie (cR E.bW (ι (bU E.bo (Ρ (jv 0) η)) η (hs:=aG))) (ax (i:=2) pv.nd rfl (Or.inl rfl)) aS (μ (aD (sj (aL (Μ (Μ (jv 1) (jv 2)) χ) (Μ (Μ (jv 0) (jv 2)) χ)) (aL (Μ (Μ (jv 0) (jv 2)) χ) (Μ (Μ (jv 1) (jv 2)) χ))) (μ (Ζ CB)) Υ)))
   (μ (Ζ CB))),λds M q x h=>?_⟩)
 ·obtain ⟨da,db,tb,to,n,ok,Kz,rfl,_⟩:=h;rfl
 ·obtain ⟨da,db,tb,to,n,ok,Kz,rfl,ha,hb,tk,tk',Ax,hle,h⟩:=h;walk_at "vc";refine (au (d:=da) ha.seq ?_:eZ [da] _ _);rw [aad,tk.len];refine ⟨by omega,?_⟩;rw [show ((n:Int)).toNat=n by omega];refine cL (λzs ρ' M'=>M'=M/\∃(i m:Nat) (o4:Option Dt),zs=dU (i:Int) m/\i+m=n/\ρ'=[some da,some db,o4]) (λx zs ρ' M' hj fH=>?_) (λρ' M' hj=>?_) _ _ _ ⟨rfl,0,n,none,rfl,by omega,rfl⟩
  ·obtain ⟨rfl,i,m,o4,ex,im,rfl⟩:=hj;obtain ⟨m',rfl,rfl,rfl⟩:=cE ex;have il:i<n:=by omega
   obtain ⟨t0,t2,t1,ta⟩:=IG tk il;obtain ⟨u0,u2,u1,ua⟩:=IG tk' il;have le:=(yP t0 u0).mpr (hle i il);generalize tb.getD i (0,1)=t at *
   generalize to.getD i (0,1)=u at *
   have rt:∀(q:DQ),q (Ξ t) M'->dF da (.int (i:Int)) M' q:=λq hq=>Η (d:=da) ha.seq ta hq;have ru:∀(q:DQ),q (Ξ u) M'->dF db (.int (i:Int)) M' q:=λq hq=>Η (d:=db) hb.seq ua hq;walk_at "vc";refine ru _ ((DC ?_:dF (Ξ u) (.int 0) _ _));refine rt _ ((yT ?_:dF (Ξ t) (.int 1) _ _));refine ⟨⟨bg u1,bg t2⟩,?_⟩;refine rt _ ((DC ?_:dF (Ξ t) (.int 0) _ _));refine ru _ ((yT ?_:dF (Ξ u) (.int 1) _ _));refine ⟨⟨bg t1,bg u2⟩,λz=>?_,λ_=>?_⟩
   ·have z:u.1*t.2<t.1*u.2:=of_decide_eq_true z;omega
   ·exact fH _ _ ⟨rfl,i+1,m',_,by rw [abF];rfl,by omega,rfl⟩
  ·obtain ⟨rfl,i,m,o4,ex,im,rfl⟩:=hj;exact h
def uH:List Nat->Nat
 |[]=>1
 |a::l=>a*uH l
theorem C7{G:Nat->Nat}{g:Nat->Int×Nat}{Q:Nat->Bool}:∀{l:List Nat},(∀i∈l,1<=G i/\(Q i=true->(g i).2<=G i))->(oC ((l.filter Q).map g)).length<=uH (l.map G)
 |[],_=>aah _
 |i::l,h=>by
  have ih:=C7 (l:=l) λj hj=>h j (aac _ hj);obtain ⟨h1,h2⟩:=h i aae;show _<=G i*uH (l.map G);cases hQ:Q i with
  |false=>
   rw [List.filter_cons_of_neg (by rw [hQ];decide)];exact aaq ih (by have:=Nat.mul_le_mul_right (uH (l.map G)) h1;omega)
  |true=>
   rw [List.filter_cons_of_pos hQ,aaB];have e:∀(ms:List Nat) (k:Int) (r:List Pl),(ms.flatMap λj:Nat=>r.map λp=>(k,(j:Int))::p).length=ms.length*r.length:=λms k r=>by
    induction ms with
    |nil=>rw [List.length_nil,Nat.zero_mul];rfl
    |cons a ms ih=>rw [List.flatMap_cons,aag,aad,ih,aau,Nat.succ_mul,Nat.add_comm]
   show ((List.range (g i).2).flatMap λj:Nat=>(oC ((l.filter Q).map g)).map λp=>((g i).1,(j:Int))::p).length<=_;rw [e,aaM];exact Nat.mul_le_mul (h2 hQ) ih
theorem Dg:∀γ:List Rw,uH (γ.map λr=>cH (kindOf r) (Ν r).length)=hZ γ
 |[]=>rfl
 |r::rs=>by show _*uH (rs.map _)=_*hZ rs;rw [Dg rs]
section
variable{ε:Fr}{γ:List Rw}{X C:Int}{Ι bK:Pl}{tb pL:List Fr}{hand ο:Str}{p1 p2 q1 q2:Pl}{i:Nat}
theorem Kf(fw:FW ε γ X C)(hh:Β hand=true):(oC (eV γ hand)).length<=hZ γ:=by
 have e:(List.range γ.length).map (λi=>cH (kindOf (fY γ i)) (Ν (fY γ i)).length)=γ.map λr=>cH (kindOf r) (Ν r).length:=by
  refine ab9 λi=>?_;rw [aam,aam];by_cases il:i<γ.length
  ·rw [aaF il,aaa il];show some (cH (kindOf (fY γ i)) (Ν (fY γ i)).length)=some (cH (kindOf γ[i]) (Ν γ[i]).length);rw [nu (aaa il)]
  ·rw [abL (by rw [aaM];omega),abL (by omega)];rfl
 rw [<-Dg,<-e];refine C7 λi hi=>?_;have il:=aaW.mp hi;have hi:γ[i]? =some γ[i]:=aaa il;rw [nu hi];generalize γ[i]=r at *
 have one:1<=cH (kindOf r) (Ν r).length:=by
  unfold cH;cases r with
  |fin q=>exact aah _
  |υ k ds=>
   split
   ·exact (et fw.pl (aak hi)).l1
   ·exact aah _
 refine ⟨one,λz=>?_⟩;have z:eL γ i=hand:=of_decide_eq_true z;unfold eL at z;rw [hi] at z;have z:kindOf r=hand:=z;show (Ν r).length<=cH (kindOf r) (Ν r).length;unfold cH;rw [z,if_pos hh];exact aah _
theorem IX(fw:FW ε γ X C)(dk:gO γ Ι)(b1:1<=iC X C)(lx:(12*iC X C)^γ.length<2^1030):∃tb,jL ε γ Ι tb:=by obtain ⟨tb,z,N,_,_,_,tab,bot⟩:=(fw.sys dk b1).ex fw.pl.len;exact ⟨tb,tab,λi hi=>aaw (bot i hi) lx⟩
theorem Gs.dk(o:Gs ε γ p1 p2 tb)(fw:FW ε γ X C):gO γ (cW γ (ao p1 p2) γ.length):=pw (dj (b8 fw eY.h1 o.f1) (b8 fw eY.h2 o.f2))
theorem K_{n:Nat}{t t':List Fr}(l:t.length=n)(l':t'.length=n)(ev:∀i,i<n->t'.getD i (0,1)=t.getD i (0,1)):t'=t:=by refine aa4 (by rw [l,l']) λi h1 h2=>?_;have:=ev i (by omega);rw [aab,aab,aaa h1,aaa h2] at this;exact this
theorem Gs.uniq(o:Gs ε γ p1 p2 tb)(o':Gs ε γ q1 q2 pL)(fw:FW ε γ X C)(b1:1<=iC X C)(lx:(12*iC X C)^γ.length<2^1030):pL=tb:=by have a1:=b8 fw eY.h1 o.f1;have a2:=b8 fw eY.h2 o.f2;have c1:=b8 fw eY.h1 o'.f1;have c2:=b8 fw eY.h2 o'.f2;obtain ⟨m,wm⟩:=IX fw (pw (dj a1 c2)) b1 lx;obtain ⟨m',Y0⟩:=IX fw (pw (dj c1 a2)) b1 lx;refine K_ o.wt.tab.len o'.wt.tab.len λi il=>?_;have u1:=o.low fw b1 c2 wm il;have u2:=o'.high fw b1 a1 wm il;have u3:=o'.low fw b1 a2 Y0 il;have u4:=o.high fw b1 c1 Y0 il;exact xR (o'.wt.tab.red i il) (o.wt.tab.red i il) (Rat.le_antisymm (Rat.le_trans u3 u4) (Rat.le_trans u1 u2))
end
theorem za{M:Ms}:∀rs:List Rw,Paired (j9 M) (rs.map aU) rs
 |[]=> .nil
 |r::rs=> .cons (LJ _ r) (za rs)
theorem Jd{M:Ms}{q:DQ}{A:Addr}{ε:Fr}{γ:List Rw}(h:q (az A ε γ) M):rP M q (.loc M.length) ((M++[MO.ins A [] []]).set M.length (.ins A ["kept_share","kept_rows"] [Ξ ε,.lst (γ.map aU)])):=by rw [dE];exact j3 (d':=az A ε γ) (.WM (Nat.le_refl _) (by simp) (.cons (.old (lP ε)) (.cons (.old (sQ γ)) .nil))) h
theorem Ta(a:Int):16<=(if (if a > 16 then a else 16)<19 then (if a > 16 then a else 16) else 19)/\(if (if a > 16 then a else 16)<19 then (if a > 16 then a else 16) else 19)<=19:=by split <;> split <;> omega
theorem iX:Ε ["_law_script","_law_share","_law_rows","_law_floor_here","_law_found","_law_one","_law_two","_law_table_here","_law_k","_law_cell","_law_low","_law_high"] ["_law_script"] (τ Pw):= .of rfl
theorem N_{f:Addr}{fd:FuncData}(F:cI K "law" "law" Pw f fd)(E:Ev K mg w Cm){Em:Addr}{El:FuncData}(lW:av P w K mg base 5 "_law_floor" ["_law_script"] DU Em El){AL:Addr}{Bo:FuncData}(kf:OW P w K mg base 5 "Floor" Cm ["self","share","rows"] (Ni Cm) AL Bo){Ir:Addr}{IT:FuncData}(oP:av P w K mg base 1 "_law_copy" ["_law_rows"] Kg Ir IT){Ba:Addr}{A7:FuncData}(f_:av P w K mg base 1 "_law_at" ["_law_script","_law_k"] Wx Ba A7){p7:Addr}{qe:FuncData}(gx:EL P w K mg base 10 "mended" ["floor","hand","start"] (qo Cm) [.str "one",.bq] p7 qe)(nR:EL P w K mg base 10 "mended" ["floor","hand","start"] (qo Cm) [.bq] p7 qe){K6:Addr}{Ll:FuncData}(qD:av P w K mg base 11 "worths" ["floor"] (zD Cm) K6 Ll){Ej:Addr}{Fl:FuncData}(gM:av P w K mg base 8 "worths_of" ["floor","plan_one","plan_other"] (C_ Cm) Ej Fl){FJ:Addr}{EC:FuncData}(gI:av P w K mg base 2 "_law_table" ["_law_table_here","_law_many"] GC FJ EC){IJ:Addr}{IB:FuncData}(kR:av P w K mg base 2 "_law_plan" ["_law_rows","_law_hand","_law_number"] Jw IJ IB){bt:Addr}{bu:FuncData}(ag:av P w K mg base 1 "_law_by_digits" ["_law_number"] EZ bt bu){A1:Addr}{Cs:FuncData}(hJ:av P w K mg base 1 "_law_no_less" ["_law_table_here","_law_other"] RK A1 Cs):aq P w K mg base (bV P w) 12 f fd ["_law_script"] (cC K PZ):=by
 refine F.de iX (λds M q x h=>?_) (λaV A outer s H E' hr=>⟨_,(θ (MT (cc (ae lW hr ξ (Ρ (jv 0) η))) (nP rfl (cz (ax (i:=1) iX.nd rfl (Or.inl rfl)) (cz (ax (i:=2) iX.nd rfl (Or.inl rfl)) kK))))
   (θ (Γ 3 iX.nd (cc (P4 kf hr ξ (Ρ (jv 1) (ι (ae oP hr ξ (Ρ (jv 2) η)) η (hs:=aG))))))
   (θ (h9 (aD (d9 hr (bL (ae f_ hr ξ (Ρ (jv 0) (ι χ η (hs:=dt)))) χ) χ) (θ (Γ 4 iX.nd (GO gx hr ξ (Ρ (jv 3) η)))
   (μ (D6 (i:=5) (j:=6) (k:=7) iX.nd rfl rfl rfl (ι (Μ (jv 4) χ) (ι (Μ (jv 4) χ) (ι (Μ (jv 4) χ) η (hs:=aQ)) (hs:=aQ)) (hs:=aQ))))) (θ (Γ 4 iX.nd (GO nR hr ξ (Ρ (jv 3) (ι jx η (hs:=dt)))))
   (μ (D6 (i:=5) (j:=6) (k:=7) iX.nd rfl rfl rfl (ι (Μ (jv 4) χ) (ι (Μ (jv 4) χ) (ι (Μ (jv 4) χ) η (hs:=aQ)) (hs:=aQ)) (hs:=aQ)))))))
   (θ (aD (JW.jt (jB (eR (bB (ae gI hr ξ (Ρ (jv 7) (ι (bU E.bo (Ρ (jv 2) η)) η (hs:=aG)))))) (jB (Hl 2 hr (ae gM hr ξ (Ρ (jv 3) (Ρ (jv 5) (Ρ (jv 6) η)))) (jv 7)) (i9 (Hl 2 hr (ae qD hr ξ (Ρ (jv 3) η)) (jv 7)))))) (μ (Ζ CB)) Υ)
   (θ (ie (va E.bW (ι χ (ι (Nh E.An (ι χ (ι (SO E.Dc (ι χ (ι (bU E.bo (Ρ (jv 0) η)) η (hs:=aG)) (hs:=dt))) η (hs:=aG)) (hs:=dt))) η (hs:=aG)) (hs:=dt))) (ax (i:=8) iX.nd rfl (Or.inl rfl)) aS (θ (Γ 9 iX.nd (ae f_ hr ξ (Ρ (jv 0) (Ρ (jv 8) η))))
   (θ (Γ 10 iX.nd (ae gM hr ξ (Ρ (jv 3) (Ρ (jv 5) (ι (ae kR hr ξ (Ρ (jv 2) (ι jx (Ρ (jv 9) η) (hs:=dt)))) η (hs:=aG))))))
   (θ (h9 (Γ 9 iX.nd (r6 (bB (ae ag hr ξ (Ρ (jv 9) η))) (iG (jv 9) χ) (bL (aL (jv 9) χ) χ))))
   (θ (Γ 11 iX.nd (ae gM hr ξ (Ρ (jv 3) (ι (ae kR hr ξ (Ρ (jv 2) (ι jx (Ρ (jv 9) η) (hs:=dt)))) (Ρ (jv 6) η) (hs:=aG)))))
   (θ (aD (JW.jt (jB (eR (bB (ae gI hr ξ (Ρ (jv 10) (ι (bU E.bo (Ρ (jv 2) η)) η (hs:=aG)))))) (i9 (eR (bB (ae gI hr ξ (Ρ (jv 11) (ι (bU E.bo (Ρ (jv 2) η)) η (hs:=aG))))))))) (μ (Ζ CB)) Υ)
   (μ (aD (JW.jt (jB (eR (bB (ae hJ hr ξ (Ρ (jv 7) (Ρ (jv 10) η))))) (i9 (eR (bB (ae hJ hr ξ (Ρ (jv 11) (Ρ (jv 7) η)))))))) (μ (Ζ CB)) Υ))))))))
   (μ (Ζ CB))))))),λds M q x h=>?_⟩)
 ·obtain ⟨ns,rfl,_⟩:=h;rfl
 ·obtain ⟨ns,rfl,nl,hq⟩:=h;refine ⟨ns,rfl,nl,λε γ cq lf=>j3 (d':= .tup [Ξ ε,.lst (γ.map aU)]) (.tup (.cons (.old (lP ε)) (.cons (.Eh (Nat.le_refl _) (by simp) (iN.old (sQ γ))) .nil))) ?_⟩;have fw:=lf.fw;obtain ⟨g8,lx⟩:=lf.sz;have b1:1<=iC (xF cq) (cF cq):=by cases cq <;> decide
  have lF:=lf.Ax;have n1:=lf.n1;have ro:∀r∈γ,fP r/\fh r γ.length=true:=λr hr=>(lf.row r hr).1.1;have dr:∀k ds,Rw.υ k ds∈γ->1<=ds.length/\ds.length<=6:=λk ds hm=>⟨(et fw.pl hm).l1,(et fw.pl hm).l6⟩;have np:∀{z:Str},Β z=true->(oC (eV γ z)).length<=1000:=λhz=>aaq (Kf fw hz) (aaq lf.pr (by decide));refine ⟨γ,rfl,lF,λr hr=>(ro r hr).1,?_⟩;refine ⟨M.length,.lst (γ.map aU),ε,γ.map aU,γ,λ_=>True,rfl,aI,rfl,za γ,lf.sh,n1,lF,ro,rfl,Jd ?_⟩;refine ⟨λρ M'=>∃(p1 p2:Pl) (tb:List Fr) (k1 k2:Nat) (o4:Option Dt),Gs ε γ p1 p2 tb/\M'[k1]? =some (dP p1)/\M'[k2]? =some (dP p2)/\ρ=[some (.iY ns),some (Ξ ε),some (.lst (γ.map aU)),some (az Cm ε γ),o4,some (.loc k1),some (.loc k2),some (.lst (tb.map Ξ)),none,none,none,none],?_,?_⟩
  ·refine ⟨ns,14,rfl,nl,by decide,by decide,λn hn=>⟨by decide,?_⟩⟩;have Y1:∀(p:Pl) (E:Ms),(M++[dP p]++E)[M.length]? =some (dP p):=λp E=>aC aI;refine ⟨λ_=>?_,λ_=>?_⟩
   ·refine ⟨ε,γ,"one","other",_,_,rfl,.inl ⟨rfl,rfl⟩,fw,g8,lx,b1,np (by decide),λp pa tb E ka fp b n ha=>?_⟩;dsimp only [Hm];walk_at "vc";refine (Η (d:= .tup [.loc M.length,.loc ka,.lst (tb.map Ξ),.loc (M.length+1)]) rfl a_ ?_:dF (.tup [.loc M.length,.loc ka,.lst (tb.map Ξ),.loc (M.length+1)]) (.int 0) _ _);refine (Η (d:= .tup [.loc M.length,.loc ka,.lst (tb.map Ξ),.loc (M.length+1)]) rfl (Κ (j:=1) rfl) ?_:dF (.tup [.loc M.length,.loc ka,.lst (tb.map Ξ),.loc (M.length+1)]) (.int 1) _ _);refine (Η (d:= .tup [.loc M.length,.loc ka,.lst (tb.map Ξ),.loc (M.length+1)]) rfl (Κ (j:=2) rfl) ?_:dF (.tup [.loc M.length,.loc ka,.lst (tb.map Ξ),.loc (M.length+1)]) (.int 2) _ _);exact ⟨p,pa,tb,M.length,ka,_,NT fw fp b n,Y1 p E,ha,rfl⟩
   ·refine ⟨ε,γ,"other","one",_,_,rfl,.inr ⟨rfl,rfl⟩,fw,g8,lx,b1,np (by decide),λp pa tb E ka fp b n ha=>?_⟩;dsimp only [Hm];walk_at "vc";refine (Η (d:= .tup [.loc M.length,.loc ka,.lst (tb.map Ξ),.loc (M.length+1)]) rfl (Κ (j:=1) rfl) ?_:dF (.tup [.loc M.length,.loc ka,.lst (tb.map Ξ),.loc (M.length+1)]) (.int 1) _ _);refine (Η (d:= .tup [.loc M.length,.loc ka,.lst (tb.map Ξ),.loc (M.length+1)]) rfl a_ ?_:dF (.tup [.loc M.length,.loc ka,.lst (tb.map Ξ),.loc (M.length+1)]) (.int 0) _ _);refine (Η (d:= .tup [.loc M.length,.loc ka,.lst (tb.map Ξ),.loc (M.length+1)]) rfl (Κ (j:=2) rfl) ?_:dF (.tup [.loc M.length,.loc ka,.lst (tb.map Ξ),.loc (M.length+1)]) (.int 2) _ _);exact ⟨pa,p,tb,ka,M.length,_,TZ fw fp b n,ha,Y1 p E,rfl⟩
  rintro ρ2 M2 ⟨p1,p2,tb,k1,k2,o4,opt,a1,a2,rfl⟩;have dk:=opt.dk fw;have tok:=opt.wt.ok fw dk b1;have h1:=b8 fw eY.h1 opt.f1;have h2:=b8 fw eY.h2 opt.f2;have gd:=dj h1 h2;walk_at "vc";refine (au (xs:=γ.map aU) rfl ?_:eZ [Dt.lst (γ.map aU)] _ _);rw [aad];refine ⟨.lst (tb.map Ξ),tb,γ.length,_,rfl,rH,tok,λz=>(nomatch z),λ_=>?_⟩;refine ⟨ε,γ,k1,k2,p1,p2,_,_,rfl,a1,a2,fw,g8,lx,gd,λYN wt2 m1 m2=>?_⟩;obtain rfl:YN=tb:=(fw.sys dk b1).uniq wt2.tab opt.wt.tab;have h3:∀{S:Ms} {a b m:MO},(S++[a,b,m])[S.length+2]? =some m:=λ{S a b m}=>by rw [aal (by omega),abc];rfl
  refine ⟨true,.inr ⟨_,GI (kI h3)⟩,.inr ⟨_,rfl⟩,Dr (GI (kI h3)) rfl,λz=>(nomatch z),λ_=>?_⟩;refine ⟨ε,γ,_,_,rfl,fw,g8,lx,b1,np (by decide),λp pa Ky E fp b n=>?_⟩;obtain rfl:Ky=YN:=opt.uniq (NT fw fp b n) fw b1 lx;refine ⟨true,.inr ⟨_,rfl⟩,.inr ⟨_,rfl⟩,Dr rfl rfl,λz=>(nomatch z),λ_=>?_⟩;have a1:(M2++[m1,m2,MO.lst (List.map Ξ Ky)]++E)[k1]? =some (dP p1):=aC (aC a1);have a2:(M2++[m1,m2,MO.lst (List.map Ξ Ky)]++E)[k2]? =some (dP p2):=aC (aC a2);generalize M2++[m1,m2,MO.lst (List.map Ξ Ky)]++E=M3 at *
  dsimp only [A8];walk_at "vc";refine (au (d:= .iY ns) (xs:=ns.map Dt.int) rfl ?_:eZ [Dt.iY ns] _ _);dsimp only [L7,Ei];obtain ⟨Y4,ZA⟩:=Ta ((List.map Dt.int ns).length:Int);generalize (if (if ((List.map Dt.int ns).length:Int) > 16 then ((List.map Dt.int ns).length:Int) else 16)<19 then (if ((List.map Dt.int ns).length:Int) > 16 then ((List.map Dt.int ns).length:Int) else 16) else 19)=tp at *
  refine ⟨⟨by decide,by decide,by omega,by omega⟩,?_⟩;refine cL (λzs ρ' M'=>∃(i m:Nat) (o8 o9 WL Uq:Option Dt),zs=dU (i:Int) m/\i+m<=20/\M'[k1]? =some (dP p1)/\M'[k2]? =some (dP p2)/\ρ'=[some (.iY ns),some (Ξ ε),some (.lst (γ.map aU)),some (az Cm ε γ),o4,some (.loc k1),some (.loc k2),some (.lst (Ky.map Ξ)),o8,o9,WL,Uq]) (λy zs ρ' M' hj fH=>?_) (λρ' M' hj=>?_) _ _ _ ⟨15,(tp-15).toNat,none,none,none,none,rfl,by omega,a1,a2,rfl⟩
  ·obtain ⟨i,m,o8,o9,WL,Uq,ex,im,c1,c2,rfl⟩:=hj;obtain ⟨m',rfl,rfl,rfl⟩:=cE ex;have i0:(0:Int)<=(i:Int):=by omega
   have XM:(i:Int)<=200:=by omega
   walk_at "vc";refine ⟨ns,(i:Int),rfl,nl,i0,XM,λcell uR=>?_⟩;refine ⟨γ,"other",cell,rfl,uR,lF,by decide,dr,λq2 oq2=>?_⟩;have Kn:w4 γ "other" q2:=oq2.has;refine ⟨ε,γ,k1,_,p1,q2,_,_,rfl,aC c1,aI,fw,g8,lx,dj h1 Kn,λlo Zh x1 x2=>?_⟩;have al:(M'++[dP q2]++[x1,x2,MO.lst (lo.map Ξ)])[(M'++[dP q2]).length+2]? =some (MO.lst (lo.map Ξ)):=h3;have c1:(M'++[dP q2]++[x1,x2,MO.lst (lo.map Ξ)])[k1]? =some (dP p1):=aC (aC c1);have c2:(M'++[dP q2]++[x1,x2,MO.lst (lo.map Ξ)])[k2]? =some (dP p2):=aC (aC c2);generalize (M'++[dP q2]).length+2=kl at *
   generalize M'++[dP q2]++[x1,x2,MO.lst (lo.map Ξ)]=S1 at *
   refine ⟨λρ M4=>M4=S1/\∃c,Nm c/\ρ=[some (.iY ns),some (Ξ ε),some (.lst (γ.map aU)),some (az Cm ε γ),o4,some (.loc k1),some (.loc k2),some (.lst (Ky.map Ξ)),some (.int (i:Int)),some (.int c),some (.loc kl),Uq],?_,?_⟩
   ·walk_at "vc";refine ⟨cell,rfl,λb=>⟨λ_=>?_,λ_=>?_⟩⟩
    ·exact ⟨⟨by decide,bg (k:=10) (by decide)⟩,rfl,_,xq uR (by decide),rfl⟩
    ·exact ⟨⟨oX uR,bg (k:=20) (by decide)⟩,by decide,rfl,_,AQ (by decide) (by decide),rfl⟩
   rintro ρ4 M4 ⟨rfl,c,hc,rfl⟩;walk_at "vc";refine ⟨γ,"one",c,rfl,hc,lF,by decide,dr,λq1 oq1=>?_⟩;have Mq:w4 γ "one" q1:=oq1.has;refine ⟨ε,γ,_,k2,q1,p2,_,_,rfl,aI,aC c2,fw,g8,lx,dj Mq h2,λup ZV x3 x4=>?_⟩;have ah:(M4++[dP q1]++[x3,x4,MO.lst (up.map Ξ)])[(M4++[dP q1]).length+2]? =some (MO.lst (up.map Ξ)):=h3;have al:(M4++[dP q1]++[x3,x4,MO.lst (up.map Ξ)])[kl]? =some (MO.lst (lo.map Ξ)):=aC (aC al);have c1:(M4++[dP q1]++[x3,x4,MO.lst (up.map Ξ)])[k1]? =some (dP p1):=aC (aC c1);have c2:(M4++[dP q1]++[x3,x4,MO.lst (up.map Ξ)])[k2]? =some (dP p2):=aC (aC c2);generalize (M4++[dP q1]).length+2=kh at *
   generalize M4++[dP q1]++[x3,x4,MO.lst (up.map Ξ)]=S2 at *
   have T':=Zh.ok fw (pw (dj h1 Kn)) b1;have Sx:=ZV.ok fw (pw (dj Mq h2)) b1;refine (au (xs:=γ.map aU) rfl ?_:eZ [Dt.lst (γ.map aU)] _ _);rw [aad];refine ⟨.loc kl,lo,γ.length,_,rfl,nq al,T',λz=>(nomatch z),λ_=>?_⟩;refine (au (xs:=γ.map aU) rfl ?_:eZ [Dt.lst (γ.map aU)] _ _);rw [aad];refine ⟨.loc kh,up,γ.length,_,rfl,nq ah,Sx,λz=>(nomatch z),λ_=>?_⟩;refine ⟨.lst (Ky.map Ξ),.loc kl,Ky,lo,γ.length,_,_,rfl,rH,nq al,tok,T',lF,λi il=>opt.low fw b1 Kn Zh il,λz=>(nomatch z),λ_=>?_⟩;refine ⟨.loc kh,.lst (Ky.map Ξ),up,Ky,γ.length,_,_,rfl,nq ah,rH,Sx,tok,lF,λi il=>opt.high fw b1 Mq ZV il,λz=>(nomatch z),λ_=>?_⟩;exact fH _ _ ⟨i+1,m',_,_,_,_,by rw [abF];rfl,by omega,c1,c2,rfl⟩
  ·obtain ⟨i,m,o8,o9,WL,Uq,ex,im,c1,c2,rfl⟩:=hj;exact hq _
structure FT(K:PySem.W.Frag)(f:Addr)(x:Str)(st:Stmt):Prop where
 a:PySem.W.nsIn K mainGlobals x=some (some (.ref f))
 e:∃fd,cI K x x st f fd
structure FM(K:PySem.W.Frag)(C f:Addr)(m x:Str)(st:Stmt):Prop where
 a:PySem.W.findIn K (.ref C) m=some (some (.ref f))
 i:PySem.W.isFn K (.ref f)=true
 e:∃fd,cI K m x st f fd
structure FV(K:PySem.W.Frag)(f:Addr)(x:Str)(st:Stmt)(U:Addr)(its:Array Value):Prop where
 a:PySem.W.nsIn K mainGlobals x=some (some (.ref f))
 e:∃fd,FO K x st U its f fd
section
variable{K:PySem.W.Frag}{C f:Addr}{m x:Str}{st:Stmt}{oc:Value}{od an:Option Addr}{Aw:Array (Option Value)}{kV doc pm aV ct:Value}
theorem FT.of(a:PySem.W.nsIn K mainGlobals x=some (some (.ref f)))(l:K.lookup f=some ⟨oc,od,.func (PySem.W.fnOf x x (fZ st) (dD st) (τ st) .none kV doc pm an aV ct),Aw⟩)(c:PySem.W.codeIn K aV x=true)(k:PySem.W.keepIn K (.ref f)=true):FT K f x st:=⟨a,_,Im l c k⟩
theorem FM.of(a:PySem.W.findIn K (.ref C) m=some (some (.ref f)))(i:PySem.W.isFn K (.ref f)=true)(l:K.lookup f=some ⟨oc,od,.func (PySem.W.fnOf m x (fZ st) (dD st) (τ st) .none kV doc pm an aV ct),Aw⟩)(c:PySem.W.codeIn K aV x=true)(k:PySem.W.keepIn K (.ref f)=true):FM K C f m x st:=⟨a,i,_,Im l c k⟩
theorem FV.of{U:Addr}{its:Array Value}{tc:Value}{td:Option Addr}{tn:Nat}{ts:Array (Option Value)}(a:PySem.W.nsIn K mainGlobals x=some (some (.ref f)))(l:K.lookup f=some ⟨oc,od,.func (PySem.W.fnOf x x (fZ st) (dD st) (τ st) (.ref U) kV doc pm an aV ct),Aw⟩)(c:PySem.W.codeIn K aV x=true)(k:PySem.W.keepIn K (.ref f)=true)(t:K.lookup U=some ⟨tc,td,.seq its tn,ts⟩):FV K f x st U its:=⟨a,_,⟨_,_,_,_,_,_,_,_,_,rfl,l,c⟩,⟨_,_,t,rfl⟩,k⟩
end
theorem fF{P:List Value->Prop}(h:∀a0:Value,P [a0]):∀us:List Value,us.length=1->P us
 |[a0],_=>h a0
theorem cx{P:List Value->Prop}(h:∀a0 a1:Value,P [a0,a1]):∀us:List Value,us.length=2->P us
 |[a0,a1],_=>h a0 a1
theorem g6{P:List Value->Prop}(h:∀a0 a1 a2:Value,P [a0,a1,a2]):∀us:List Value,us.length=3->P us
 |[a0,a1,a2],_=>h a0 a1 a2
theorem zJ{P:List Value->Prop}(h:∀a0 a1 a2 a3:Value,P [a0,a1,a2,a3]):∀us:List Value,us.length=4->P us
 |[a0,a1,a2,a3],_=>h a0 a1 a2 a3
theorem SH{P:List Value->Prop}(h:∀a0 a1 a2 a3 a4:Value,P [a0,a1,a2,a3,a4]):∀us:List Value,us.length=5->P us
 |[a0,a1,a2,a3,a4],_=>h a0 a1 a2 a3 a4
theorem wk{K:PySem.W.Frag}(h:PySem.W.subIn K (.type "int") (.type "bool")=some false):PySem.W.kitOne K (.type "int") (.type "bool")=some false:=by unfold PySem.W.kitOne PySem.W.kitCls;rw [if_neg (by decide+kernel)];show (if PySem.W.kitMeta "bool"=true then _ else _)=_;rw [if_pos (by decide+kernel)];exact h
theorem yN{K:PySem.W.Frag}(h:PySem.W.subIn K (.type "int") (.type "str")=some false):PySem.W.kitOne K (.type "int") (.type "str")=some false:=by unfold PySem.W.kitOne PySem.W.kitCls;rw [if_neg (by decide+kernel)];show (if PySem.W.kitMeta "str"=true then _ else _)=_;rw [if_pos (by decide+kernel)];exact h
theorem uf{K:PySem.W.Frag}(h:PySem.W.subIn K (.type "tuple") (.type "str")=some false):PySem.W.kitOne K (.type "tuple") (.type "str")=some false:=by unfold PySem.W.kitOne PySem.W.kitCls;rw [if_neg (by decide+kernel)];show (if PySem.W.kitMeta "str"=true then _ else _)=_;rw [if_pos (by decide+kernel)];exact h
theorem tF{K:PySem.W.Frag}(h:PySem.W.subIn K (.type "tuple") (.type "int")=some false):PySem.W.kitOne K (.type "tuple") (.type "int")=some false:=by unfold PySem.W.kitOne PySem.W.kitCls;rw [if_neg (by decide+kernel)];show (if PySem.W.kitMeta "int"=true then _ else _)=_;rw [if_pos (by decide+kernel)];exact h
theorem xk{K:PySem.W.Frag}(h:PySem.W.subIn K (.type "list") (.type "str")=some false):PySem.W.kitOne K (.type "list") (.type "str")=some false:=by unfold PySem.W.kitOne PySem.W.kitCls;rw [if_neg (by decide+kernel)];show (if PySem.W.kitMeta "str"=true then _ else _)=_;rw [if_pos (by decide+kernel)];exact h
theorem wV{K:PySem.W.Frag}(h:PySem.W.subIn K (.type "list") (.type "int")=some false):PySem.W.kitOne K (.type "list") (.type "int")=some false:=by unfold PySem.W.kitOne PySem.W.kitCls;rw [if_neg (by decide+kernel)];show (if PySem.W.kitMeta "int"=true then _ else _)=_;rw [if_pos (by decide+kernel)];exact h
theorem sO{K:PySem.W.Frag}(h:PySem.W.subIn K (.type "tuple") (.type "list")=some false):PySem.W.kitOne K (.type "tuple") (.type "list")=some false:=by unfold PySem.W.kitOne PySem.W.kitCls;rw [if_neg (by decide+kernel)];show (if PySem.W.kitMeta "list"=true then _ else _)=_;rw [if_pos (by decide+kernel)];exact h
theorem sJ{K:PySem.W.Frag}(h:PySem.W.subIn K (.type "list") (.type "tuple")=some false):PySem.W.kitOne K (.type "list") (.type "tuple")=some false:=by unfold PySem.W.kitOne PySem.W.kitCls;rw [if_neg (by decide+kernel)];show (if PySem.W.kitMeta "tuple"=true then _ else _)=_;rw [if_pos (by decide+kernel)];exact h
theorem NZ{K:PySem.W.Frag}{a:Addr}{t1 t2 t3:Tok}(h1:PySem.W.nsIn K a "one"=some (some (.str "other" t1)))(h2:PySem.W.nsIn K a "other"=some (some (.str "one" t2)))(h3:PySem.W.nsIn K a "chance"=some (some (.str "chance" t3))){z y:Str}(h:([("one","other"),("other","one"),("chance","chance")]:List (Str×Str)).lookup z=some y):∃tk,PySem.W.nsIn K a z=some (some (.str y tk)):=by
 rw [aa9] at h;split at h
 ·rename_i e;cases beq_iff_eq.mp e;cases h;exact ⟨_,h1⟩
 rw [aa9] at h;split at h
 ·rename_i e;cases beq_iff_eq.mp e;cases h;exact ⟨_,h2⟩
 rw [aa9] at h;split at h
 ·rename_i e;cases beq_iff_eq.mp e;cases h;exact ⟨_,h3⟩
 cases h
open PySem.W in
theorem all_mk{l:OpenLaw}{w:World}{K:Frag}{h:Heap}{mg:Str->Option Value}{fa Cm DL SK f1 f2 f3 f4 f5 f6 f7 f8 f9 f10 f11 f12 f13 f14 f15 f16 f17 f18 f19 f20 f21 f22 f23 f24 f25 f26 f27 f28 f29 f30 f31 f32 f33 f34 f35 f36 Z6 f38 f39 f40 f41 f42 f43 f44 f45 f46 f47 f48 f49 f50 f51 f52 f53 f54 f55 f56 f57 f58 f59 f60 f61 f62 f63 f64 f65:Addr}(X:K.In h)(G:h.Ns mainGlobals mg)(hfa:mg "law"=some (.ref fa))
  {vB tQ t_ kU:Tok}
  (w8:nsIn K mainGlobals "MOST_DOORS"=some (some (.int (6) vB)))
  (tq:nsIn K mainGlobals "MOST_BOTTOM"=some (some (.int (1000000) tQ)))
  (tP:nsIn K mainGlobals "MOST_PLACES"=some (some (.int (12) t_)))
  (kY:nsIn K mainGlobals "MOST_SHARE_BOTTOM"=some (some (.int (1000) kU)))
  (KS:nsIn K mainGlobals "Floor"=some (some (.ref Cm))) (fc:plainGet K Cm Str.empty=true) (fi:hasDictIn K Cm=true) (fg:plainOver K Cm=true) (fm:findIn K (.ref Cm) "__setattr__"=some (some (.builtin "object.__setattr__"))) (K5:makesIn K Cm=true) (LC:keepIn K (.ref Cm)=true)
  (v9:findIn K (.ref Cm) "kept_rows"=some none)
  (uc:findIn K (.ref Cm) "kept_share"=some none)
  {HV Io:Tok} {HR:Option Addr} {IK:Array (Option Value)} {GR:Nat} (Jy:nsIn K mainGlobals "HANDS"=some (some (.ref DL))) (Hz:K.lookup DL=some ⟨.type "tuple",HR,.seq #[(.str "one" HV),(.str "other" Io)] GR,IK⟩)
  (zV:subIn K (.type "int") (.type "bool")=some false)
  (BQ:subIn K (.type "int") (.type "str")=some false)
  (vX:subIn K (.type "tuple") (.type "str")=some false)
  (vx:subIn K (.type "tuple") (.type "int")=some false)
  (zu:subIn K (.type "list") (.type "str")=some false)
  (zY:subIn K (.type "list") (.type "int")=some false)
  (ud:subIn K (.type "tuple") (.type "list")=some false)
  (tI:subIn K (.type "list") (.type "tuple")=some false)
  (t1:FT K f1 "_law_at" AJ)
  (t2:FT K f2 "_law_by_digits" ju)
  (t3:FT K f3 "_law_lowest" md)
  (t4:FT K f4 "_law_share_of" jN)
  (t5:FT K f5 "_law_pay" vU)
  (t6:FT K f6 "_law_stream" mB)
  (t7:FT K f7 "_law_things" mE)
  (t8:FT K f8 "_law_doors" pk)
  (t9:FT K f9 "_law_floor" oQ)
  (Z9:FT K f10 "fits_share" mz)
  (t11:FT K f11 "fits_pay" qW)
  (t12:FT K f12 "fits_door" nL)
  (t13:FT K f13 "fits_doors" lX)
  (t14:FT K f14 "common_divisor" gE)
  (t15:FT K f15 "common_bottom" iq)
  (Y4:FT K f16 "fits_chances" jj)
  (t17:FT K f17 "fits_row" qF)
  (t18:FT K f18 "copied_row" mf)
  (ZA:FM K Cm f19 "__init__" "Floor.__init__" mr)
  (t20:FT K f20 "_law_copy" qu)
  (t21:FM K Cm f21 "size" "Floor.size" lS)
  (t22:FM K Cm f22 "kind" "Floor.kind" lH)
  (t23:FT K f23 "places_of" nV)
  (t24:FT K f24 "first_plan" mj)
  (t25:FT K f25 "started" sF)
  (t26:FM K Cm f26 "doors" "Floor.doors" kD)
  (t27:FT K f27 "has_door" q5)
  (t28:FT K f28 "doors_of" rS)
  (t29:FT K f29 "with_weights" js)
  (t30:FT K f30 "number_of_head" h_)
  (t31:FT K f31 "moved_ahead" jX)
  (t32:FT K f32 "cleared_line" i6)
  (t33:FT K f33 "cleared" qB)
  (t34:FT K f34 "fraction" oz)
  (t35:FT K f35 "quotients" my)
  (t36:FT K f36 "answer_of" og)
  (t37:FT K Z6 "minus" BC)
  (t38:FT K f38 "times" BA)
  (t39:FT K f39 "whole_row" nY)
  (t40:FT K f40 "led_row" xJ)
  (t41:FM K Cm f41 "pay" "Floor.pay" ou)
  (t42:FM K Cm f42 "share" "Floor.share" ko)
  (t43:FT K f43 "ways_from" n8)
  (t44:FT K f44 "plus" Hg)
  (t45:FT K f45 "weighed" qI)
  (t46:FT K f46 "row_of" Bc)
  (t47:FT K f47 "worths_by" nO)
  (t48:FT K f48 "worths_against" gQ)
  (t49:FM K Cm f49 "shown" "Floor.shown" kz)
  (t50:FM K Cm f50 "all_shown" "Floor.all_shown" gW)
  (t51:FT K f51 "under" A5)
  (t52:FT K f52 "greatest" oN)
  (t53:FT K f53 "least" B9)
  (t54:FM K Cm f54 "look" "Floor.look" l7)
  (t55:FM K Cm f55 "best" "Floor.best" mn)
  (t56:FT K f56 "better_doors" je)
  (t57:FT K f57 "against" qY)
  {U58:Addr} {IF:Tok} (t58:FV K f58 "mended" wN U58 #[.str "one" IF,.none])
  (t59:FT K f59 "worths" vS)
  (t60:FT K f60 "worths_of" oV)
  (t61:FT K f61 "_law_whole" oO)
  (Z4:FT K f62 "_law_table" pe)
  (t63:FT K f63 "_law_plan" rN)
  (t64:FT K f64 "_law_no_less" lG)
  (t65:FT K f65 "law" Pw)
  (Q4:nsIn K mainGlobals "len"=some none)
  (Rq:nsIn K mainGlobals "abs"=some none)
  (wy:nsIn K mainGlobals "isinstance"=some none)
  (TQ:nsIn K mainGlobals "int"=some none)
  (Qr:nsIn K mainGlobals "bool"=some none)
  (S8:nsIn K mainGlobals "str"=some none)
  (Lg:nsIn K mainGlobals "tuple"=some none)
  (Pp:nsIn K mainGlobals "list"=some none)
  (K3:nsIn K mainGlobals "range"=some none)
  (yU:nsIn K mainGlobals "enumerate"=some none)
  (SF:nsIn K mainGlobals "any"=some none)
  (R_:nsIn K mainGlobals "all"=some none)
  (Sr:nsIn K mainGlobals "sum"=some none)
  (Tc:nsIn K mainGlobals "zip"=some none)
  (Oc:nsIn K mainGlobals "dict"=some none)
  (T4:nsIn K mainGlobals "min"=some none)
  (SM:nsIn K mainGlobals "max"=some none)
  {QQ:Array DictEntry} {nTK:Nat} {Xp Xi WI:Tok}
  (Xe:nsIn K mainGlobals "TURNED_KINDS"=some (some (.ref SK)))
  (Xj:K.lookup SK=some ⟨.type "dict",none,.dict QQ nTK, #[]⟩)
  (Yd:KeysLit w.params QQ.toList)
  (U5:nsIn K SK "one"=some (some (.str "other" Xp)))
  (VH:nsIn K SK "other"=some (some (.str "one" Xi)))
  (Xg:nsIn K SK "chance"=some (some (.str "chance" WI)))
  :∃fd:FuncData,(∀(s:Shared) (v:Value),BindsTo s fd ⟨[v],[]⟩ [("_law_script",v)])/\∀base:Heap,K.In base->base.Ns mainGlobals mg->aq l.prog w K mg base UY 12 fa fd ["_law_script"] (zO K):=by
 obtain ⟨a1,_,F1⟩:=t1;obtain ⟨a2,_,F2⟩:=t2;obtain ⟨a3,_,F3⟩:=t3;obtain ⟨a4,_,F4⟩:=t4;obtain ⟨a5,_,F5⟩:=t5;obtain ⟨a6,_,F6⟩:=t6;obtain ⟨a7,_,F7⟩:=t7;obtain ⟨a8,_,F8⟩:=t8;obtain ⟨a9,_,F9⟩:=t9;obtain ⟨XI,_,XU⟩:=Z9;obtain ⟨a11,_,Vf⟩:=t11;obtain ⟨a12,_,Xw⟩:=t12;obtain ⟨a13,_,Wg⟩:=t13;obtain ⟨a14,_,X9⟩:=t14;obtain ⟨a15,_,Yi⟩:=t15;obtain ⟨a16,_,WT⟩:=Y4;obtain ⟨a17,_,Ye⟩:=t17;obtain ⟨a18,_,WE⟩:=t18;obtain ⟨a19,i19,_,YJ⟩:=ZA;obtain ⟨a20,_,Wv⟩:=t20;obtain ⟨a21,i21,_,Ww⟩:=t21;obtain ⟨a22,i22,_,WK⟩:=t22;obtain ⟨a23,_,X5⟩:=t23;obtain ⟨a24,_,VI⟩:=t24;obtain ⟨a25,_,Wf⟩:=t25;obtain ⟨a26,i26,_,Vg⟩:=t26;obtain ⟨a27,_,Xv⟩:=t27;obtain ⟨a28,_,Vz⟩:=t28;obtain ⟨a29,_,Vx⟩:=t29;obtain ⟨a30,_,VT⟩:=t30;obtain ⟨a31,_,VA⟩:=t31;obtain ⟨a32,_,XH⟩:=t32;obtain ⟨a33,_,Vk⟩:=t33;obtain ⟨a34,_,Yb⟩:=t34;obtain ⟨a35,_,Vh⟩:=t35;obtain ⟨a36,_,Vu⟩:=t36;obtain ⟨a37,_,V2⟩:=t37;obtain ⟨a38,_,Vc⟩:=t38;obtain ⟨a39,_,Wo⟩:=t39;obtain ⟨a40,_,Vt⟩:=t40;obtain ⟨a41,i41,_,XA⟩:=t41;obtain ⟨a42,i42,_,V6⟩:=t42;obtain ⟨a43,_,XD⟩:=t43;obtain ⟨a44,_,XF⟩:=t44;obtain ⟨a45,_,V'⟩:=t45;obtain ⟨a46,_,XO⟩:=t46;obtain ⟨a47,_,Ws⟩:=t47;obtain ⟨a48,_,Wm⟩:=t48;obtain ⟨a49,i49,_,VS⟩:=t49;obtain ⟨a50,i50,_,Va⟩:=t50;obtain ⟨a51,_,Wq⟩:=t51;obtain ⟨a52,_,X4⟩:=t52;obtain ⟨a53,_,Xc⟩:=t53;obtain ⟨a54,i54,_,Vs⟩:=t54;obtain ⟨a55,i55,_,XN⟩:=t55;obtain ⟨a56,_,Vj⟩:=t56;obtain ⟨a57,_,VZ⟩:=t57;obtain ⟨Zu,_,TX⟩:=t58;obtain ⟨a59,_,XZ⟩:=t59;obtain ⟨a60,_,V4⟩:=t60;obtain ⟨a61,_,We⟩:=t61;obtain ⟨a62,_,WX⟩:=Z4;obtain ⟨a63,_,W9⟩:=t63;obtain ⟨a64,_,WH⟩:=t64;obtain ⟨a65,dL,Zn⟩:=t65;have e:=hfa.symm.trans (mg_of X G a65);cases e;have xp:=mg_of X G w8;have tK:=mg_of X G tq;have tG:=mg_of X G tP;have kZ:=mg_of X G kY;have bo:=mg_none_of X G Q4;have rD:=mg_none_of X G Rq;have cn:=mg_none_of X G wy;have uN:=mg_none_of X G TQ;have xf:=mg_none_of X G Qr;have IZ:=mg_none_of X G S8;have qa:=mg_none_of X G Lg;have kn:=mg_none_of X G Pp;have bW:=mg_none_of X G K3;have dY:=mg_none_of X G yU;have Ds:=mg_none_of X G SF;have Du:=mg_none_of X G R_;have zz:=mg_none_of X G Sr;have vh:=mg_none_of X G Tc;have qH:=mg_none_of X G Oc;have An:=mg_none_of X G T4;have Dc:=mg_none_of X G SM;have E:Ev K mg w Cm:={bo:=bo,rD:=rD,cn:=cn,uN:=uN,xf:=xf,IZ:=IZ,qa:=qa,kn:=kn,bW:=bW,dY:=dY,Ds:=Ds,Du:=Du,zz:=zz,vh:=vh,qH:=qH,An:=An,Dc:=Dc,ib:=wk zV,kis:=yN BQ,kts:=uf vX,Z8:=tF vx,kls:=xk zu,kli:=wV zY,ktl:=sO ud,klt:=sJ tI,dh:=⟨fc,fi,fg,fm⟩,ck:=v9,fj:=uc,wd:=⟨_,_,_,_,mg_of X G Jy,Hz,rfl,rfl,(by show 2<=sizeLine;decide),.cons ⟨_,rfl⟩ (.cons ⟨_,rfl⟩ .nil)⟩,lh:=⟨_,_,_,mg_of X G Xe,Xj,Yd,λz y h=>NZ U5 VH Xg h⟩,pE:=⟨_,xp⟩,jg:=⟨_,tK⟩,mX:=⟨_,tG⟩,gH:=⟨_,kZ⟩};refine ⟨dL,λs v=>by obtain ⟨_,_,_,_,_,_,_,_,_,rfl,_⟩:=Zn.ex;exact .of_eq rfl,λbase _ _=>?_⟩;have mc:= @av.mk l.prog w K mg base;have f_:=mc (JH F1 E) (F1.binds λ_ _ _ _ _ _=>cx λ_ _=>rfl) (mg_of X G a1) F1.kp;have ag:=mc (qR F2 E) (F2.binds λ_ _ _ _ _ _=>fF λ_=>rfl) (mg_of X G a2) F2.kp;have aR:=mc (xj F3 E) (F3.binds λ_ _ _ _ _ _=>cx λ_ _=>rfl) (mg_of X G a3) F3.kp;have i4:=mc (tR F4 E ag aR) (F4.binds λ_ _ _ _ _ _=>cx λ_ _=>rfl) (mg_of X G a4) F4.kp;have iV:=mc (FE F5 E aR) (F5.binds λ_ _ _ _ _ _=>cx λ_ _=>rfl) (mg_of X G a5) F5.kp;have d8:=mc (xn F6 E) (F6.binds λ_ _ _ _ _ _=>cx λ_ _=>rfl) (mg_of X G a6) F6.kp;have hI:=mc (xh F7 E ag d8) (F7.binds λ_ _ _ _ _ _=>zJ λ_ _ _ _=>rfl) (mg_of X G a7) F7.kp;have l9:=mc (zf F8 E iV aR) (F8.binds λ_ _ _ _ _ _=>zJ λ_ _ _ _=>rfl) (mg_of X G a8) F8.kp;have lW:=mc (xZ F9 E f_ ag i4 iV hI l9) (F9.binds λ_ _ _ _ _ _=>fF λ_=>rfl) (mg_of X G a9) F9.kp;have jS:=mc (vV XU E) (XU.binds λ_ _ _ _ _ _=>fF λ_=>rfl) (mg_of X G XI) XU.kp;have gq:=mc (A3 Vf E) (Vf.binds λ_ _ _ _ _ _=>fF λ_=>rfl) (mg_of X G a11) Vf.kp;have mC:=mc (yo Xw E gq) (Xw.binds λ_ _ _ _ _ _=>cx λ_ _=>rfl) (mg_of X G a12) Xw.kp;have hW:=mc (wO Wg E mC) (Wg.binds λ_ _ _ _ _ _=>cx λ_ _=>rfl) (mg_of X G a13) Wg.kp;have bH:=mc (ot X9 E) (X9.binds λ_ _ _ _ _ _=>cx λ_ _=>rfl) (mg_of X G a14) X9.kp;have b7:=mc (pW Yi E bH) (Yi.binds λ_ _ _ _ _ _=>fF λ_=>rfl) (mg_of X G a15) Yi.kp;have iu:=mc (sG WT E b7) (WT.binds λ_ _ _ _ _ _=>fF λ_=>rfl) (mg_of X G a16) WT.kp;have pd:=mc (Bs Ye E gq hW iu) (Ye.binds λ_ _ _ _ _ _=>cx λ_ _=>rfl) (mg_of X G a17) Ye.kp;have jO:=mc (xo WE E) (WE.binds λ_ _ _ _ _ _=>fF λ_=>rfl) (mg_of X G a18) WE.kp;have kf:OW l.prog w K mg base _ "Floor" Cm _ _ _ _:=⟨wc YJ E jS pd jO,(YJ.binds λ_ _ _ _ _ _=>g6 λ_ _ _=>rfl),⟨K5,a19,i19,LC⟩,mg_of X G KS⟩;have oP:=mc (BF Wv E) (Wv.binds λ_ _ _ _ _ _=>fF λ_=>rfl) (mg_of X G a20) Wv.kp;have aX:cU l.prog w K mg base _ Cm "size" _ _ _ _:=⟨xt Ww E,(Ww.binds λ_ _ _ _ _ _=>fF λ_=>rfl),⟨fc,fi,fg,fm⟩,⟨a21,i21,Ww.kp⟩⟩;have Τ:cU l.prog w K mg base _ Cm "kind" _ _ _ _:=⟨v7 WK E,(WK.binds λ_ _ _ _ _ _=>cx λ_ _=>rfl),⟨fc,fi,fg,fm⟩,⟨a22,i22,WK.kp⟩⟩;have lZ:=mc (y_ X5 E aX Τ) (X5.binds λ_ _ _ _ _ _=>cx λ_ _=>rfl) (mg_of X G a23) X5.kp;have d_:=mc (vC VI E lZ) (VI.binds λ_ _ _ _ _ _=>cx λ_ _=>rfl) (mg_of X G a24) VI.kp;have nG:=mc (Bk Wf E d_) (Wf.binds λ_ _ _ _ _ _=>g6 λ_ _ _=>rfl) (mg_of X G a25) Wf.kp;have aK:cU l.prog w K mg base _ Cm "doors" _ _ _ _:=⟨tO Vg E Τ,(Vg.binds λ_ _ _ _ _ _=>cx λ_ _=>rfl),⟨fc,fi,fg,fm⟩,⟨a26,i26,Vg.kp⟩⟩;have oZ:=mc (A2 Xv E aK) (Xv.binds λ_ _ _ _ _ _=>g6 λ_ _ _=>rfl) (mg_of X G a27) Xv.kp;have gw:=mc (AO Vz E aX Τ oZ) (Vz.binds λ_ _ _ _ _ _=>cx λ_ _=>rfl) (mg_of X G a28) Vz.kp;have ig:=mc (rR Vx E) (Vx.binds λ_ _ _ _ _ _=>fF λ_=>rfl) (mg_of X G a29) Vx.kp;have gY:=mc (pT VT E) (VT.binds λ_ _ _ _ _ _=>g6 λ_ _ _=>rfl) (mg_of X G a30) VT.kp;have i7:=mc (tH VA E) (VA.binds λ_ _ _ _ _ _=>g6 λ_ _ _=>rfl) (mg_of X G a31) VA.kp;have fk:=mc (sA XH E) (XH.binds λ_ _ _ _ _ _=>zJ λ_ _ _ _=>rfl) (mg_of X G a32) XH.kp;have nI:=mc (AV Vk E ig gY i7 fk) (Vk.binds λ_ _ _ _ _ _=>cx λ_ _=>rfl) (mg_of X G a33) Vk.kp;have bj:=mc (zW Yb E bH) (Yb.binds λ_ _ _ _ _ _=>cx λ_ _=>rfl) (mg_of X G a34) Yb.kp;have jR:=mc (xM Vh E bj) (Vh.binds λ_ _ _ _ _ _=>zJ λ_ _ _ _=>rfl) (mg_of X G a35) Vh.kp;have lA:=mc (yk Vu E nI jR) (Vu.binds λ_ _ _ _ _ _=>fF λ_=>rfl) (mg_of X G a36) Vu.kp;have wG:=mc (IE V2 E bj) (V2.binds λ_ _ _ _ _ _=>cx λ_ _=>rfl) (mg_of X G a37) V2.kp;have gf:=mc (Kb Vc E bj) (Vc.binds λ_ _ _ _ _ _=>cx λ_ _=>rfl) (mg_of X G a38) Vc.kp;have mw:=mc (zw Wo E b7) (Wo.binds λ_ _ _ _ _ _=>fF λ_=>rfl) (mg_of X G a39) Wo.kp;have mK:=mc (ET Vt E aX wG gf mw) (Vt.binds λ_ _ _ _ _ _=>SH λ_ _ _ _ _=>rfl) (mg_of X G a40) Vt.kp;have eQ:cU l.prog w K mg base _ Cm "pay" _ _ _ _:=⟨yu XA E Τ,(XA.binds λ_ _ _ _ _ _=>cx λ_ _=>rfl),⟨fc,fi,fg,fm⟩,⟨a41,i41,XA.kp⟩⟩;have fR:cU l.prog w K mg base _ Cm "share" _ _ _ _:=⟨tD V6 E,(V6.binds λ_ _ _ _ _ _=>fF λ_=>rfl),⟨fc,fi,fg,fm⟩,⟨a42,i42,V6.kp⟩⟩;have lU:=mc (yj XD E aK Τ) (XD.binds λ_ _ _ _ _ _=>g6 λ_ _ _=>rfl) (mg_of X G a43) XD.kp;have oa:=mc (Mi XF E bj) (XF.binds λ_ _ _ _ _ _=>cx λ_ _=>rfl) (mg_of X G a44) XF.kp;have gs:=mc (BV V' E oa gf) (V'.binds λ_ _ _ _ _ _=>cx λ_ _=>rfl) (mg_of X G a45) V'.kp;have vw:=mc (Jn XO E Τ mK eQ fR lU gs) (XO.binds λ_ _ _ _ _ _=>g6 λ_ _ _=>rfl) (mg_of X G a46) XO.kp;have eW:=mc (zx Ws E lA aX vw) (Ws.binds λ_ _ _ _ _ _=>cx λ_ _=>rfl) (mg_of X G a47) Ws.kp;have dz:=mc (pj Wm E eW) (Wm.binds λ_ _ _ _ _ _=>g6 λ_ _ _=>rfl) (mg_of X G a48) Wm.kp;have jy:cU l.prog w K mg base _ Cm "shown" _ _ _ _:=⟨ue VS E oa gf,(VS.binds λ_ _ _ _ _ _=>zJ λ_ _ _ _=>rfl),⟨fc,fi,fg,fm⟩,⟨a49,i49,VS.kp⟩⟩;have aY:cU l.prog w K mg base _ Cm "all_shown" _ _ _ _:=⟨oR Va E aK jy,(Va.binds λ_ _ _ _ _ _=>g6 λ_ _ _=>rfl),⟨fc,fi,fg,fm⟩,⟨a50,i50,Va.kp⟩⟩;have kN:=mc (J5 Wq E) (Wq.binds λ_ _ _ _ _ _=>cx λ_ _=>rfl) (mg_of X G a51) Wq.kp;have lY:=mc (yZ X4 E kN) (X4.binds λ_ _ _ _ _ _=>fF λ_=>rfl) (mg_of X G a52) X4.kp;have xa:=mc (HQ Xc E kN) (Xc.binds λ_ _ _ _ _ _=>fF λ_=>rfl) (mg_of X G a53) Xc.kp;have jP:cU l.prog w K mg base _ Cm "look" _ _ _ _:=⟨wD Vs E Τ eQ gs aY aK lY xa,(Vs.binds λ_ _ _ _ _ _=>g6 λ_ _ _=>rfl),⟨fc,fi,fg,fm⟩,⟨a54,i54,Vs.kp⟩⟩;have ki:cU l.prog w K mg base _ Cm "best" _ _ _ _:=⟨vq XN E Τ jP aY,(XN.binds λ_ _ _ _ _ _=>g6 λ_ _ _=>rfl),⟨fc,fi,fg,fm⟩,⟨a55,i55,XN.kp⟩⟩;have bN:=mc (sS Vj E ki) (Vj.binds λ_ _ _ _ _ _=>g6 λ_ _ _=>rfl) (mg_of X G a56) Vj.kp;have oW:=mc (B' VZ E gw d_ dz bN) (VZ.binds λ_ _ _ _ _ _=>g6 λ_ _ _=>rfl) (mg_of X G a57) VZ.kp;have ym:=Fu TX E (P:=l.prog) (base:=base) nG oW bN
 have gx:EL l.prog w K mg base _ "mended" _ _ [Dt.str "one",Dt.bq] _ _:=⟨ym,⟨[V.str "one",V.bq],[Value.str "one" IF,Value.none],TX.binds (λ_ _ _ _ _ _ us hl=>by
  have hl:us.length=1:=by simpa using hl
  match us,hl with
  |[a0],_=>exact ⟨_,rfl,rfl⟩),(.cons ⟨_,rfl⟩ (.cons rfl .nil)),λ_ _=>⟨_,_,rfl,rfl,⟨_,_,rfl,rfl,rfl⟩⟩⟩,mg_of X G Zu,TX.kp⟩
 have nR:EL l.prog w K mg base _ "mended" _ _ [Dt.bq] _ _:=⟨ym,⟨[V.bq],[Value.none],TX.binds (λ_ _ _ _ _ _ us hl=>by
  have hl:us.length=2:=by simpa using hl
  match us,hl with
  |[a0,a1],_=>exact ⟨_,rfl,rfl⟩),(.cons rfl .nil),λ_ _=>⟨_,_,rfl,rfl,rfl⟩⟩,mg_of X G Zu,TX.kp⟩
 have qD:=mc (Ef XZ E gx) (XZ.binds λ_ _ _ _ _ _=>fF λ_=>rfl) (mg_of X G a59) XZ.kp;have gM:=mc (zH V4 E eW gw) (V4.binds λ_ _ _ _ _ _=>g6 λ_ _ _=>rfl) (mg_of X G a60) V4.kp;have jh:=mc (zX We E) (We.binds λ_ _ _ _ _ _=>fF λ_=>rfl) (mg_of X G a61) We.kp;have gI:=mc (x9 WX E jh aR) (WX.binds λ_ _ _ _ _ _=>cx λ_ _=>rfl) (mg_of X G a62) WX.kp;have kR:=mc (B8 W9 E ag d8) (W9.binds λ_ _ _ _ _ _=>g6 λ_ _ _=>rfl) (mg_of X G a63) W9.kp;have hJ:=mc (xH WH E) (WH.binds λ_ _ _ _ _ _=>cx λ_ _=>rfl) (mg_of X G a64) WH.kp;exact NW (N_ Zn E lW kf oP f_ gx nR qD gM gI kR ag hJ)
theorem walk{l:PySem.W.OpenLaw}{q:Program}{loose:List Str}{XP:(Str->Option Value)->Heap->Prop}{YP:World->Heap->Prop}{d:DefRec}{K:Params->PySem.W.Frag}(hn:l.most=some 63)(R0:d.params.defaults=[])
  (hY:∀(w:World) (h:Heap),YP w h->(K w.params).In h)
  (F:∀(w:World) (mg:Str->Option Value) (fa:Addr) (h:Heap),(K w.params).In h->h.Ns mainGlobals mg->mg d.name=some (.ref fa)->
   ∃fd:FuncData,(∀(s:Shared) (u:Value),BindsTo s fd ⟨[u],[]⟩ [("_law_script",u)])/\∀base:Heap,(K w.params).In base->base.Ns mainGlobals mg->aq l.prog w (K w.params) mg base UY 12 fa fd ["_law_script"] (zO (K w.params))):
  PySem.W.WalkO q loose XP YP l.row.toRowW d [] (λf vs=>PySem.call f vs):=
 L2.w6 (n:=63) (k:=12) (x:="_law_script") (CX:=λ_=>UY) (sp:=λw=>zO (K w.params)) hn (by decide) R0 ⟨rfl,by decide,by decide⟩ hY F (λ_ _ a ns hl _ hS=>⟨a,ns,rfl,hS,hl,λ_=>rfl⟩) λ_ _ _ _ _ z=>z
end
end Pg
open PySem PySem.W PyProof.Rows
set_option maxRecDepth 100000 in
set_option maxHeartbeats 0 in
theorem PySem.Challenge.cw_chanceduel_k35_whole_plans_that_hold_holds : PySem.Challenge.rw_chanceduel_k35_whole_plans_that_hold.Holds := by
 w_on;o_law
 refine holds_open (q:=Hd.q) (loose:=["TURNED_KINDS","mended"]) (Xt:=Hd.Xt) (XP:=XL Hd.q [])
  (Yf:=Hd.H.obs) (Ya:=Hd.H.val) (YP:=Hd.H.says) Hd.left Hd.H.of Hd.H.keeps
  (λs e=>xl_of s (Bool.and_eq_true_iff.mp e).1) XL.keeps (by rfl) (by rfl) (by rfl)
  (λs e=>recFacts_of (Bool.and_eq_true_iff.mp e).2) (by rfl) (by assumption) (by decide+kernel)
  ⟨rfl,rfl,rfl,rfl,rfl,by decide+kernel⟩ ?hw ?hc
 (case hw=>w_witness2)
 refine Pg.walk (l:=PySem.Challenge.rw_chanceduel_k35_whole_plans_that_hold) rfl rfl (fun w h Y=>PySem.W.kIn_of Y) ?F
 case F=>
  k_fill
  intro w mg fa h KX G Mr
  refine' Pg.all_mk KX G Mr ?_ ?_ ?_ ?_ ?_ ?_ ?_ ?_ ?_ ?_ ?_ ?_ ?_ ?_ ?_ ?_ ?_ ?_ ?_ ?_ ?_ ?_ ?_ ?_ ?_ ?_ ?_ ?_ ?_ ?_ ?_ ?_ ?_ ?_ ?_ ?_ ?_ ?_ ?_ ?_ ?_ ?_ ?_ ?_ ?_ ?_ ?_ ?_ ?_ ?_ ?_ ?_ ?_ ?_ ?_ ?_ ?_ ?_ ?_ ?_ ?_ ?_ ?_ ?_ ?_ ?_ ?_ ?_ ?_ ?_ ?_ ?_ ?_ ?_ ?_ ?_ ?_ ?_ ?_ ?_ ?_ ?_ ?_ ?_ ?_ ?_ ?_ ?_ ?_ ?_ ?_ ?_ ?_ ?_ ?_ ?_ ?_ ?_ ?_ ?_ ?_ ?_ ?_ ?_ ?_ ?_ ?_ ?_ ?_ ?_ ?_
  all_goals try first|(refine' Pg.FT.of ?_ ?_ ?_ ?_ <;> try k_is)|(refine' Pg.FM.of ?_ ?_ ?_ ?_ ?_ <;> try k_is)|(refine' Pg.FV.of ?_ ?_ ?_ ?_ ?_ <;> try k_is)|k_is|k_exc|kernel_rfl
  all_goals try exact ⟨⟨_,_,rfl,rfl⟩,⟨_,_,rfl,rfl⟩,⟨_,_,rfl,rfl⟩,trivial⟩
