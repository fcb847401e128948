import PyProof.Rows.All
import Wide.All
import OpenK.AllK
import Wide.FinOn
import Lean
import PyProof.EqAt
import PyProof.EqKinds
import PyProof.TupleCall
import PyProof.NeKinds
import PyProof.ZipIter
import PyProof.DictUpdate
import PyProof.FactsAll.dict_1
import PyProof.DictIter
import PyProof.DictWalks
import PySem.Challenge.RW_chanceduel_k23_an_answer
set_option Elab.async false
set_option linter.all false
set_option maxRecDepth 100000
set_option maxHeartbeats 4000000
set_option compiler.extract_closed false
def aaa:=@List.getElem?_eq_getElem
def aab:=@List.getD_eq_getElem?_getD
def aac:=@List.length_map
def aad:=@List.mem_cons_of_mem
def aae:=@List.mem_cons_self
def aaf:=@List.getElem?_eq_some_iff
def aag:=@List.mem_of_getElem?
def aah:=@List.length_append
def aaj:=@List.mem_map
def aak:=@Int.le_of_lt
def aal:=@PySem.Heap.get?_push_of_some
def aam:=@PySem.wpAny_bind
def aan:=@Nat.le_refl
def aao:=@List.getElem?_append_right
def aap:=@decide_eq_true_iff
def aaq:=@List.getElem?_map
def aar:=@Option.some.inj
def aas:=@List.getElem?_append_left
def aat:=@PySem.Heap.lt_size
def aau:=@Nat.lt_of_lt_of_le
def aav:=@Bool.and_eq_true
def aaw:=@if_neg
def aax:=@if_pos
def aay:=@List.size_toArray
def aaz:=@of_decide_eq_true
def aaB:=@List.length_cons
def aaC:=@Int.mul_le_mul_of_nonneg_left
def aaD:=@decide_eq_true
def aaE:=@Nat.le_trans
def aaF:=@Bool.false_ne_true
def aaG:=@List.getElem_mem
def aaH:=@List.map_cons
def aaI:=@List.mem_append_right
def aaJ:=@decide_eq_false
def aaK:=@List.mem_cons
def aaL:=@absurd
def aaM:=@List.map_map
def aaN:=@Int.lt_of_le_of_lt
def aaO:=@Int.mul_le_mul_of_nonneg_right
def aaP:=@Int.mul_pos
def aaQ:=@Rat.intCast_mul
def aaR:=@PySem.wpAny_pure
def aaS:=@PySem.Heap.get?_push_size
def aaT:=@Nat.ne_of_lt
def aaU:=@Int.eq_of_mul_eq_mul_left
def aaV:=@List.mem_append
def aaW:=@List.nil_append
def aaX:=@Nat.lt_of_le_of_lt
def aaY:=@List.getElem?_range
def aaZ:=@Rat.mul_le_mul_of_nonneg_left
def aa0:=@congrArg
def aa1:=@Int.emod_lt_of_pos
def aa2:=@List.mem_singleton
def aa3:=@List.getElem?_set_self
def aa4:=@Int.emod_nonneg
def aa5:=@List.length_replicate
def aa6:=@Int.mul_comm
def aa7:=@List.append_nil
def aa8:=@List.map_append
def aa9:=@List.getElem?_set_ne
def aba:=@List.mem_range
def abb:=@List.append_assoc
def abc:=@List.length_range
def abd:=@List.zip_cons_cons
def abe:=@List.length_zip
def abf:=@of_decide_eq_false
def abg:=@List.map_congr_left
def abh:=@Rat.intCast_le_intCast
def abi:=@Int.mul_nonneg
def abj:=@Int.natAbs_mul
def abl:=@List.getElem_of_mem
def abm:=@Int.natAbs_of_nonneg
def abn:=@List.length_set
def abo:=@List.replicate_succ
def abp:=@Int.ne_of_gt
def abq:=@List.ext_getElem
def abr:=@List.exists_cons_of_ne_nil
def abt:=@List.drop_eq_getElem_cons
def abu:=@Nat.lt_succ_self
def abv:=@List.lookup_cons
def abw:=@List.all_eq_true
def aby:=@beq_iff_eq
def abz:=@Option.isSome_iff_exists
def abA:=@Int.mul_ediv_cancel_left
def abB:=@Int.mul_le_mul
def abC:=@List.nodup_cons
def abE:=@List.foldl_cons
def abF:=@List.range_succ_eq_map
def abG:=@Rat.intCast_lt_intCast
def abH:=@List.flatten_cons
def abI:=@Nat.lt_irrefl
def abJ:=@List.getElem?_zip_eq_some
def abK:=@List.of_mem_zip
def abL:=@Nat.not_lt_zero
def abM:=@Int.le_trans
def abN:=@Int.natCast_add
def abO:=@Rat.mul_le_mul_of_nonneg_right
def abP:=@List.length_drop
def abQ:=@Nat.add_sub_cancel_left
def abR:=@Int.ofNat_lt
def abS:=@Int.toNat_natCast
def abT:=@List.take_of_length_le
def abU:=@Option.map_eq_some_iff
def abV:=@Int.fmod_eq_emod_of_nonneg
def abW:=@Nat.le_add_right
def abX:=@Int.pow_succ
def abY:=@Int.pow_nonneg
def abZ:=@Int.mul_neg_of_pos_of_neg
def ab0:=@List.set_append_left
def ab1:=@Nat.pow_le_pow_right
def ab2:=@Nat.lt_succ_of_lt
def ab3:=@List.getElem?_replicate
def ab4:=@List.all_cons
def ab5:=@List.any_cons
def ab6:=@Int.le_of_dvd
def ab7:=@PySem.wpAny_mono
def ab8:=@List.drop_eq_nil_of_le
def ab9:=@Nat.zero_le
def aca:=@List.length_filter_le
def acb:=@Array.getElem?_eq_some_iff
def acd:=@Int.fdiv_eq_ediv_of_nonneg
def ace:=@PySem.F.slot_dict_getitem
def acf:=@Array.getElem?_eq_getElem
def acg:=@Int.le_of_mul_le_mul_left
def ach:=@List.length_take
def aci:=@Int.ediv_le_self
def acj:=@List.filterMap_cons
def ack:=@Int.toNat_of_nonneg
def acm:=@List.getElem?_take_of_lt
def acn:=@Nat.min_self
def aco:=@List.mem_of_mem_eraseIdx
def acp:=@Int.lt_or_le
def acq:=@Int.lt_trans
def acr:=@List.mem_filterMap
def acs:=@Nat.min_eq_left
def acu:=@List.map_take
def acv:=@List.map_drop
def acw:=@Bool.or_eq_true
def acx:=@List.nodup_append
def acy:=@List.drop_zero
def acz:=@Nat.ne_of_gt
def acA:=@Int.dvd_zero
namespace Hd
open PySem PySem.W PyProof.Rows
def at_(i:Nat):Stmt:=PySem.Challenge.pw_chanceduel_k23_an_answer.main.body.getD i (.Pass ⟨0,0,0,0⟩)
def Lg:Stmt->Nat->Stmt
  | .ClassDef _ _ _ b _ _ _ _ _ _ _,j=>b.getD j (.Pass ⟨0,0,0,0⟩)
  | s,_=>s
def dA:Stmt->Arguments
  | .FunctionDef _ a _ _ _ _ _ _ _ _=>a
  | _=>⟨[],[],none,[],[],none,[]⟩
def dB:Stmt->List Stmt
  | .FunctionDef _ _ b _ _ _ _ _ _ _=>b
  | _=>[]
def dS:Stmt->Scope
  | .FunctionDef _ _ _ _ _ _ c _ _ _=>c
  | _=>{kind:= .function,names:=[],isGenerator:=false,isCoroutine:=false}
abbrev row:=PySem.Challenge.rw_chanceduel_k23_an_answer.row
abbrev en(P:Params)(x:Str)(t:Tok)(v:Value):DictEntry:=⟨PyData.keyHash P x, .str x t,v⟩
def q:Program:={PySem.Challenge.pw_chanceduel_k23_an_answer with main:={PySem.Challenge.pw_chanceduel_k23_an_answer.main with body:=[at_ 1,at_ 2,at_ 3,at_ 4,at_ 5,at_ 6,at_ 7,at_ 9,at_ 10,at_ 11,at_ 12,at_ 13,at_ 14,at_ 16,at_ 17,at_ 18,at_ 19,at_ 20,at_ 21,at_ 22,at_ 23,at_ 24,at_ 25,at_ 27,at_ 28,at_ 29,at_ 30,at_ 31,at_ 32,at_ 33,at_ 34,at_ 36,at_ 37,at_ 38,at_ 39,at_ 40,at_ 41,at_ 42,at_ 43,at_ 45,at_ 46,at_ 47,at_ 48,at_ 49,at_ 50,at_ 51,at_ 52,at_ 53,at_ 54,at_ 55,at_ 57,at_ 58,at_ 60,at_ 61,at_ 62,at_ 63,at_ 64,at_ 65,at_ 66,at_ 67,at_ 68,at_ 69,at_ 70,at_ 71,at_ 72,at_ 73,at_ 74,at_ 75,at_ 76,at_ 77,at_ 78]}}
abbrev cO(x q:Str)(t l n f a m:Nat):Obj:=⟨.type "code",none, .fields #[.str x t, .str q (t+1), .str "/claim/cut.py" (t+2), .int l 0, .int n 0, .int 0 0, .int 0 0, .int f 0, .ref a, .bool true, .int 181 0, .ref (a+1), .none, .ref (a+2), .ref (a+3), .ref (a+4), .int m 0, .int l 0, .str "/claim/cut.py" (m+1)], #[]⟩
abbrev dO(x q:Str)(t l n f a m:Nat):Obj:=⟨.type "code",none, .fields #[.str x t, .str q (t+1), .str "/claim/cut.py" (t+2), .int l 0, .int n 0, .int 0 0, .int 0 0, .int f 0, .ref a, .bool true, .int 181 0, .ref (a+1), .none, .none, .none, .ref (a+2), .int m 0, .int l 0, .str "/claim/cut.py" (m+1)], #[]⟩
abbrev fO(x q:Str)(s:Stmt)(m:Value)(c:Nat):Obj:=⟨.type "function",none, .func ⟨x,q,(dA s), .stmts (dB s),(dS s),3,[], .none, .none, .none,m,none, .ref c, .none,0⟩, #[]⟩
abbrev m0:Value:= .str "chanceduel.parts" 341
abbrev m1:Value:= .str "chanceduel.places" 395
abbrev m2:Value:= .str "chanceduel.floors" 453
abbrev m3:Value:= .str "chanceduel.rows" 606
abbrev m4:Value:= .str "chanceduel.plans" 682
abbrev m5:Value:= .str "chanceduel.answers" 782
abbrev m6:Value:= .str "law_chanceduel_k23_an_answer" 807
noncomputable def K:Params->Frag:=λP=>
(nat_lit 2,⟨.none,none,(.dict #[] 0), #[]⟩)::
(nat_lit 3,⟨(.type "dict"),none,(.dict #[(en P "__name__" 165 m6),(en P "__doc__" 166 .none),(en P "__package__" 167 .none),(en P "__loader__" 168 (.builtin "__main__.__loader__#opaque")),(en P "__spec__" 169 .none),(en P "__annotations__" 170 (.ref 6)),(en P "__builtins__" 171 (.ref 4)),(en P "__file__" 173 (.str "/claim/cut.py" 172)),(en P "__cached__" 174 .none),(en P "DuelError" 206 (.ref 24)),(en P "NoNumber" 222 (.ref 37)),(en P "NoFloor" 238 (.ref 49)),(en P "NoPlace" 263 (.ref 68)),(en P "NoAnswer" 288 (.ref 87)),(en P "ManyAnswers" 315 (.ref 106)),(en P "NoPlan" 340 (.ref 125)),(en P "common_divisor" 353 (.ref 134)),(en P "fraction" 362 (.ref 141)),(en P "plus" 370 (.ref 148)),(en P "minus" 378 (.ref 155)),(en P "times" 386 (.ref 162)),(en P "under" 394 (.ref 169)),(en P "HANDS" 399 (.ref 170)),(en P "MOST_DOORS" 401 (.int 6 400)),(en P "MOST_BOTTOM" 403 (.int 1000000 402)),(en P "fits_pay" 410 (.ref 177)),(en P "fits_door" 418 (.ref 184)),(en P "common_bottom" 427 (.ref 191)),(en P "fits_chances" 433 (.ref 196)),(en P "fits_doors" 439 (.ref 201)),(en P "fits_row" 445 (.ref 206)),(en P "copied_row" 452 (.ref 213)),(en P "MOST_PLACES" 456 (.int 12 455)),(en P "MOST_SHARE_BOTTOM" 458 (.int 1000 457)),(en P "TURNED_KINDS" 468 (.ref 214)),(en P "fits_share" 475 (.ref 221)),(en P "weighed" 486 (.ref 228)),(en P "greatest" 495 (.ref 235)),(en P "least" 504 (.ref 242)),(en P "Floor" 605 (.ref 319)),(en P "with_weights" 618 (.ref 330)),(en P "number_of_head" 628 (.ref 337)),(en P "moved_ahead" 637 (.ref 344)),(en P "cleared_line" 643 (.ref 349)),(en P "cleared" 649 (.ref 354)),(en P "quotients" 662 (.ref 361)),(en P "still_of" 668 (.ref 366)),(en P "answer_of" 681 (.ref 373)),(en P "places_of" 689 (.ref 378)),(en P "first_plan" 699 (.ref 385)),(en P "has_door" 708 (.ref 392)),(en P "doors_of" 719 (.ref 399)),(en P "better_doors" 731 (.ref 406)),(en P "ways_from" 741 (.ref 413)),(en P "whole_row" 747 (.ref 418)),(en P "led_row" 760 (.ref 425)),(en P "row_of" 766 (.ref 430)),(en P "worths_by" 772 (.ref 435)),(en P "worths_of" 781 (.ref 442)),(en P "worths_against" 793 (.ref 449)),(en P "against" 806 (.ref 456)),(en P "_law_at" 818 (.ref 463)),(en P "_law_stream" 829 (.ref 470)),(en P "_law_lowest" 839 (.ref 477)),(en P "_law_pay" 848 (.ref 484)),(en P "_law_doors" 854 (.ref 489)),(en P "_law_by_digits" 861 (.ref 496)),(en P "_law_things" 874 (.ref 503)),(en P "_law_share_of" 884 (.ref 510)),(en P "_law_floor" 904 (.ref 517)),(en P "_law_copy" 910 (.ref 522)),(en P "_law_plan" 926 (.ref 529)),(en P "_law_less" 934 (.ref 536)),(en P "_law_shown" 945 (.ref 543)),(en P "_law_due" 951 (.ref 548)),(en P "_law_whole" 958 (.ref 555)),(en P "_law_table" 967 (.ref 562)),(en P "_law_answer" 973 (.ref 567)),(en P "_law_best" 987 (.ref 574)),(en P "law" 1009 (.ref 581))] 80), #[]⟩)::
(nat_lit 23,⟨(.type "dict"),none,(.dict #[(en P "__module__" 196 (.str "chanceduel.errors" 187)),(en P "__firstlineno__" 200 (.int 2 199)),(en P "__static_attributes__" 201 (.ref 22)),(en P "__weakref__" 203 (.ref 25)),(en P "__doc__" 204 .none)] 3), #[]⟩)::
(nat_lit 24,⟨(.type "type"),none,(.cls ⟨"DuelError",[(.type "ValueError")],[(.ref 24),(.type "ValueError"),(.type "Exception"),(.type "BaseException"),(.type "object")],23,"DuelError",true,[],[(.ref 37),(.ref 49),(.ref 68),(.ref 87),(.ref 106),(.ref 125)],false,none,false⟩), #[(some (.ref 15)),none,(some (.str "DuelError" 189)),(some (.str "DuelError" 197)),(some (.builtin "ValueError.__new__")),(some (.bool true))]⟩)::
(nat_lit 37,⟨(.type "type"),none,(.cls ⟨"NoNumber",[(.ref 24)],[(.ref 37),(.ref 24),(.type "ValueError"),(.type "Exception"),(.type "BaseException"),(.type "object")],36,"NoNumber",true,[],[],false,none,false⟩), #[(some (.ref 28)),none,(some (.str "NoNumber" 207)),(some (.str "NoNumber" 215)),(some (.builtin "ValueError.__new__")),(some (.bool true))]⟩)::
(nat_lit 49,⟨(.type "type"),none,(.cls ⟨"NoFloor",[(.ref 24)],[(.ref 49),(.ref 24),(.type "ValueError"),(.type "Exception"),(.type "BaseException"),(.type "object")],48,"NoFloor",true,[],[],false,none,false⟩), #[(some (.ref 40)),none,(some (.str "NoFloor" 223)),(some (.str "NoFloor" 231)),(some (.builtin "ValueError.__new__")),(some (.bool true))]⟩)::
(nat_lit 68,⟨(.type "type"),none,(.cls ⟨"NoPlace",[(.ref 24)],[(.ref 68),(.ref 24),(.type "ValueError"),(.type "Exception"),(.type "BaseException"),(.type "object")],67,"NoPlace",true,[],[],false,none,false⟩), #[(some (.ref 52)),none,(some (.str "NoPlace" 239)),(some (.str "NoPlace" 247)),(some (.builtin "ValueError.__new__")),(some (.bool true))]⟩)::
(nat_lit 87,⟨(.type "type"),none,(.cls ⟨"NoAnswer",[(.ref 24)],[(.ref 87),(.ref 24),(.type "ValueError"),(.type "Exception"),(.type "BaseException"),(.type "object")],86,"NoAnswer",true,[],[],false,none,false⟩), #[(some (.ref 71)),none,(some (.str "NoAnswer" 264)),(some (.str "NoAnswer" 272)),(some (.builtin "ValueError.__new__")),(some (.bool true))]⟩)::
(nat_lit 106,⟨(.type "type"),none,(.cls ⟨"ManyAnswers",[(.ref 24)],[(.ref 106),(.ref 24),(.type "ValueError"),(.type "Exception"),(.type "BaseException"),(.type "object")],105,"ManyAnswers",true,[],[],false,none,false⟩), #[(some (.ref 90)),none,(some (.str "ManyAnswers" 289)),(some (.str "ManyAnswers" 297)),(some (.builtin "ValueError.__new__")),(some (.bool true))]⟩)::
(nat_lit 125,⟨(.type "type"),none,(.cls ⟨"NoPlan",[(.ref 24)],[(.ref 125),(.ref 24),(.type "ValueError"),(.type "Exception"),(.type "BaseException"),(.type "object")],124,"NoPlan",true,[],[],false,none,false⟩), #[(some (.ref 109)),none,(some (.str "NoPlan" 316)),(some (.str "NoPlan" 324)),(some (.builtin "ValueError.__new__")),(some (.bool true))]⟩)::
(nat_lit 133,cO "common_divisor" "common_divisor" 343 30 2 3 128 351)::
(nat_lit 134,fO "common_divisor" "common_divisor" (at_ 9) m0 133)::
(nat_lit 140,cO "fraction" "fraction" 354 38 2 3 135 360)::
(nat_lit 141,fO "fraction" "fraction" (at_ 10) m0 140)::
(nat_lit 147,cO "plus" "plus" 363 45 2 3 142 368)::
(nat_lit 148,fO "plus" "plus" (at_ 11) m0 147)::
(nat_lit 154,cO "minus" "minus" 371 47 2 3 149 376)::
(nat_lit 155,fO "minus" "minus" (at_ 12) m0 154)::
(nat_lit 161,cO "times" "times" 379 49 2 3 156 384)::
(nat_lit 162,fO "times" "times" (at_ 13) m0 161)::
(nat_lit 168,cO "under" "under" 387 51 2 3 163 392)::
(nat_lit 169,fO "under" "under" (at_ 14) m0 168)::
(nat_lit 170,⟨(.type "tuple"),none,(.seq #[(.str "one" 397),(.str "other" 398)] 0), #[]⟩)::
(nat_lit 176,cO "fits_pay" "fits_pay" 404 57 1 3 171 408)::
(nat_lit 177,fO "fits_pay" "fits_pay" (at_ 19) m1 176)::
(nat_lit 183,cO "fits_door" "fits_door" 411 59 2 3 178 416)::
(nat_lit 184,fO "fits_door" "fits_door" (at_ 20) m1 183)::
(nat_lit 190,cO "common_bottom" "common_bottom" 419 61 1 3 185 425)::
(nat_lit 191,fO "common_bottom" "common_bottom" (at_ 21) m1 190)::
(nat_lit 195,dO "fits_chances" "fits_chances" 428 66 1 3 192 431)::
(nat_lit 196,fO "fits_chances" "fits_chances" (at_ 22) m1 195)::
(nat_lit 200,dO "fits_doors" "fits_doors" 434 72 2 3 197 437)::
(nat_lit 201,fO "fits_doors" "fits_doors" (at_ 23) m1 200)::
(nat_lit 205,dO "fits_row" "fits_row" 440 76 2 3 202 443)::
(nat_lit 206,fO "fits_row" "fits_row" (at_ 24) m1 205)::
(nat_lit 212,cO "copied_row" "copied_row" 446 85 1 3 207 450)::
(nat_lit 213,fO "copied_row" "copied_row" (at_ 25) m1 212)::
(nat_lit 214,⟨(.type "dict"),none,(.dict #[(en P "one" 459 (.str "other" 460)),(en P "other" 461 (.str "one" 462)),(en P "chance" 463 (.str "chance" 464))] 3), #[]⟩)::
(nat_lit 220,cO "fits_share" "fits_share" 469 93 1 3 215 473)::
(nat_lit 221,fO "fits_share" "fits_share" (at_ 30) m2 220)::
(nat_lit 227,cO "weighed" "weighed" 476 95 2 3 222 484)::
(nat_lit 228,fO "weighed" "weighed" (at_ 31) m2 227)::
(nat_lit 234,cO "greatest" "greatest" 487 100 1 3 229 493)::
(nat_lit 235,fO "greatest" "greatest" (at_ 32) m2 234)::
(nat_lit 241,cO "least" "least" 496 106 1 3 236 502)::
(nat_lit 242,fO "least" "least" (at_ 33) m2 241)::
(nat_lit 253,dO "__init__" "Floor.__init__" 517 114 3 3 250 520)::
(nat_lit 254,fO "__init__" "Floor.__init__" (Lg (at_ 34) 0) m2 253)::
(nat_lit 260,cO "size" "Floor.size" 523 125 1 3 255 527)::
(nat_lit 261,fO "size" "Floor.size" (Lg (at_ 34) 1) m2 260)::
(nat_lit 267,cO "share" "Floor.share" 530 128 1 3 262 534)::
(nat_lit 268,fO "share" "Floor.share" (Lg (at_ 34) 2) m2 267)::
(nat_lit 274,cO "kind" "Floor.kind" 537 131 2 3 269 542)::
(nat_lit 275,fO "kind" "Floor.kind" (Lg (at_ 34) 3) m2 274)::
(nat_lit 281,cO "doors" "Floor.doors" 545 134 2 3 276 550)::
(nat_lit 282,fO "doors" "Floor.doors" (Lg (at_ 34) 4) m2 281)::
(nat_lit 288,cO "pay" "Floor.pay" 553 139 2 3 283 558)::
(nat_lit 289,fO "pay" "Floor.pay" (Lg (at_ 34) 5) m2 288)::
(nat_lit 300,cO "shown" "Floor.shown" 567 147 4 3 295 575)::
(nat_lit 301,fO "shown" "Floor.shown" (Lg (at_ 34) 7) m2 300)::
(nat_lit 305,dO "all_shown" "Floor.all_shown" 578 151 3 3 302 581)::
(nat_lit 306,fO "all_shown" "Floor.all_shown" (Lg (at_ 34) 8) m2 305)::
(nat_lit 310,dO "look" "Floor.look" 584 154 3 3 307 587)::
(nat_lit 311,fO "look" "Floor.look" (Lg (at_ 34) 9) m2 310)::
(nat_lit 315,dO "best" "Floor.best" 590 164 3 3 312 593)::
(nat_lit 316,fO "best" "Floor.best" (Lg (at_ 34) 10) m2 315)::
(nat_lit 318,⟨(.type "dict"),none,(.dict #[(en P "__module__" 512 m2),(en P "__firstlineno__" 516 (.int 112 515)),(en P "__init__" 522 (.ref 254)),(en P "size" 529 (.ref 261)),(en P "share" 536 (.ref 268)),(en P "kind" 544 (.ref 275)),(en P "doors" 552 (.ref 282)),(en P "pay" 560 (.ref 289)),(en P "rows" 566 (.ref 294)),(en P "shown" 577 (.ref 301)),(en P "all_shown" 583 (.ref 306)),(en P "look" 589 (.ref 311)),(en P "best" 595 (.ref 316)),(en P "__static_attributes__" 598 (.ref 317)),(en P "__dict__" 600 (.ref 320)),(en P "__weakref__" 602 (.ref 321)),(en P "__doc__" 603 .none)] 4), #[]⟩)::
(nat_lit 319,⟨(.type "type"),none,(.cls ⟨"Floor",[(.type "object")],[(.ref 319),(.type "object")],318,"Floor",true,[],[],false,none,false⟩), #[none,none,(some (.str "Floor" 505)),(some (.str "Floor" 513)),(some (.builtin "object.__new__")),(some (.bool true))]⟩)::
(nat_lit 329,cO "with_weights" "with_weights" 608 170 1 3 324 616)::
(nat_lit 330,fO "with_weights" "with_weights" (at_ 36) m3 329)::
(nat_lit 336,cO "number_of_head" "number_of_head" 619 177 3 3 331 626)::
(nat_lit 337,fO "number_of_head" "number_of_head" (at_ 37) m3 336)::
(nat_lit 343,cO "moved_ahead" "moved_ahead" 629 182 3 3 338 635)::
(nat_lit 344,fO "moved_ahead" "moved_ahead" (at_ 38) m3 343)::
(nat_lit 348,dO "cleared_line" "cleared_line" 638 184 4 3 345 641)::
(nat_lit 349,fO "cleared_line" "cleared_line" (at_ 39) m3 348)::
(nat_lit 353,dO "cleared" "cleared" 644 186 2 3 350 647)::
(nat_lit 354,fO "cleared" "cleared" (at_ 40) m3 353)::
(nat_lit 360,cO "quotients" "quotients" 650 203 4 3 355 660)::
(nat_lit 361,fO "quotients" "quotients" (at_ 41) m3 360)::
(nat_lit 372,cO "answer_of" "answer_of" 669 213 1 3 367 679)::
(nat_lit 373,fO "answer_of" "answer_of" (at_ 43) m3 372)::
(nat_lit 377,dO "places_of" "places_of" 684 226 2 3 374 687)::
(nat_lit 378,fO "places_of" "places_of" (at_ 45) m4 377)::
(nat_lit 384,cO "first_plan" "first_plan" 690 228 2 3 379 697)::
(nat_lit 385,fO "first_plan" "first_plan" (at_ 46) m4 384)::
(nat_lit 391,cO "has_door" "has_door" 700 233 3 3 386 706)::
(nat_lit 392,fO "has_door" "has_door" (at_ 47) m4 391)::
(nat_lit 398,cO "doors_of" "doors_of" 709 235 2 3 393 717)::
(nat_lit 399,fO "doors_of" "doors_of" (at_ 48) m4 398)::
(nat_lit 405,cO "better_doors" "better_doors" 720 245 3 3 400 729)::
(nat_lit 406,fO "better_doors" "better_doors" (at_ 49) m4 405)::
(nat_lit 412,cO "ways_from" "ways_from" 732 252 3 3 407 739)::
(nat_lit 413,fO "ways_from" "ways_from" (at_ 50) m4 412)::
(nat_lit 417,dO "whole_row" "whole_row" 742 257 1 3 414 745)::
(nat_lit 418,fO "whole_row" "whole_row" (at_ 51) m4 417)::
(nat_lit 424,cO "led_row" "led_row" 748 260 5 3 419 758)::
(nat_lit 425,fO "led_row" "led_row" (at_ 52) m4 424)::
(nat_lit 429,dO "row_of" "row_of" 761 266 3 3 426 764)::
(nat_lit 430,fO "row_of" "row_of" (at_ 53) m4 429)::
(nat_lit 434,dO "worths_by" "worths_by" 767 272 2 3 431 770)::
(nat_lit 435,fO "worths_by" "worths_by" (at_ 54) m4 434)::
(nat_lit 441,cO "worths_of" "worths_of" 773 274 3 3 436 779)::
(nat_lit 442,fO "worths_of" "worths_of" (at_ 55) m4 441)::
(nat_lit 448,cO "worths_against" "worths_against" 784 277 3 3 443 791)::
(nat_lit 449,fO "worths_against" "worths_against" (at_ 57) m5 448)::
(nat_lit 455,cO "against" "against" 794 281 3 3 450 804)::
(nat_lit 456,fO "against" "against" (at_ 58) m5 455)::
(nat_lit 462,cO "_law_at" "_law_at" 809 292 2 3 457 816)::
(nat_lit 463,fO "_law_at" "_law_at" (at_ 60) m6 462)::
(nat_lit 469,cO "_law_stream" "_law_stream" 819 299 2 3 464 827)::
(nat_lit 470,fO "_law_stream" "_law_stream" (at_ 61) m6 469)::
(nat_lit 476,cO "_law_lowest" "_law_lowest" 830 306 2 3 471 837)::
(nat_lit 477,fO "_law_lowest" "_law_lowest" (at_ 62) m6 476)::
(nat_lit 483,cO "_law_pay" "_law_pay" 840 311 2 3 478 846)::
(nat_lit 484,fO "_law_pay" "_law_pay" (at_ 63) m6 483)::
(nat_lit 488,dO "_law_doors" "_law_doors" 849 316 4 3 485 852)::
(nat_lit 489,fO "_law_doors" "_law_doors" (at_ 64) m6 488)::
(nat_lit 495,cO "_law_by_digits" "_law_by_digits" 855 325 1 3 490 859)::
(nat_lit 496,fO "_law_by_digits" "_law_by_digits" (at_ 65) m6 495)::
(nat_lit 502,cO "_law_things" "_law_things" 862 327 4 3 497 872)::
(nat_lit 503,fO "_law_things" "_law_things" (at_ 66) m6 502)::
(nat_lit 509,cO "_law_share_of" "_law_share_of" 875 336 2 3 504 882)::
(nat_lit 510,fO "_law_share_of" "_law_share_of" (at_ 67) m6 509)::
(nat_lit 516,cO "_law_floor" "_law_floor" 885 340 1 3 511 902)::
(nat_lit 517,fO "_law_floor" "_law_floor" (at_ 68) m6 516)::
(nat_lit 521,dO "_law_copy" "_law_copy" 905 362 1 3 518 908)::
(nat_lit 522,fO "_law_copy" "_law_copy" (at_ 69) m6 521)::
(nat_lit 528,cO "_law_plan" "_law_plan" 911 364 4 3 523 924)::
(nat_lit 529,fO "_law_plan" "_law_plan" (at_ 70) m6 528)::
(nat_lit 535,cO "_law_less" "_law_less" 927 375 2 3 530 932)::
(nat_lit 536,fO "_law_less" "_law_less" (at_ 71) m6 535)::
(nat_lit 542,cO "_law_shown" "_law_shown" 935 377 3 3 537 943)::
(nat_lit 543,fO "_law_shown" "_law_shown" (at_ 72) m6 542)::
(nat_lit 547,dO "_law_due" "_law_due" 946 381 4 3 544 949)::
(nat_lit 548,fO "_law_due" "_law_due" (at_ 73) m6 547)::
(nat_lit 554,cO "_law_whole" "_law_whole" 952 400 1 3 549 956)::
(nat_lit 555,fO "_law_whole" "_law_whole" (at_ 74) m6 554)::
(nat_lit 561,cO "_law_table" "_law_table" 959 402 2 3 556 965)::
(nat_lit 562,fO "_law_table" "_law_table" (at_ 75) m6 561)::
(nat_lit 566,dO "_law_answer" "_law_answer" 968 411 3 3 563 971)::
(nat_lit 567,fO "_law_answer" "_law_answer" (at_ 76) m6 566)::
(nat_lit 573,cO "_law_best" "_law_best" 974 419 5 3 568 985)::
(nat_lit 574,fO "_law_best" "_law_best" (at_ 77) m6 573)::
(nat_lit 580,cO "law" "law" 988 428 1 3 575 1007)::
(nat_lit 581,fO "law" "law" (at_ 78) m6 580)::[]
noncomputable abbrev H:Hook:=kHook K [2,3,23,24,37,49,68,87,106,125,133,134,140,141,147,148,154,155,161,162,168,169,170,176,177,183,184,190,191,195,196,200,201,205,206,212,213,214,220,221,227,228,234,235,241,242,253,254,260,261,267,268,274,275,281,282,288,289,300,301,305,306,310,311,315,316,318,319,329,330,336,337,343,344,348,349,353,354,360,361,372,373,377,378,384,385,391,392,398,399,405,406,412,413,417,418,424,425,429,430,434,435,441,442,448,449,455,456,462,463,469,470,476,477,483,484,488,489,495,496,502,503,509,510,516,517,521,522,528,529,535,536,542,543,547,548,554,555,561,562,566,567,573,574,580,581] (λ_=>by kernel_rfl)
abbrev Xt:Shared->Bool:=λs=>xlAt q [] s&&recOk (RowW.records row.toRowW) s
structure Z where
 o:List (List Obj)
 n:Nat
 t:Nat
 g:List DictEntry
 c:List (List Value)
 m:Value
 s:List Value
noncomputable section
def tu(l:List Value):Obj:=⟨.type "tuple",none, .seq ⟨l⟩ 0, #[]⟩
def fl(c:Value)(l:List Value):Obj:=⟨c,none, .fields ⟨l⟩, #[]⟩
def ss:List Str->Nat->List Value
 |[],_=>[]
 |x::r,t=> .str x t::ss r (t+1)
def lo:List (Str×NameKind)->List Str
 |[]=>[]
 |(x, .local)::r=>x::lo r
 |_::r=>lo r
def cd(x q:Str)(t l a k b:Nat)(f:Bool)(v w z:Value)(e:Nat):Obj:=fl (.type "code") [.str x t, .str q (t+1), .str "/claim/cut.py" (t+2), .int l 0, .int a 0, .int 0 0, .int 0 0, .int k 0, .ref b, .bool f, .int 181 0, .ref (b+1), .none,v,w,z, .int e 0, .int l 0, .str "/claim/cut.py" (e+1)]
def dfO(d:Value) (x q:Str) (a:Arguments) (b:List Stmt) (s:Scope) (l:Nat) (m:Value) (n t:Nat):List Obj×Nat:=
 let f (c:Value) (g:Nat) (d m h:Value):Obj:=⟨c,none, .func ⟨x,q,a, .stmts b,s,g,[],d, .none, .none,m,none,h, .none,0⟩, #[]⟩
 match s.more with
 |[]=>let v:=lo s.names
  ([tu [],fl .none [],tu (ss v (t+3)),tu [],f .none 0 .none .none .none,cd x q t l a.args.length 3 n true (.ref (n+2)) (.ref (n+3)) (.ref (n+4)) (t+3+v.length),f (.type "function") 3 d m (.ref (n+5))],t+5+v.length)
 |_=>([tu [],fl .none [],f .none 0 .none .none .none,cd x q t l a.args.length 3 n true .none .none (.ref (n+2)) (t+3),f (.type "function") 3 d m (.ref (n+3))],t+5)
def mt(P:Params) (x:Str) (m:Value):List Stmt->Nat->Nat->List Obj×List DictEntry×List Value×Nat×Nat
 |.FunctionDef y a b _ _ _ s _ _ p::r,n,t=>match dfO .none y (x++"."++y) a b s p.line m n t with
  |(os,k)=>match mt P x m r (n+os.length) (k+1) with
   |(o,e,c,w)=>(os++o,en P y k (.ref (n+os.length-1))::e, .int p.line 0:: .int p.col 0:: .ref (n+os.length-2)::c,w)
 |_::r,n,t=>mt P x m r n t
 |[],n,t=>([],[],[],n,t)
def ty(x:Str)(bs mro:List Value)(d t:Nat)(b:Option Value)(w:String)(s:List Value):Obj:=⟨.type "type",none, .cls ⟨x,bs, .ref (d+1)::mro,d,x,true,[],s,false,none,false⟩, #[b,none,some (.str x t),some (.str x (t+8)),some (.builtin w),some (.bool true)]⟩
abbrev VE:List Value:=[.type "ValueError", .type "Exception", .type "BaseException", .type "object"]
def clO(P:Params) (x:Str) (bs:List Expr) (b:List Stmt) (sa:List Str) (l:Nat) (m:Value) (n t:Nat):List Obj×Nat×Nat:=
 match mt P x m b (n+7) (t+12) with
 |(mo,me,mc,n2,t2)=>
  let k:=t2+sa.length
  let e1:=en P "__module__" (t+7) m
  let e2:=en P "__firstlineno__" (t+11) (.int l (t+10))
  let e3:=en P "__static_attributes__" k (.ref n2)
  let ds (w k:Nat) (x:List DictEntry):Obj:=⟨.type "dict",none, .dict ⟨e1::e2::(me++e3::(x++[en P "__doc__" k .none]))⟩ w, #[]⟩
  let de (x:Str) (t:Nat) (u:String) (v:Value):Obj:=fl (.type "getset_descriptor") [.str x t, .ref (n2+2), .builtin u,v]
  let h (bt:List Value) (r:List Obj):List Obj:=tu bt::fl (.type "builtin_function_or_method") [.builtin "type.__prepare__", .type "type"]::⟨.type "dict",none, .dict ⟨e1::en P "__qualname__" (t+9) (.str x (t+8))::e2::(me++[e3])⟩ (4+me.length), #[]⟩::tu []::fl .none mc::cd x x (t+2) l 0 0 (n+3) false .none .none .none (t+5)::⟨.type "frame",none, .plain, #[some (.ref (n+5)),some (.ref 3),some (.ref (n+2)),none,some m,none,some (.ref 0)]⟩::(mo++tu (ss sa t2)::(r++[fl (.type "super") [.ref (n2+2), .ref (n2+2), .ref (n2+2)],fl (.type "builtin_function_or_method") [.builtin "object.__init_subclass__", .ref (n2+2)]]))
  match bs with
  |[]=>(h [] [ds 4 (k+5) [en P "__dict__" (k+2) (.ref (n2+3)),en P "__weakref__" (k+4) (.ref (n2+4))],ty x [.type "object"] [.type "object"] (n2+1) t none "object.__new__" [],de "__dict__" (k+1) "function.__dict__" (.builtin "function.__dict__#set"),de "__weakref__" (k+3) "ExceptionGroup.__weakref__" .none],k+7,n2+2)
  |_=>match n with
   |15=>(h [.type "ValueError"] [ds 3 (k+3) [en P "__weakref__" (k+2) (.ref (n2+3))],ty x [.type "ValueError"] VE (n2+1) t (some (.ref n)) "ValueError.__new__" [],de "__weakref__" (k+1) "ExceptionGroup.__weakref__" .none],k+5,n2+2)
   |_=>(h [.ref 24] [ds 2 (k+1) [],ty x [.ref 24] (.ref 24::VE) (n2+1) t (some (.ref n)) "ValueError.__new__" []],k+3,n2+2)
def ls:List Expr->Nat->List Value×Nat
 |.Constant (.str z) _ _::r,t=>match ls r (t+1) with
  |(v,k)=>(.str z t::v,k)
 |.Constant (.int z) _ _::r,t=>match ls r (t+1) with
  |(v,k)=>(.int z t::v,k)
 |.Constant .none _ _::r,t=>match ls r t with
  |(v,k)=>(.none::v,k)
 |_,t=>([],t)
def gv(x:Str):List DictEntry->Value
 |⟨_, .str y _,v⟩::r=>if x=y then v else gv x r
 |_=> .none
def dv(P:Params) (g:List DictEntry):List (Option Expr)->List Expr->Nat->List DictEntry×Nat
 |some (.Constant (.str z) _ _)::r, .Name x _::u,t=>match dv P g r u (t+1) with
  |(e,k)=>(en P z t (gv x g)::e,k+1)
 |some (.Constant (.str z) _ _)::r,c::u,t=>match ls [c] (t+1) with
  |(v,k)=>match dv P g r u k with
   |(e,k)=>(en P z t (v.headD .none)::e,k+1)
 |_,_,t=>([],t)
def stp(P:Params) (z:Z):Stmt->Z
 |.FunctionDef x a b _ _ _ s _ _ p=>match a.defaults with
  |[]=>match dfO .none x x a b s p.line z.m z.n z.t with
   |(os,k)=>{z with o:=os::z.o,n:=z.n+os.length,t:=k+1,g:=en P x k (.ref (z.n+os.length-1))::z.g,c:=[.int p.line 0, .int p.col 0, .ref (z.n+os.length-2)]::z.c}
  |ds=>match ls ds z.t with
   |(v,k)=>match dfO (.ref z.n) x x a b s p.line z.m (z.n+1) k with
    |(os,k)=>{z with o:=os::[tu v]::z.o,n:=z.n+1+os.length,t:=k+1,g:=en P x k (.ref (z.n+os.length))::z.g,c:=[.int p.line 0, .int p.col 0, .ref (z.n+os.length-1)]::z.c}
 |.ClassDef x bs _ b _ _ _ _ _ sa p=>match clO P x bs b sa p.line z.m z.n z.t with
  |(os,k,d)=>{z with o:=os::z.o,n:=z.n+os.length,t:=k+1,g:=en P x k (.ref d)::z.g,c:=[.int p.line 0, .int p.col 0, .ref (z.n+5)]::z.c,s:=match z.n with
    |15=>[]
    |_=>match bs with
     |[]=>z.s
     |_=> .ref d::z.s}
 |.Assign [.Name x _] (.Tuple es _ _) _=>match ls es z.t with
  |(v,k)=>{z with o:=[tu v]::z.o,n:=z.n+1,t:=k+1,g:=en P x k (.ref z.n)::z.g}
 |.Assign [.Name x _] (.Dict ks vs _) _=>match dv P z.g ks vs z.t with
  |(e,k)=>{z with o:=[⟨.type "dict",none, .dict ⟨e⟩ e.length, #[]⟩]::z.o,n:=z.n+1,t:=k+1,g:=en P x k (.ref z.n)::z.g}
 |.Assign [.Name x _] c _=>match ls [c] z.t with
  |(v,k)=>if x="__name__" then {z with t:=k+1,m:=v.headD .none} else {z with t:=k+1,g:=en P x k (v.headD .none)::z.g}
 |_=>z
def z0:Z:=⟨[],15,187,[],[], .str "__main__" 164,[]⟩
def zs(P:Params)(k:Nat):Z:=((behindTheImports row.prog).take k).foldl (stp P) z0
def g9(P:Params)(m:Value):List DictEntry:=[en P "__name__" 165 m,en P "__doc__" 166 .none,en P "__package__" 167 .none,en P "__loader__" 168 (.builtin "__main__.__loader__#opaque"),en P "__spec__" 169 .none,en P "__annotations__" 170 (.ref 6),en P "__builtins__" 171 (.ref 4),en P "__file__" 173 (.str "/claim/cut.py" 172),en P "__cached__" 174 .none]
def zl(P:Params)(z:Z):List Obj:=boot_o_0 P::boot_o_1 P::boot_o_2 P::⟨.type "dict",none, .dict ⟨g9 P z.m++z.g.reverse⟩ (z.g.length+9), #[]⟩::boot_o_4 P::boot_o_5 P::boot_o_6 P::boot_o_7 P::boot_o_8 P::boot_o_9 P::boot_o_10 P::tu []::fl .none z.c.reverse.flatten::cd "<module>" "<module>" 182 1 0 0 11 false .none .none .none 185::⟨.type "frame",none, .plain, #[some (.ref 13),some (.ref 3),some (.ref 3),none,some (.str "__main__" 164),none,some (.ref 0)]⟩::(z.o.reverse.flatten.set 9 (ty "DuelError" [.type "ValueError"] VE 23 189 (some (.ref 15)) "ValueError.__new__" z.s.reverse))
def od:List Obj->List Obj
 |x::_::r=>x::od r
 |l=>l
def mkT:Nat->List Obj->BT
 |0,_=> .nil
 |_,[]=> .nil
 |n+1,x::r=> .node x (mkT n (od r)) (mkT n (od r.tail))
def T(P:Params)(k:Nat):BT:=mkT 12 (zl P (zs P k))
abbrev S(k n t:Nat)(w:World)(os:OsState):SharedT:=⟨T w.params k,n,{}, #[],{},t,os⟩
def env:Env:={scope:=row.prog.main.scope,locals:=mainNs,globals:=mainNs,cells:=[],code:= .ref 13,frame:=some 14}
abbrev bI:List Stmt:=behindTheImports row.prog
def cE:Code:= .body bI env
abbrev tF:List Frame:=[topFrame ⟨0,0,0,0⟩]
abbrev sg(w:World)(os:OsState)(N k n t:Nat)(p:Pos)(l:Nat):=segRunT treeTable row.prog w 11 (some (.ref 6)) 1 N (S k n t w os) (piecesOf ((bI.drop k).take l) env cE p tF)
abbrev sr(w:World)(os:OsState)(k n t:Nat)(p:Pos):Option (Flow×SharedT×Code×Pos):=some (.next,S k n t w os,cE,p)
abbrev se(w:World)(N k n t:Nat)(p:Pos)(l:Nat)(k' n' t':Nat)(p':Pos):Prop:=(λos=>sg w os N k n t p l)=λos=>sr w os k' n' t' p'
theorem lw:looseW q ["TURNED_KINDS"]=(["TURNED_KINDS","HANDS"]:List Str):=by kernel_rfl
theorem s0(w:World):se w 2060 0 15 187 ⟨0,0,0,0⟩ 29 29 214 459 ⟨91,0,91,17⟩:=by kernel_rfl
theorem s29f(w:World):se (w.withFollow "special-get-raises" false) 56 29 214 459 ⟨91,0,91,17⟩ 1 30 215 469 ⟨92,0,92,12⟩:=by kernel_rfl
theorem s29t(w:World):se (w.withFollow "special-get-raises" true) 56 29 214 459 ⟨91,0,91,17⟩ 1 30 215 469 ⟨92,0,92,12⟩:=by kernel_rfl
theorem s29(w:World):se w 56 29 214 459 ⟨91,0,91,17⟩ 1 30 215 469 ⟨92,0,92,12⟩:=byRow2 "special-get-raises" (P:=λw=>se w 56 29 214 459 ⟨91,0,91,17⟩ 1 30 215 469 ⟨92,0,92,12⟩) s29f s29t w
theorem s30(w:World):se w 1939 30 215 469 ⟨92,0,92,12⟩ 49 79 582 1010 ⟨428,0,457,127⟩:=by kernel_rfl
theorem pre(w:World)(os:OsState):topGo treeTable row.prog w 11 (some (.ref 6)) 12 ⟨boot_heap w.params, #[],boot_drawn,boot_toks,os⟩ (topStub row.prog)=some ((S 0 15 187 w os).abs,⟨denote treeTable cE,cE,⟨0,0,0,0⟩,tF⟩):=by kernel_rfl
theorem blk(w:World)(os:OsState):segRun treeTable row.prog w 11 (some (.ref 6)) 1 1 (S 0 15 187 w os).abs (blockOf bI env cE ⟨0,0,0,0⟩ tF)=some (.next,(S 0 15 187 w os).abs,cE,⟨0,0,0,0⟩):=by kernel_rfl
theorem fin(w:World)(s:Shared)(p:Pos):topRun treeTable row.prog w 11 (some (.ref 6)) 2 s (restOf (bI.drop 79) env cE p tF)=some s:=by rewrite [show bI.drop 79=[] by kernel_rfl];rfl
theorem siz(w:World):((boot_heap w.params).isNs mainGlobals&&(#[]:Array GenState).size==0,(boot_heap w.params).objs.size,(boot_heap w.params).nsMap mainGlobals "__annotations__")=(true,11,some (.ref 6)):=by kernel_rfl
theorem opn:opening row.prog=plainProg row.prog.main.scope.names:=by kernel_rfl
theorem fen(s:Shared):fenceModules? row.prog s=some s:=by kernel_rfl
theorem pc{w:World}{n N k l:Nat}{s s':SharedT}{r:Shared}{p p':Pos}(h:segRunT treeTable row.prog w 11 (some (.ref 6)) 1 n s (piecesOf ((bI.drop k).take l) env cE p tF)=some (.next,s',cE,p'))(g:topRun treeTable row.prog w 11 (some (.ref 6)) N s'.abs (restOf (bI.drop (k+l)) env cE p' tF)=some r):topRun treeTable row.prog w 11 (some (.ref 6)) (n+N) s.abs (restOf (bI.drop k) env cE p tF)=some r:=by
 have e:(bI.drop k).take l++bI.drop (k+l)=bI.drop k:=by rw [<-List.drop_drop,List.take_append_drop]
 rewrite [<-e];exact piece_app (segRun_of h) g
theorem run(w:World)(os:OsState):topRun treeTable row.prog w 11 (some (.ref 6)) (12+(1+(2060+(56+(1939+(2)))))) ⟨boot_heap w.params, #[],boot_drawn,boot_toks,os⟩ (topStub row.prog)=some (S 79 582 1010 w os).abs:=go_top (pre w os) (piece_block (blk w os) (pc (congrFun (s0 w) os) (pc (congrFun (s29 w) os) (pc (congrFun (s30 w) os) (fin w _ _)))))
abbrev sE(w:World)(os:OsState):Shared:=(S 79 582 1010 w os).abs
theorem l1(w:World)(os:OsState):(staticsOk (importedModules row.prog.main.body) (boot_heap w.params) (sE w os).heap&&namesBound row.prog (sE w os).heap&&gensDone (sE w os)&&laidKept (boot_heap w.params) (sE w os).heap)=true:=by kernel_rfl
section
variable{A B D E F G I J:Type}{u t:A×B×Bool×D×E×F×G×I×J}
def p1:A×B×Bool×D×E×F×G×I×J->A
 |(a,_)=>a
def p2:A×B×Bool×D×E×F×G×I×J->B
 |(_,b,_)=>b
def p4:A×B×Bool×D×E×F×G×I×J->Bool
 |(_,_,c,_)=>c
def p3:A×B×Bool×D×E×F×G×I×J->D
 |(_,_,_,d,_)=>d
def p5:A×B×Bool×D×E×F×G×I×J->E
 |(_,_,_,_,e,_)=>e
def p6:A×B×Bool×D×E×F×G×I×J->F
 |(_,_,_,_,_,f,_)=>f
def p7:A×B×Bool×D×E×F×G×I×J->G
 |(_,_,_,_,_,_,g,_)=>g
def p8:A×B×Bool×D×E×F×G×I×J->I
 |(_,_,_,_,_,_,_,g,_)=>g
def p9:A×B×Bool×D×E×F×G×I×J->J
 |(_,_,_,_,_,_,_,_,g)=>g
theorem q6{a b c d e f g i j}:p6 ((a,b,c,d,e,f,g,i,j):A×B×Bool×D×E×F×G×I×J)=f:=rfl
theorem pr(h:p1 u=t.1)(g:p2 u=t.2.1)(g1:p4 u=true)(g2:t.2.2.1=true)(k:p3 u=t.2.2.2.1)(k1:p5 u=t.2.2.2.2.1)(k2:p6 u=t.2.2.2.2.2.1)(k3:p7 u=t.2.2.2.2.2.2.1)(k4:p8 u=t.2.2.2.2.2.2.2.1)(k5:p9 u=t.2.2.2.2.2.2.2.2):u=t:=Prod.ext h (Prod.ext g (Prod.ext (g1.trans g2.symm) (Prod.ext k (Prod.ext k1 (Prod.ext k2 (Prod.ext k3 (Prod.ext k4 k5)))))))
end
abbrev sn(w:World)(os:OsState):=openSeen q ["TURNED_KINDS"] (importedModules row.prog.main.body) Xt true (sE w os)
abbrev gd:=openGood q ["TURNED_KINDS"]
variable(w:World)(os:OsState)
theorem la:p1 (sn w os)=gd.1:=by kernel_rfl
theorem lb:p2 (sn w os)=gd.2.1:=by kernel_rfl
theorem lp:(sE w os).heap.keysOk (looseW q ["TURNED_KINDS"]) ((recsOf q).map (·.name)) ((litsOf q).map (·.1)) ((clssOf q (looseW q ["TURNED_KINDS"])).map (·.name))=true:=by rw[lw];kernel_rfl
theorem lq:(sE w os).heap.accountedOkI (importedModules row.prog.main.body)=true:=by kernel_rfl
theorem lr:(sE w os).heap.isNs mainGlobals=true:=by kernel_rfl
theorem lt:(sE w os).heap.isNs builtinsNs=true:=by kernel_rfl
theorem lu:tablesOk q (sE w os).heap=true:=by kernel_rfl
theorem lv:Xt (sE w os)=true:=by kernel_rfl
theorem p4e(s:Shared):p4 (openSeen q ["TURNED_KINDS"] (importedModules row.prog.main.body) Xt true s)=(s.heap.keysOk (looseW q ["TURNED_KINDS"]) ((recsOf q).map (·.name)) ((litsOf q).map (·.1)) ((clssOf q (looseW q ["TURNED_KINDS"])).map (·.name))&&s.heap.accountedOkI (importedModules row.prog.main.body)&&s.heap.isNs mainGlobals&&s.heap.isNs builtinsNs&&tablesOk q s.heap&&Xt s&&(s.gens.size==0)):=rfl
theorem ld:p4 (sn w os)=true:=(p4e _).trans (look_both (look_both (look_both (look_both (look_both (look_both (lp w os) (lq w os)) (lr w os)) (lt w os)) (lu w os)) (lv w os)) rfl)
theorem na:(((recsOf q).take 50).all λd=>(sE w os).heap.tab0Ok d.name)=true:=by kernel_rfl
theorem ne:(((recsOf q).drop 50).all λd=>(sE w os).heap.tab0Ok d.name)=true:=by kernel_rfl
theorem nt{α}{l:List α}{f}(h:(l.take 50).all f=true)(g:(l.drop 50).all f=true):l.all f=true:=by rw[<-l.take_append_drop 50,List.all_append,h,g];rfl
theorem nb:(sE w os).heap.bmainOk=true:=by kernel_rfl
theorem nc:valsOk q (sE w os).heap=true:=by kernel_rfl
theorem nd:(!importsNone q||(sE w os).heap.noSeerOk)=true:=by kernel_rfl
theorem p3e(s:Shared):p3 (openSeen q ["TURNED_KINDS"] (importedModules row.prog.main.body) Xt true s)=tabsOk q s:=rfl
theorem lc:p3 (sn w os)=gd.2.2.2.1:=(p3e _).trans (look_both (look_both (look_both (nt (na w os) (ne w os)) (nb w os)) (nc w os)) (nd w os))
theorem le:p5 (sn w os)=gd.2.2.2.2.1:=by kernel_rfl
theorem p6e(s:Shared):p6 (openSeen q ["TURNED_KINDS"] (importedModules row.prog.main.body) Xt true s)=plainSeenE q (looseW q ["TURNED_KINDS"]) s:=by delta openSeen;exact q6
theorem ga:plainSeenE q (looseW q ["TURNED_KINDS"]) (sE w os)=plainGoodE q (looseW q ["TURNED_KINDS"]):=by rw[lw];kernel_rfl
theorem lg:p6 (sn w os)=gd.2.2.2.2.2.1:=(p6e _).trans (ga w os)
theorem lh:p7 (sn w os)=gd.2.2.2.2.2.2.1:=by kernel_rfl
theorem lj:p8 (sn w os)=gd.2.2.2.2.2.2.2.1:=by kernel_rfl
theorem lm:p9 (sn w os)=gd.2.2.2.2.2.2.2.2:=by kernel_rfl
theorem l2:sn w os=gd:=pr (la w os) (lb w os) (ld w os) rfl (lc w os) (le w os) (lg w os) (lh w os) (lj w os) (lm w os)
theorem l3:H.obs (sE w os)=H.val w:=by kernel_rfl
theorem left:LeftO row.prog q ["TURNED_KINDS"] Xt H.obs H.val 8230:=LeftO.of_pieces (H₀:=boot_heap) (H₁:=λP=>absHeap (T P 79) 582 {}) (gs₀:= #[]) (gs₁:= #[]) (d₀:=boot_drawn) (d₁:={}) (k₀:=boot_toks) (k₁:=1010) (boot_open opn rfl fen) siz run rfl λw=>funext λos=>looks_pair (l1 w os) (looks_pair (l2 w os) (l3 w os))
end
end Hd
local macro_rules|`(())=>`(by omega)
local macro_rules|`(@_)=>`(by decide)
open Lean in
def rpt:Nat → Term → MacroM (TSyntax `rcasesPat)
|0,_=>Macro.throwUnsupported
|n+1,t=>match t with
|`(⟨$a,*⟩)=>do
 let b←a.getElems.mapM (rpt n)
 let b←b.mapM λp=>`(Lean.Parser.Tactic.rcasesPatLo|$p:rcasesPat)
 `(rcasesPat|⟨$b,*⟩)
|`(_)=>`(rcasesPat|_)
|`($x:ident)=>`(rcasesPat|$x:ident)
|_=>Macro.throwUnsupported
open Lean in
local macro_rules|`(tactic|have ⟨$a,*⟩:=$e)=>do
 let p←rpt 99 (←`(⟨$a,*⟩))
 `(tactic|obtain $p:rcasesPat:=$e)
open Lean in
local macro_rules|`(λ$xs*=>$b)=>do
 let mut ys:=#[]
 let mut ts:=#[]
 if (←MonadRef.getRef)[0].isToken "fun" then Macro.throwUnsupported
 for x in xs do
  if x.1.isOfKind `Lean.Parser.Term.anonymousCtor then
   let p←rpt 99 ⟨x.1⟩
   let y←withFreshMacroScope `(h)
   ys:=ys.push y
   ts:=ts.push (←`(tactic|obtain $p:rcasesPat:=$y))
  else ys:=ys.push ⟨x.1⟩
 if ts.isEmpty then Macro.throwUnsupported
 `(λ$ys*=>by{$[$ts]*;exact $b})
set_option hygiene false in
local macro_rules|`($g &&& ($F,$a,$n))=>`(mc $g (($F).binds λ_ _ _ _ _ _=>$n) (mg_of X G $a) ($F).kp)
set_option hygiene false in
local macro_rules|`($g ||| ($F,$a,$i,$n))=>`(⟨$g,(($F).binds λ_ _ _ _ _ _=>$n),⟨fP,fG,fH,fS⟩,⟨$a,$i,($F).kp⟩⟩)
set_option genSizeOf false
set_option bootstrap.genMatcherCode false
noncomputable def PySem.W.Fast.tw2133818349431108579:=PySem.Challenge.pw_chanceduel_k23_an_answer
theorem PySem.W.Fast.te2133818349431108579:PySem.Challenge.pw_chanceduel_k23_an_answer=PySem.W.Fast.tw2133818349431108579:=rfl
def gV:2<=PySem.sizeLine:=@_
abbrev fI:=PySem.W.Frag
namespace L2
open PySem PySem.Spec PyProof.Rows
variable{us:List Value}{a b dx C:Addr}{P prog:Program}{w:World}{h h' base:Heap}{ζ:List (Addr×Obj)}{s:Shared}{g':Array GenState}{ch fp:List Addr}{i:Nat}{x:Str}{M:Model}{A:Around}{E Q:Value->Shared->Prop}{u:Value}{pos:Pos}{e c tg:Expr}{es:List Expr}{body:List Stmt}{f:Value->Value->Sem Value}{op:CmpOp}{mA mg:Str->Option Value}{kw:List (Str×Value)}{outer:List Env}{ps:List Str}
abbrev Key:=Sum Int Str
def vq:Key->Value->Bool
 |.inl k,v=>Value.isInt k v
 |.inr x,v=>Value.isStrOf x v
def YN(w:World):Key->Int
 |.inl k=>hashInt k
 |.inr x=>hashStr w x
def bI:∀{k:Key}{v:Value},vq k v=true->(∃i t,k=Sum.inl i/\v=Value.int i t)\/(∃x t,k=Sum.inr x/\v=Value.str x t)
 |.inl i,v,h=>by have⟨t,e⟩:=Value.isInt_shape (k:=i) (v:=v) h;exact .inl ⟨i,t,rfl,e⟩
 |.inr x,v,h=>by have⟨t,e⟩:=Value.isStrOf_shape (x:=x) (v:=v) h;exact .inr ⟨x,t,rfl,e⟩
def Fb(i:Int)(t:Tok):vq (.inl i) (.int i t)=true:=by simp[vq,Value.isInt]
def Gi(x:Str)(t:Tok):vq (.inr x) (.str x t)=true:=by simp[vq,Value.isStrOf]
def Q3(a b:Int):decide ((Sum.inl a:Key)=Sum.inl b)=(a==b):=by
 by_cases e:a=b
 ·subst e;simp
 ·have h:¬(Sum.inl a:Key)=Sum.inl b:=λq=>e (Sum.inl.inj q);rw[aaJ h];exact(beq_eq_false_iff_ne.mpr e).symm
def Pa(a b:Str):decide ((Sum.inr a:Key)=Sum.inr b)=decide (a=b):=by
 by_cases e:a=b
 ·subst e;simp
 ·have h:¬(Sum.inr a:Key)=Sum.inr b:=λq=>e (Sum.inr.inj q);rw[aaJ h,aaJ e]
def Px(a:Int)(b:Str):decide ((Sum.inl a:Key)=Sum.inr b)=false:=aaJ (λq=>nomatch q)
def Q1(a:Str)(b:Int):decide ((Sum.inr a:Key)=Sum.inl b)=false:=aaJ (λq=>nomatch q)
def bA(prog:Program)(w:World):PySem.KeyKind prog w Key where
 is:=vq
 hash:=YN w
 inj:=λv a b ha hb=>by
  rcases bI ha with ⟨i,t,rfl,rfl⟩| ⟨x,t,rfl,rfl⟩
  ·rcases bI hb with ⟨j,u,rfl,e⟩| ⟨y,u,rfl,e⟩
   ·injection e with e1 _;rw[e1]
   ·exact nomatch e
  ·rcases bI hb with ⟨j,u,rfl,e⟩| ⟨y,u,rfl,e⟩
   ·exact nomatch e
   ·injection e with e1 _;rw[e1]
 byValue:=λk v h=>by rcases bI h with ⟨i,t,rfl,rfl⟩| ⟨x,t,rfl,rfl⟩ <;> rfl
 pyHash:=λhv h=>by
  rcases bI hv with ⟨i,t,rfl,rfl⟩| ⟨x,t,rfl,rfl⟩
  ·exact wpAny_pyHash_int h
  ·exact wpAny_pyHash_str h
 eqBool:=λhu hv h=>by
  rcases bI hu with ⟨i,t,rfl,rfl⟩| ⟨x,t,rfl,rfl⟩
  ·rcases bI hv with ⟨j,u,rfl,rfl⟩| ⟨y,u,rfl,rfl⟩
   ·rw[Q3]at h;exact wpAny_eqBool_int h
   ·rw[Px]at h;exact SeqAt.EqAt.int_str i t y u _ _ _ _ h
  ·rcases bI hv with ⟨j,u,rfl,rfl⟩| ⟨y,u,rfl,rfl⟩
   ·rw[Q1]at h;exact SeqAt.EqAt.str_int x t j u _ _ _ _ h
   ·rw[Pa]at h;exact wpAny_eqBool_str h
 «strs»:=λk x t v h=>by
  rcases bI h with ⟨i,u,rfl,e⟩| ⟨y,u,rfl,e⟩
  ·exact nomatch e
  ·injection e with e1 _
   subst e1;cases v <;> rfl
def As(prog:Program)(w:World)(i:Int)(t:Tok):(bA prog w).is (.inl i) (.int i t)=true:=Fb i t
def yP(prog:Program)(w:World)(x:Str)(t:Tok):(bA prog w).is (.inr x) (.str x t)=true:=Gi x t
inductive V where
 |bj|bl (b:Bool)|int (i:Int)|str (x:Str)|Hc (b:Array UInt8)|Pr (b:UInt64)|ref (a:Addr)|ty (n:String)
 deriving DecidableEq
variable{v:V}
def aA:V->Value->Prop
 |.bj,u=>u=Value.none
 |.bl b,u=>u=Value.bool b
 |.int i,u=>∃t,u=Value.int i t
 |.str x,u=>∃t,u=Value.str x t
 |.Hc b,u=>∃t,u=Value.bytes b t
 |.Pr b,u=>∃t,u=Value.float b t
 |.ref a,u=>u=Value.ref a
 |.ty n,u=>u=Value.type n
abbrev aF:List V->List Value->Prop:=Paired aA
def aF.length{xs:List V}(r:aF xs us):xs.length=us.length:=Paired.length r
def aF.get:∀{xs:List V}{us:List Value}{i:Nat}{x:V},aF xs us->xs[i]? =some x->∃u,us[i]? =some u/\aA x u
 |_,_,_,_,.nil,e=>by simp at e
 |_,_,0,_,.cons r _,e=>by simp at e;subst e;exact⟨_,rfl,r⟩
 |_,_,i+1,x,.cons _ t,e=>by have⟨u,h1,h2⟩:=aF.get (i:=i) (x:=x) t (by simpa using e);exact⟨u,by simpa using h1,h2⟩
def aF.set{x:V}{u:Value}(r:aA x u):∀{xs:List V}{us:List Value}(i:Nat),aF xs us->aF (xs.set i x) (us.set i u)
 |_,_,_,.nil=>.nil
 |_,_,0,.cons _ t=>.cons r t
 |_,_,i+1,.cons q t=>.cons q (aF.set r i t)
def aF.append:∀{xs ys:List V}{us ws:List Value},aF xs us->aF ys ws->aF (xs++ys) (us++ws)
 |_,_,_,_,.nil,s=>s
 |_,_,_,_,.cons r t,s=>.cons r (aF.append t s)
def aF.take:∀{xs:List V}{us:List Value}(n:Nat),aF xs us->aF (xs.take n) (us.take n)
 |_,_,0,_=>.nil
 |_,_,_+1,.nil=>.nil
 |_,_,n+1,.cons r t=>.cons r (aF.take n t)
def aF.drop:∀{xs:List V}{us:List Value}(n:Nat),aF xs us->aF (xs.drop n) (us.drop n)
 |_,_,0,r=>r
 |_,_,_+1,.nil=>.nil
 |_,_,n+1,.cons _ t=>aF.drop n t
def jE:Option V->Option Value->Prop
 |some v,some u=>aA v u
 |none,none=>True
 |_,_=>False
def KV{κ:Type}:List (κ×V)->List (κ×Value)->Prop:=Paired λ(p:κ×V) (q:κ×Value)=>p.1=q.1/\aA p.2 q.2
def kV:Key->V
 |.inl i=>.int i
 |.inr x=>.str x
inductive HO where
 |lst (xs:List V)
 |tup (xs:List V)
 |dK (Κ:List (Key×V))|dT (Κ:List (List Key×V))
 |set (S:Int->Bool) (n:Nat)
 |ins (C dx:Addr) (fs:List (Str×V))
 |own (x:Addr)
 |xd (fs:List (Str×V))
 |met (f x:Addr)
 |WY (lo hi:Int)
 |vC (o:Obj) (u:HO)
 |Nu (ps:Array Value)
 |ext (φ:Heap->Prop)
variable{o:HO}
abbrev Hp:=Addr->Option HO
def upd(H:Hp)(a:Addr)(o:HO):Hp:=λb=>if b=a then some o else H b
def Ω{H:Hp}:upd H a o a=some o:=by unfold upd;rw[if_pos rfl]
def Μ{H:Hp}(h:b≠a):upd H a o b=H b:=by unfold upd;rw[if_neg h]
def Tv{H:Hp}{u:HO}(h:H a=some o)(h':H b=some u)(d:o≠u):a≠b:=by intro e;subst e;rw[h]at h';exact d (aar h')
def cf{H:Hp}(h:H a=some o)(h':H b=none):a≠b:=by intro e;subst e;rw[h]at h';cases h'
section
variable(P:Program)(w:World)
def cn(H:Hp)(h:Heap)(a:Addr):HO->Prop
 |.lst xs=>xs.length<=sizeLine/\∃(its:List Value) (n:Nat),aF xs its/\h.get? a=some {cls:=.type "list",data:=.seq its.toArray n}
 |.tup xs=>xs.length<=sizeLine/\∃its:List Value,aF xs its/\IsTup h a its.toArray
 |.dK Κ=>Κ.length<=sizeLine/\(a==sysModules)=false/\∃vs,KV Κ vs/\h.DictOf (bA P w) a vs
 | .dT Κ=>Κ.length<=sizeLine/\(a==sysModules)=false/\∃xs:List (List Key×Addr×Value),
   Paired (λ(p:List Key×V) (q:List Key×Addr×Value)=>p.1=q.1/\H q.2.1=some (.tup (p.1.map kV))/\aA p.2 q.2.2) Κ xs/\
   ∃o es ep,h.get? a=some o/\o.ExactDict/\o.data= .dict es ep/\es.toList=xs.map (entryOfKey (tupleKind (bA P w)))/\(xs.map (·.1)).Nodup
 |.set S n=>h.SetOf (intKind P w) a S n
 | .ins C dx fs=>H dx=some (.own a)/\fs.length<=1000/\dx≠a/\h.get? a=some (PySem.W.instObj C dx)/\
   ∃mA,h.Ns1 dx mA/\(∀f,jE (fs.lookup f) (mA f))/\PySem.Within mA (fs.map (·.1))
 |.own _=>∃o,h.get? a=some o
 |.xd fs=>∃mA,h.Ns1 a mA/\∀f,jE (fs.lookup f) (mA f)
 |.WY lo hi=>∃t u v,h.get? a=some {cls:=.type "range",data:=.fields #[.int lo t,.int hi u,.int 1 v]}
 |.vC o u=>h.get? a=some o/\cn H h a u
 |.Nu ps=>h.get? a=some {cls:=.none,data:=.fields ps}
 |.met f x=>h.get? a=some (PySem.W.methodObj (.ref f) (.ref x))
 |.ext φ=>φ h/\(∃o,h.get? a=some o)/\∀h1 h2:Heap,φ h1->(∀o,h1.get? a=some o->h2.get? a=some o)->φ h2
def lD(H:Hp)(h:Heap):Prop:=∀a o,H a=some o->cn P w H h a o
end
section
variable{H H':Hp}
def cn.lt(x:cn P w H h a o):a<h.objs.size:=by
 cases o with
 |lst xs=>have⟨_,_,_,_,e⟩:=x;exact aat e
 |tup xs=>have⟨_,_,_,p⟩:=x;exact p.lt
 |dK Κ=>have⟨_,_,_,_,o,_,_,e,_⟩:=x;exact aat e
 |dT Κ=>have⟨_,_,_,_,o,_,_,e,_⟩:=x;exact aat e
 |set S n=>have⟨o,_,_,_,e,_⟩:=x;exact aat e
 |ins C dx fs=>have⟨_,_,_,e,_⟩:=x;exact aat e
 |own y=>have⟨_,e⟩:=x;exact aat e
 |xd fs=>have⟨_,⟨_,_,_,e,_⟩,_⟩:=x;exact aat e
 |WY lo hi=>have⟨_,_,_,e⟩:=x;exact aat e
 |vC ob u=>have⟨e,_⟩:=x;exact aat e
 |Nu ps=>exact aat (show h.get? a=some _ from x)
 |met f y=>exact aat (show h.get? a=some _ from x)
 |ext φ=>have⟨_,⟨_,e⟩,_⟩:=x;exact aat e
def Paired.Rn{α β:Type}{F G:α->β->Prop}:∀{l₁:List α}{l₂:List β},Paired F l₁ l₂->(∀a b,F a b->G a b)->Paired G l₁ l₂
 |_,_,.nil,_=>.nil
 |_,_,.cons r t,f=>.cons (f _ _ r) (Paired.Rn t f)
def cn.BI(x:cn P w H h a o)(k:∀b u,(b=a\/H b=some (.own a))->h.get? b=some u->h'.get? b=some u)
  (ho:∀b,H b=some (.own a)->H' b=some (.own a)) (ht:∀b xs,H b=some (.tup xs)->H' b=some (.tup xs)):cn P w H' h' a o:=by
 induction o with
 |lst xs=>have⟨z,its,n,r,e⟩:=x;exact⟨z,its,n,r,k _ _ (.inl rfl) e⟩
 |tup xs=>have⟨z,its,r,ob,e,c⟩:=x;exact⟨z,its,r,ob,k _ _ (.inl rfl) e,c⟩
 |dK Κ=>have⟨z,y,vs,r,ob,es,ep,e,c⟩:=x;exact⟨z,y,vs,r,ob,es,ep,k _ _ (.inl rfl) e,c⟩
 |dT Κ=>
  have⟨z,y,xs,r,ob,es,ep,e,c⟩:=x;exact⟨z,y,xs,Paired.Rn r λp q z=>⟨z.1,ht _ _ z.2.1,z.2.2⟩,ob,es,ep,k _ _ (.inl rfl) e,c⟩
 |set S n=>have⟨ob,es,ep,t,e,c⟩:=x;exact⟨ob,es,ep,t,k _ _ (.inl rfl) e,c⟩
 |ins C dx fs=>
  have⟨d,z,ne,e,mA,⟨od,es,ep,e2,c⟩,r⟩:=x;exact⟨ho _ d,z,ne,k _ _ (.inl rfl) e,mA,⟨od,es,ep,k _ _ (.inr d) e2,c⟩,r⟩
 |own y=>have⟨ob,e⟩:=x;exact⟨ob,k _ _ (.inl rfl) e⟩
 |xd fs=>have⟨mA,⟨od,es,ep,e,c⟩,r⟩:=x;exact⟨mA,⟨od,es,ep,k _ _ (.inl rfl) e,c⟩,r⟩
 |WY lo hi=>have⟨t,u,v,e⟩:=x;exact⟨t,u,v,k _ _ (.inl rfl) e⟩
 |vC ob u ih=>have⟨e,q⟩:=x;exact⟨k _ _ (.inl rfl) e,ih q⟩
 |Nu ps=>
  have e:h.get? a=some {cls:=.none,data:=.fields ps}:=x;show h'.get? a=some {cls:=.none,data:=.fields ps};exact k a _ (.inl rfl) e
 |met f y=>
  have e:h.get? a=some (PySem.W.methodObj (.ref f) (.ref y)):=x;show h'.get? a=some (PySem.W.methodObj (.ref f) (.ref y));exact k a _ (.inl rfl) e
 |ext φ=>have⟨p,⟨o,e⟩,st⟩:=x;exact⟨st _ _ p λo q=>k _ _ (.inl rfl) q,⟨o,k _ _ (.inl rfl) e⟩,st⟩
def lD.lt(x:lD P w H h)(e:H a=some o):a<h.objs.size:=(x a o e).lt
def lD.fresh(x:lD P w H h)(e:h.objs.size<=a):H a=none:=by
 cases q:H a with
 |none=>rfl
 |some u=>exact aaL (aau (x.lt q) e) (abI _)
def lD.kept(x:lD P w H h)(k:∀b u,h.get? b=some u->h'.get? b=some u):lD P w H h':=λa o e=>
 (x a o e).BI (λb u _ q=>k b u q) (λ_ q=>q) λ_ _ q=>q
def lD.laid(x:lD P w H h)(k:∀b u,h.get? b=some u->h'.get? b=some u)(hp:h.objs.size<=a)(new:cn P w (upd H a o) h' a o):lD P w (upd H a o) h':=λb u e=>by
 have hn:=x.fresh hp;by_cases hb:b=a
 ·subst hb;rw[Ω]at e;cases e;exact new
 ·rw[Μ hb]at e;exact(x b u e).BI (λc v _ q=>k c v q) (λc q=>by rw[Μ (cf q hn)];exact q) λc xs q=>by rw[Μ (cf q hn)];exact q
end
def Rd(H:Hp)(a:Addr)(u:HO):Prop:=H a=some u\/∃o,H a=some (.vC o u)
def Rd.ok{H:Hp}{u:HO}(r:Rd H a u)(x:lD P w H h):cn P w H h a u:=by
 rcases r with r| ⟨o,r⟩
 ·exact x a u r
 ·have⟨_,q⟩:=x a _ r;exact q
def RN:Option HO->Prop
 |some (.lst _)=>True
 |some (.dK _)=>True
 |some (.dT _)=>True
 |some (.set _ _)=>True
 |some (.ins _ _ _)=>True
 |some (.ext _)=>True
 |_=>False
section
variable{H:Hp}{x e:Addr}{o':HO}
def lD.write(ok:lD P w H h)(mu:RN (H x))(he:e=x\/H e=some (.own x))(k:∀b u,b≠e->h.get? b=some u->h'.get? b=some u)(RM:∃u,h'.get? e=some u)
  (new:cn P w (upd H x o') h' x o'):lD P w (upd H x o') h':=λb u q=>by
 have T6:∀c y,H c=some (.own y)->c≠x:=λc y r z=>by subst z;rw[r]at mu;exact mu
 have Xv:∀c xs,H c=some (.tup xs)->c≠x:=λc xs r z=>by subst z;rw[r]at mu;exact mu
 by_cases hb:b=x
 ·subst hb;rw[Ω]at q;cases q;exact new
 ·rw[Μ hb]at q;by_cases QF:b=e
  ·have q':H b=some (.own x):=by
    rcases he with z| z
    ·exact aaL (QF.trans z) hb
    ·rw[QF];exact z
   rw[q]at q';cases q';have⟨v,hv⟩:=RM;exact⟨v,by rw[QF];exact hv⟩
  ·refine(ok b u q).BI (λc v hc r=>k c v ?_ r) (λc r=>by rw[Μ (T6 c b r)];exact r) λc xs r=>by rw[Μ (Xv c xs r)];exact r
   rcases hc with rfl| hc
   ·exact QF
   ·rintro rfl;rcases he with z| z
    ·exact T6 c b hc z
    ·rw[hc]at z;cases z;exact hb rfl
end
structure Un(fs ex:List Addr)(H H':Hp)(h h':Heap):Prop where
 keep:∀b o,h.get? b=some o->H b=none->b∉fs->b∉ex->h'.get? b=some o
 slot:∀b o,h.get? b=some o->H b=none->b∈fs->b∉ex->∃sl,h'.get? b=some {o with slots:=sl}
 free:∀b o,h.get? b=some o->H b=none->b∉ex->H' b=none
 there:∀b o,h.get? b=some o->b∉ex->∃o',h'.get? b=some o'
 qA:∀b xs,H b=some (.tup xs)->H' b=some (.tup xs)
 oJ:∀b o u,H b=some (.vC o u)->H' b=some (.vC o u)
 qt:∀b ps,H b=some (.Nu ps)->∃more,H' b=some (.Nu (ps++more))
section
variable{fs YX ex ex':List Addr}{H H1 H2:Hp}{h1 h2:Heap}{x e:Addr}
def Un.any(u:Un fs ex H H1 h h1){ob:Obj}(q:h.get? b=some ob)(n:H b=none)(hx:b∉ex):∃sl,h1.get? b=some {ob with slots:=sl}:=by
 by_cases hb:b∈fs
 ·exact u.slot b ob q n hb hx
 ·exact⟨ob.slots,u.keep b ob q n hb hx⟩
def Un.kept(k:∀b u,h.get? b=some u->h'.get? b=some u):Un fs ex H H h h':=
 ⟨λb ob q _ _ _=>k b ob q,λb ob q _ _ _=>⟨ob.slots,k b ob q⟩,λ_ _ _ n _=>n,λb ob q _=>⟨ob,k b ob q⟩,λ_ _ q=>q,λ_ _ _ q=>q,λ_ ps q=>⟨#[],by rw[q];simp⟩⟩
def Un.refl:Un fs ex H H h h:=Un.kept λ_ _ q=>q
def Un.laid(k:∀b u,h.get? b=some u->h'.get? b=some u)(hp:h.objs.size<=a)(hn:H a=none):Un fs ex H (upd H a o) h h' where
 keep:=λb u q _ _ _=>k b u q
 slot:=λb u q _ _ _=>⟨u.slots,k b u q⟩
 free:=λb u q n _=>by rw[Μ (aaT (aau (aat q) hp))];exact n
 there:=λb u q _=>⟨u,k b u q⟩
 qA:=λb xs q=>by rw[Μ (cf q hn)];exact q
 oJ:=λb u xs q=>by rw[Μ (cf q hn)];exact q
 qt:=λb ps q=>⟨#[],by rw[Μ (cf q hn),q];simp⟩
def Un.write(mu:RN (H x))(he:e=x\/H e=some (.own x))(k:∀b u,b≠e->h.get? b=some u->h'.get? b=some u)(RM:∃u,h'.get? e=some u):Un fs ex H (upd H x o) h h':=by
 have hx:∀b,H b=none->b≠x:=λb n z=>by subst z;rw[n]at mu;exact mu
 have hb:∀b,H b=none->b≠e:=λb n z=>by
  subst z;rcases he with r| r
  ·exact hx b n r
  ·rw[n]at r;cases r
 have hm:∀b u,H b=some u->¬RN (some u)->b≠x:=λb u q nm z=>by subst z;rw[q]at mu;exact nm mu
 refine⟨λb u q n _ _=>k b u (hb b n) q,λb u q n _ _=>⟨u.slots,k b u (hb b n) q⟩,λb u q n _=>by rw[Μ (hx b n)];exact n,λb u q _=>?_,
  λb xs q=>by rw[Μ (hm b _ q λz=>z)];exact q,λb u xs q=>by rw[Μ (hm b _ q λz=>z)];exact q,λb ps q=>⟨#[],by rw[Μ (hm b _ q λz=>z),q];simp⟩⟩
 by_cases QF:b=e
 ·subst QF;exact RM
 ·exact⟨u,k b u QF q⟩
end
def V_(h:Heap)(H:Hp):List Addr:=(List.range h.objs.size).filter λa=>(H a).isSome
def xM(h:Heap)(H:Hp):Heap:=PySem.W.hideAll h (V_ h H)
def GJ(h:Heap)(H:Hp):(xM h H).objs.size=h.objs.size:=PySem.W.hideAll_size _ _
def J8{H:Hp}{o:Obj}(e:h.get? b=some o)(n:H b=none):(xM h H).get? b=some o:=
 PySem.W.hideAll_get _ e λhm=>by have q:(H b).isSome=true:=(List.mem_filter.mp hm).2;rw[n]at q;simp at q
def ND{H:Hp}{o:Obj}(e:(xM h H).get? b=some o):h.get? b=some o/\H b=none:=by
 have e':h.get? b=some o:=PySem.W.of_hideAll (V_ h H) e;refine⟨e',?_⟩;cases q:H b with
 |none=>rfl
 |some x=>
  have hm:b∈V_ h H:=List.mem_filter.mpr ⟨List.mem_range.mpr (Heap.lt_size e'),by simp[q]⟩;have z:(xM h H).get? b=none:=PySem.W.hideAll_none (V_ h H) hm;rw[z]at e;cases e
structure Mod(K:fI)(mg:Str->Option Value)(base:Heap):Prop where
 UY:K.In base
 glob:base.Ns mainGlobals mg
 blt:∃mb,base.Ns builtinsNs mb/\∀x:Str,x≠"__name__"->mb x=bootBuiltins x
 nolimit:base.NoLimit
structure Cx where
 prog:Program
 w:World
 K:fI
 mg:Str->Option Value
 base:Heap
 A:Around
 N:List Str
 s₀:Shared
 H₀:Hp
 env:Env
 outer:List Env
 stack:List Env
 ex:List Addr
 fn:Str->Bool
 calm:Bool
 pn:List (Addr×Obj)
 xe:Value->Shared->Prop
variable{X:Cx}
def qy(l:List Env):List Addr:=l.filterMap (·.frame)
abbrev Cx.fs(X:Cx):List Addr:=qy X.outer
def Zt(sc:Scope)(x:Str):Prop:=sc.names.lookup x=some .local\/sc.names.lookup x=some .cell\/sc.names.lookup x=some .free
def Loc(sc:Scope)(x:Str):Prop:=sc.names.lookup x=some .local\/sc.names.lookup x=some .cell
def Z0(env:Env)(h:Heap)(m:Str->Option Value)(x:Str)(u:Value):Prop:=
 (env.kindOf x=some .local/\m x=some u)\/((env.kindOf x=some .cell\/env.kindOf x=some .free)/\∃c,env.cells.lookup x=some c/\h.IsCell c (some u))
structure Cx.Ok(X:Cx):Prop where
 mod:Mod X.K X.mg X.base
 kind:X.env.scope.kind= .function
 glob:X.env.globals=mainGlobals
 blt:X.env.builtins=builtinsNs
 above:X.s₀.heap.objs.size<=X.env.locals
 inj:∀x y c,X.env.cells.lookup x=some c->X.env.cells.lookup y=some c->x=y
 has:∀x,(X.env.kindOf x=some .cell\/X.env.kindOf x=some .free)->∃c,X.env.cells.lookup x=some c
 YE:∀x c,X.fn x=true->X.env.cells.lookup x=some c->X.s₀.heap.objs.size<=c
 hd:X.calm=true->X.A.handled=none
 frames:X.A.frames=some X.stack
 stk:X.stack=X.outer\/(X.stack=X.env::X.outer/\X.env.frame=some X.env.locals)
 exf:∀b∈X.ex,b≠X.env.locals/\∀x c,X.env.cells.lookup x=some c->c≠b
 bs:∀b o,X.base.get? b=some o->X.s₀.heap.get? b=some o/\X.H₀ b=none
 x':X.base.objs.size<=X.s₀.heap.objs.size
 QH:∀b o,X.base.get? b=some o->b∉X.ex
 PH:∀b∈X.ex,b∉X.fs
 uP:X.s₀.heap.FunFrames X.base X.outer
 SS:∀b∈X.fs,X.H₀ b=none
structure Inv(X:Cx)(ζ:List (Addr×Obj))(σ:List (Option V))(H:Hp)(s:Shared):Prop where
 ok:X.Ok
 os:s.os=X.s₀.os
 bare:AllBare s.gens
 base:Un X.fs X.ex X.H₀ H X.s₀.heap s.heap
 loc:∃m,s.heap.Ns X.env.locals m/\∀(i:Nat) (x:Str) (v:V),X.N[i]? =some x->σ[i]? =some (some v)->Zt X.env.scope x->∃u,aA v u/\Z0 X.env s.heap m x u
 cell:∀x c,X.env.cells.lookup x=some c->∃v,s.heap.IsCell c v
 free:H X.env.locals=none
 pW:∀x c,X.env.cells.lookup x=some c->H c=none
 pin:∀p∈X.pn++ζ,s.heap.get? p.1=some p.2/\H p.1=none/\p.1≠X.env.locals/\p.1∉X.fs/\∀v,p.2.data≠ .cell v
 aS:lD X.prog X.w H s.heap
 len:σ.length=X.N.length
section
variable{σ:List (Option V)}{H H':Hp}
def Cx.Ok.Xl(ok:X.Ok){o:Obj}(e:X.base.get? b=some o):b∉X.fs:=λhb=>by have:=(ok.uP.mem hb).1;rw[e]at this;cases this
def Inv.bs(I:Inv X ζ σ H s):∀b o,X.base.get? b=some o->s.heap.get? b=some o/\H b=none:=λb o e=>
 ⟨I.base.keep b o (I.ok.bs b o e).1 (I.ok.bs b o e).2 (I.ok.Xl e) (I.ok.QH b o e),I.base.free b o (I.ok.bs b o e).1 (I.ok.bs b o e).2 (I.ok.QH b o e)⟩
def Inv.bk(I:Inv X ζ σ H s):∀b o,X.base.get? b=some o->s.heap.get? b=some o:=λb o e=>(I.bs b o e).1
def Inv.mod(I:Inv X ζ σ H s):Mod X.K X.mg X.base:=I.ok.mod
def Inv.qa(I:Inv X ζ σ H s):X.K.In s.heap:=I.ok.mod.UY.keeps I.bk
def Inv.lt(I:Inv X ζ σ H s):X.env.locals<s.heap.objs.size:=let ⟨_,hn,_⟩:=I.loc;hn.lt
def Inv.sz(I:Inv X ζ σ H s):X.s₀.heap.objs.size<=s.heap.objs.size:=aaE I.ok.above (Nat.le_of_lt I.lt)
def Inv.YR(I:Inv X ζ σ H s)(h:s.heap.objs.size<=a):a∉X.fs:=λhb=>by have⟨_,o,ho,_⟩:=I.ok.uP.mem hb;exact aaL (aau (aat ho) (aaE I.sz h)) (abI _)
def Inv.NB(I:Inv X ζ σ H s):∀x c,X.env.cells.lookup x=some c->c≠X.env.locals:=λx c e z=>by have⟨v,o,ho,hd⟩:=I.cell x c e;have⟨m,⟨o',es,ep,Fu,JX,_⟩,_⟩:=I.loc;rw[z,Fu]at ho;cases ho;rw[JX]at hd;cases hd
def Inv.uP(I:Inv X ζ σ H s):s.heap.FunFrames X.base X.outer:=by
 have all:∀(l:List Env),(∀b∈qy l,b∈X.fs)->X.s₀.heap.FunFrames X.base l->s.heap.FunFrames X.base l:=by
  intro l
  induction l with
  |nil=>intro _ _;trivial
  |cons env r ih=>
   intro hs hl;have⟨hk,⟨L,o,hf,hn,ho,hd⟩,hr⟩:=hl;have hL:L∈X.fs:=hs L (by unfold qy;rw[List.filterMap_cons,hf];exact List.mem_cons_self);have⟨sl,e⟩:=I.base.slot L o ho (I.ok.SS L hL) hL λz=>I.ok.PH L z hL;exact⟨hk,⟨L,_,hf,hn,e,hd⟩,ih (λb hb=>hs b (by unfold qy;rw[List.filterMap_cons,hf];exact List.mem_cons_of_mem _ hb)) hr⟩
 exact all X.outer (λ_ hb=>hb) I.ok.uP
def Inv.stack(I:Inv X ζ σ H s):s.heap.FunFrames X.base X.stack:=by
 rcases I.ok.stk with e| ⟨e,hf⟩
 ·rw[e];exact I.uP
 ·rw[e];have⟨m,hn,_⟩:=I.loc;refine .cons (by rw[I.ok.kind];decide) hf hn ?_ I.uP;exact Heap.get?_none_of_le (aaE I.ok.x' I.ok.above)
def Inv.wJ(I:Inv X ζ σ H s):∀b∈qy X.stack,b∈X.env.locals::X.fs:=λb hb=>by
 rcases I.ok.stk with e| ⟨e,hf⟩
 ·rw[e]at hb;exact aad _ hb
 ·rw[e]at hb;unfold qy at hb;rw[acj,hf]at hb;exact hb
def Inv.x6(I:Inv X ζ σ H s):∀b∈qy X.stack,H b=none:=λb hb=>by
 rcases aaK.mp (I.wJ b hb) with e| hb
 ·rw[e];exact I.free
 ·have⟨_,o,ho,_⟩:=I.ok.uP.mem hb;exact I.base.free b o ho (I.ok.SS b hb) λz=>I.ok.PH b z hb
def Inv.step{t':Nat}{d':Drawn}(I:Inv X ζ σ H s)
  (A2:∀b∈ch,(b∈X.ex\/X.s₀.heap.objs.size<=b)/\b≠X.env.locals/\(∀x c,X.env.cells.lookup x=some c->c≠b)/\∀p∈X.pn++ζ,p.1≠b)
  (keep:∀b o,b≠X.env.locals->b∉X.fs->b∉ch->s.heap.get? b=some o->H b=none->h'.get? b=some o)
  (slot:∀b o,b≠X.env.locals->b∈X.fs->b∉ch->s.heap.get? b=some o->H b=none->∃sl,h'.get? b=some {o with slots:=sl}) (free:∀b o,b∉ch->s.heap.get? b=some o->H b=none->H' b=none)
  (there:∀b o,b∉ch->s.heap.get? b=some o->∃o',h'.get? b=some o')
  (qA:∀b xs,H b=some (.tup xs)->H' b=some (.tup xs)) (oJ:∀b o u,H b=some (.vC o u)->H' b=some (.vC o u)) (qt:∀b ps,H b=some (.Nu ps)->∃more,H' b=some (.Nu (ps++more)))
  (ns:∀m,s.heap.Ns X.env.locals m->h'.Ns X.env.locals m) (aS:lD X.prog X.w H' h') (hg:AllBare g'):
  Inv X ζ σ H' {s with heap:=h',gens:=g',drawn:=d',toks:=t'}:=by
 have neL:∀b o,X.s₀.heap.get? b=some o->b≠X.env.locals:=λb o e=>aaT (aau (aat e) I.ok.above);have VB:∀b o,X.s₀.heap.get? b=some o->b∉X.ex->b∉ch:=λb o e hx hb=>by
  rcases(A2 b hb).1 with z| z
  ·exact hx z
  ·exact aaL (aau (aat e) z) (abI _)
 have cellK:∀x c,X.env.cells.lookup x=some c->∀v,s.heap.IsCell c v->h'.IsCell c v:=λx c e v ⟨o,ho,hd⟩=>by
  have Vf:c∉ch:=λz=>(A2 c z).2.2.1 x c e rfl;by_cases hc:c∈X.fs
  ·have⟨sl,q⟩:=slot c o (I.NB x c e) hc Vf ho (I.pW x c e);exact⟨_,q,hd⟩
  ·exact⟨o,keep c o (I.NB x c e) hc Vf ho (I.pW x c e),hd⟩
 refine⟨I.ok,I.os,hg,⟨λb o e n hb hx=>?_,λb o e n hb hx=>?_,λb o e n hx=>?_,λb o e hx=>?_,λb xs e=>qA b xs (I.base.qA b xs e),λb o xs e=>oJ b o xs (I.base.oJ b o xs e),λb ps e=>?_⟩,?_,λx c e=>?_,?_,λx c e=>?_,λp hp=>?_,aS,I.len⟩
 ·exact keep b o (neL b o e) hb (VB b o e hx) (I.base.keep b o e n hb hx) (I.base.free b o e n hx)
 ·have⟨sl,e1⟩:=I.base.slot b o e n hb hx;have⟨sl',e2⟩:=slot b _ (neL b o e) hb (VB b o e hx) e1 (I.base.free b o e n hx);exact⟨sl',e2⟩
 ·have⟨o',e1⟩:=I.base.there b o e hx;exact free b o' (VB b o e hx) e1 (I.base.free b o e n hx)
 ·have⟨o',e1⟩:=I.base.there b o e hx;exact there b o' (VB b o e hx) e1
 ·have⟨m1,e1⟩:=I.base.qt b ps e;have⟨m2,e2⟩:=qt b _ e1;exact⟨m1++m2,by rw[e2,Array.append_assoc]⟩
 ·have⟨m,hn,hl⟩:=I.loc;refine⟨m,ns m hn,λi x v e1 e2 e3=>?_⟩;have⟨u,r,l⟩:=hl i x v e1 e2 e3;refine⟨u,r,?_⟩;rcases l with l| ⟨k,c,e,z⟩
  ·exact .inl l
  ·exact .inr ⟨k,c,e,cellK x c e _ z⟩
 ·have⟨v,z⟩:=I.cell x c e;exact⟨v,cellK x c e v z⟩
 ·have⟨m,⟨o,_,_,ho,_⟩,_⟩:=I.loc;exact free _ o (λz=>(A2 _ z).2.1 rfl) ho I.free
 ·have⟨v,o,ho,hd⟩:=I.cell x c e;exact free c o (λz=>(A2 c z).2.2.1 x c e rfl) ho (I.pW x c e)
 ·have⟨e,n,ne,nf,d⟩:=I.pin p hp;have Vf:p.1∉ch:=λz=>(A2 p.1 z).2.2.2 p hp rfl;exact⟨keep p.1 p.2 ne nf Vf e n,free p.1 p.2 Vf e n,ne,nf,d⟩
def Inv.un{t':Nat}(I:Inv X ζ σ H s)(u:Un X.fs [] H H' s.heap h')(aS:lD X.prog X.w H' h'):Inv X ζ σ H' {s with heap:=h',toks:=t'}:=by
 have⟨m,⟨o,es,ep,ho,r⟩,_⟩:=id I.loc;have⟨sl,hL⟩:=u.any ho I.free (by simp)
 exact I.step (g':=s.gens) (d':=s.drawn) (ch:=[]) (λ_ z=>nomatch z) (λb o _ hb _ e n=>u.keep b o e n hb (by simp)) (λb o _ hb _ e n=>u.slot b o e n hb (by simp)) (λb o _ e n=>u.free b o e n (by simp)) (λb o _ e=>u.there b o e (by simp)) u.qA u.oJ u.qt (λm' hm=>by
  have⟨o',Wm,XB,Fu,r'⟩:=hm;rw[ho]at Fu;cases Fu
  exact⟨_,Wm,XB,hL,r'⟩) aS I.bare
def Inv.call{t':Nat}{d':Drawn}(I:Inv X ζ σ H s)(u:Un (qy X.stack) ch H H' s.heap h')(aS:lD X.prog X.w H' h')(hg:AllBare g')
  (A2:∀b∈ch,(b∈X.ex\/X.s₀.heap.objs.size<=b)/\b≠X.env.locals/\(∀x c,X.env.cells.lookup x=some c->c≠b)/\∀p∈X.pn++ζ,p.1≠b):
  Inv X ζ σ H' {s with heap:=h',gens:=g',drawn:=d',toks:=t'}:=by
 have⟨m,⟨o,es,ep,ho,r⟩,_⟩:=id I.loc;have⟨sl,hL⟩:=u.any ho I.free λz=>(A2 _ z).2.1 rfl
 exact I.step (ch:=ch) A2 (λb o hL hb hc e n=>u.keep b o e n (λz=>(aaK.mp (I.wJ b z)).elim hL hb) hc) (λb o _ _ hc e n=>u.any e n hc) (λb o hc e n=>u.free b o e n hc) (λb o hc e=>u.there b o e hc) u.qA u.oJ u.qt (λm' hm=>by
  have⟨o',Wm,XB,Fu,r'⟩:=hm;rw[ho]at Fu;cases Fu
  exact⟨_,Wm,XB,hL,r'⟩) aS hg
def Inv.turned{t':Nat}{it:Addr}(I:Inv X ζ σ H s)(k:∀b o,b≠it->s.heap.get? b=some o->h'.get? b=some o)(hn:H it=none)(hL:it≠X.env.locals)
  (h1:it∈X.ex\/X.s₀.heap.objs.size<=it) (h2:∀x c,X.env.cells.lookup x=some c->c≠it) (h3:∀p∈X.pn++ζ,p.1≠it):Inv X ζ σ H {s with heap:=h',toks:=t'}:=by
 have nit:∀b u,H b=some u->b≠it:=λb u e z=>by rw[z,hn]at e;cases e
 refine I.step (g':=s.gens) (d':=s.drawn) (ch:=[it]) (λb hb=>?_) (λb o _ _ hc e _=>k b o (λz=>hc (by simp[z])) e) (λb o _ _ hc e _=>⟨o.slots,k b o (λz=>hc (by simp[z])) e⟩) (λ_ _ _ _ n=>n)
  (λb o hc e=>⟨o,k b o (λz=>hc (by simp[z])) e⟩) (λ_ _ e=>e) (λ_ _ _ e=>e) (λb ps e=>⟨#[],by rw[e];simp⟩) (λm hm=>?_) (λb u e=>?_) I.bare
 ·have e:b=it:=by simpa using hb
  subst e;exact⟨h1,hL,h2,h3⟩
 ·have⟨o,es,ep,ho,r⟩:=hm;exact⟨o,es,ep,k _ o (Ne.symm hL) ho,r⟩
 ·refine(I.aS b u e).BI (λc v hc q=>k c v ?_ q) (λ_ q=>q) λ_ _ q=>q;rcases hc with z| z
  ·rw[z];exact nit b u e
  ·exact nit c _ z
def Inv.tok(I:Inv X ζ σ H s)(t:Nat):Inv X ζ σ H {s with toks:=t}:=I.un (h':=s.heap) (t':=t) Un.refl I.aS
def Inv.kept{t':Nat}(I:Inv X ζ σ H s)(k:∀b u,s.heap.get? b=some u->h'.get? b=some u):Inv X ζ σ H {s with heap:=h',toks:=t'}:=I.un (Un.kept k) (I.aS.kept k)
def Inv.laid{t':Nat}(I:Inv X ζ σ H s)(k:∀b u,s.heap.get? b=some u->h'.get? b=some u)(hp:s.heap.objs.size<=a)(new:cn X.prog X.w (upd H a o) h' a o):
  Inv X ζ σ (upd H a o) {s with heap:=h',toks:=t'}:=I.un (Un.laid k hp (I.aS.fresh hp)) (I.aS.laid k hp new)
def Inv.write{x e:Addr}{t':Nat}(I:Inv X ζ σ H s)(mu:RN (H x))(he:e=x\/H e=some (.own x))(k:∀b u,b≠e->s.heap.get? b=some u->h'.get? b=some u)(RM:∃u,h'.get? e=some u)
  (new:cn X.prog X.w (upd H x o) h' x o):Inv X ζ σ (upd H x o) {s with heap:=h',toks:=t'}:=I.un (Un.write mu he k RM) (I.aS.write mu he k RM new)
def Inv.Eo{Oj:List (Addr×Obj)}(I:Inv X ζ σ H s)(h:∀p∈Oj,s.heap.get? p.1=some p.2/\H p.1=none/\p.1≠X.env.locals/\p.1∉X.fs/\∀v,p.2.data≠ .cell v):Inv X Oj σ H s:=
 ⟨I.ok,I.os,I.bare,I.base,I.loc,I.cell,I.free,I.pW,λp hp=>(aaV.mp hp).elim (λz=>I.pin p (List.mem_append_left _ z)) (h p),I.aS,I.len⟩
def AE{N:List Str}(hN:N.Nodup){j:Nat}(a:N[i]? =some x)(b:N[j]? =some x):i=j:=by have⟨h1,e1⟩:=aaf.mp a;have⟨h2,e2⟩:=aaf.mp b;exact(List.getElem_inj hN).mp (e1.trans e2.symm)
def vD{Q:Unit->Shared->Prop}(I:Inv X ζ σ H s)(hN:X.N.Nodup)(hi:X.N[i]? =some x)(hx:Loc X.env.scope x)(r:aA v u)
  (h:∀s',Inv X ζ (σ.set i (some v)) H s'->(∃a,Heap.SameBut a s.heap s'.heap/\(a=X.env.locals\/X.env.cells.lookup x=some a))->Q Unit.unit s') (hf:X.fn x=true\/X.env.scope.names.lookup x=some .local:=by first| exact .inl rfl| exact .inr rfl| assumption):wpAny M A (storeName X.env x u) Q E s:=by
 have⟨m,hn,hl⟩:=id I.loc;have YM:(X.env.scope.kind== .class|| (X.env.scope.kind== .module&&X.env.locals != X.env.globals))=false:=by rw[I.ok.kind];rfl
 have UM:i<σ.length:=by rw[I.len];exact(aaf.mp hi).1
 have NB:=I.NB;have tracked:∀{a:Addr} {h':Heap},(∃o,s.heap.get? a=some o/\H a=none)->Heap.SameBut a s.heap h'->lD X.prog X.w H h':=λ{a h'} ha hs b ob e=>by
  have⟨_,_,OJ⟩:=ha;refine(I.aS b ob e).BI (λc w' hc q=>(hs.2 c ?_).trans q) (λ_ q=>q) λ_ _ q=>q;rintro rfl;rcases hc with rfl| hc
  ·rw[OJ]at e;cases e
  ·rw[OJ]at hc;cases hc
 rcases hx with hk| hk
 ·refine wpAny_storeName_local hk hn (λh' TF hs=>?_) YM;have⟨oL,_,_,hoL,_⟩:=id hn;refine h _ ⟨I.ok,I.os,I.bare,⟨λb o e n hb hx=>?_,λb o e n hb hx=>?_,I.base.free,λb o e hx=>?_,I.base.qA,I.base.oJ,I.base.qt⟩,⟨_,TF,λj y v' e1 e2 e3=>?_⟩,λy c e=>?_,I.free,I.pW,λp hp=>?_,tracked ⟨oL,hoL,I.free⟩ hs,by simpa using I.len⟩ ⟨_,hs,.inl rfl⟩
  ·exact(hs.2 b (aaT (aau (aat e) I.ok.above))).trans (I.base.keep b o e n hb hx)
  ·have⟨sl,e1⟩:=I.base.slot b o e n hb hx;exact⟨sl,(hs.2 b (aaT (aau (aat e) I.ok.above))).trans e1⟩
  ·have⟨o',e1⟩:=I.base.there b o e hx;exact⟨o',(hs.2 b (aaT (aau (aat e) I.ok.above))).trans e1⟩
  ·by_cases hj:j=i
   ·subst hj;rw[hi]at e1;cases e1;rw[aa3 UM]at e2;cases e2;exact⟨u,r,.inl ⟨hk,by simp⟩⟩
   ·rw[aa9 (Ne.symm hj)]at e2;have⟨u',r',q⟩:=hl j y v' e1 e2 e3;refine⟨u',r',?_⟩;rcases q with ⟨k,e⟩| ⟨k,c,e,z⟩
    ·refine .inl ⟨k,?_⟩;have:y≠x:=λe=>hj (AE hN e1 (e▸hi));simp[this,e]
    ·exact .inr ⟨k,c,e,z.sameBut hs (NB y c e)⟩
  ·have⟨w',z⟩:=I.cell y c e;exact⟨w',z.sameBut hs (NB y c e)⟩
  ·have⟨e,n,ne,nf,d⟩:=I.pin p hp;exact⟨(hs.2 p.1 ne).trans e,n,ne,nf,d⟩
 ·have Ws:X.fn x=true:=by
   rcases hf with z| z
   ·exact z
   ·rw[z]at hk;cases hk
  have⟨c,hc⟩:=I.ok.has x (.inl hk);have⟨w',z⟩:=I.cell x c hc;refine wpAny_storeName_cell I.ok.kind hk hc z (λh' C2 hs=>?_);have⟨oc,hoc,Zs⟩:=id z;refine h {s with heap:=h'} ⟨I.ok,I.os,I.bare,⟨λb o e n hb hx=>?_,λb o e n hb hx=>?_,I.base.free,λb o e hx=>?_,I.base.qA,I.base.oJ,I.base.qt⟩,⟨m,hn.sameBut hs (Ne.symm (NB x c hc)),λj y v' e1 e2 e3=>?_⟩,λy c' e=>?_,I.free,I.pW,λp hp=>?_,tracked ⟨oc,hoc,I.pW x c hc⟩ hs,by simpa using I.len⟩ ⟨c,hs,.inr hc⟩
  ·exact(hs.2 b (aaT (aau (aat e) (I.ok.YE x c Ws hc)))).trans (I.base.keep b o e n hb hx)
  ·have⟨sl,e1⟩:=I.base.slot b o e n hb hx;exact⟨sl,(hs.2 b (aaT (aau (aat e) (I.ok.YE x c Ws hc)))).trans e1⟩
  ·have⟨o',e1⟩:=I.base.there b o e hx;exact⟨o',(hs.2 b (aaT (aau (aat e) (I.ok.YE x c Ws hc)))).trans e1⟩
  ·by_cases hj:j=i
   ·subst hj;rw[hi]at e1;cases e1;rw[aa3 UM]at e2;cases e2;exact⟨u,r,.inr ⟨.inl hk,c,hc,C2⟩⟩
   ·rw[aa9 (Ne.symm hj)]at e2;have⟨u',r',q⟩:=hl j y v' e1 e2 e3;refine⟨u',r',?_⟩;rcases q with q| ⟨k,c',e,z'⟩
    ·exact .inl q
    ·refine .inr ⟨k,c',e,z'.sameBut hs ?_⟩;rintro rfl;exact hj (AE hN e1 (I.ok.inj _ _ _ e hc▸hi))
  ·by_cases Rv:c'=c
   ·subst Rv;exact⟨_,C2⟩
   ·have⟨w2,z2⟩:=I.cell y c' e;exact⟨w2,z2.sameBut hs Rv⟩
  ·have⟨e,n,ne,nf,d⟩:=I.pin p hp;refine⟨(hs.2 p.1 ?_).trans e,n,ne,nf,d⟩;intro q;rw[q,hoc]at e;have q':oc=p.2:=aar e;exact d w' (by rw[<-q'];exact Zs)
def nN{Q:Unit->Shared->Prop}(I:Inv X ζ σ H s)(hN:X.N.Nodup)(hi:X.N[i]? =some x)(hx:Loc X.env.scope x)(r:aA v u)
  (h:∀s',Inv X ζ (σ.set i (some v)) H s'->Q Unit.unit s') (hf:X.fn x=true\/X.env.scope.names.lookup x=some .local:=by first| exact .inl rfl| exact .inr rfl| assumption):wpAny M A (storeName X.env x u) Q E s:=
 vD I hN hi hx r (λs' I' _=>h s' I') hf
def Inv.Ui{s':Shared}(I:Inv X ζ σ H s)(ho:s'.os=s.os)(u:Un (qy X.stack) ch H H' s.heap s'.heap)(aS:lD X.prog X.w H' s'.heap)(hg:AllBare s'.gens)
  (A2:∀b∈ch,(b∈X.ex\/X.s₀.heap.objs.size<=b)/\b≠X.env.locals/\(∀x c,X.env.cells.lookup x=some c->c≠b)/\∀p∈X.pn++ζ,p.1≠b):Inv X ζ σ H' s':=by
 have⟨h',g',d',t',o'⟩:=s';have e:o'=s.os:=ho;subst e;exact I.call (g':=g') (t':=t') (d':=d') u aS hg A2
end
abbrev XK:=Value->Option Addr->Hp->Prop
abbrev St:=List (Option V)
variable{σ:St}
abbrev VK:=V->Hp->Prop
abbrev TE:=St->Hp->VK->Prop
variable{ta te:TE}
abbrev TT:=St->Hp->(Bool->Hp->Prop)->Prop
abbrev TA:=St->Hp->(List V->Hp->Prop)->Prop
structure yz where
 nx:St->Hp->Prop
 rt:VK
 bk:St->Hp->Prop:=λ_ _=>False
 ct:St->Hp->Prop:=λ_ _=>False
abbrev TS:=yz->St->Hp->Prop
def EP(X:Cx)(ζ:List (Addr×Obj))(σ:St)(Q:VK)(u:Value)(s':Shared):Prop:=∃v H',Inv X ζ σ H' s'/\aA v u/\Q v H'
def TP(X:Cx)(ζ:List (Addr×Obj))(σ:St)(Q:Bool->Hp->Prop)(b:Bool)(s':Shared):Prop:=∃H',Inv X ζ σ H' s'/\Q b H'
def AP(X:Cx)(ζ:List (Addr×Obj))(σ:St)(Q:List V->Hp->Prop)(us:List Value)(s':Shared):Prop:=∃vs H',Inv X ζ σ H' s'/\aF vs us/\Q vs H'
def SP(X:Cx)(ζ:List (Addr×Obj))(D:yz)(f:Flow)(s':Shared):Prop:=
 match f with
 |.next=>∃σ' H',Inv X ζ σ' H' s'/\D.nx σ' H'
 |.brk=>∃σ' H',Inv X ζ σ' H' s'/\D.bk σ' H'
 |.cont=>∃σ' H',Inv X ζ σ' H' s'/\D.ct σ' H'
 |.ret u=>∃v σ' H',Inv X ζ σ' H' s'/\aA v u/\D.rt v H'
def PE(X:Cx)(e:Expr)(t:TE):Prop:=
 ∀(ζ:List (Addr×Obj)) (s:Shared) (σ:St) (H:Hp) (Q:VK),Inv X ζ σ H s->t σ H Q->wpAny (model X.prog X.w) X.A (eval e X.env) (EP X ζ σ Q) X.xe s
def PT(X:Cx)(e:Expr)(t:TT):Prop:=
 ∀(ζ:List (Addr×Obj)) (s:Shared) (σ:St) (H:Hp) (Q:Bool->Hp->Prop),Inv X ζ σ H s->t σ H Q->wpAny (model X.prog X.w) X.A (isTrue e X.env (eval e X.env)) (TP X ζ σ Q) X.xe s
def PW(X:Cx)(e:Expr)(t:TT):Prop:=
 ∀(whole:Sem Value) (ζ:List (Addr×Obj)) (s:Shared) (σ:St) (H:Hp) (Q:Bool->Hp->Prop),Inv X ζ σ H s->t σ H Q->wpAny (model X.prog X.w) X.A (isTrue e X.env whole) (TP X ζ σ Q) X.xe s
def PA(X:Cx)(es:List Expr)(t:TA):Prop:=
 ∀(pos:Pos) (ζ:List (Addr×Obj)) (s:Shared) (σ:St) (H:Hp) (Q:List V->Hp->Prop),Inv X ζ σ H s->t σ H Q->wpAny (model X.prog X.w) X.A (spliced (backTo pos (starEach es X.env))) (AP X ζ σ Q) X.xe s
def PS(X:Cx)(st:Stmt)(t:TS):Prop:=
 ∀(ζ:List (Addr×Obj)) (s:Shared) (σ:St) (H:Hp) (D:yz),Inv X ζ σ H s->t D σ H->wpAny (model X.prog X.w) X.A (exec st X.env) (SP X ζ D) X.xe s
def Hh(X:Cx)(st:List Stmt)(t:TS):Prop:=
 ∀(ζ:List (Addr×Obj)) (s:Shared) (σ:St) (H:Hp) (D:yz),Inv X ζ σ H s->t D σ H->wpAny (model X.prog X.w) X.A (execs st X.env) (SP X ζ D) X.xe s
def bJ{α:Type}{t:Sem α}{Q Q':α->Shared->Prop}(h:wpAny M A t Q E s)(hQ:∀a s,Q a s->Q' a s):wpAny M A t Q' E s:=ab7 h hQ λ_ _ x=>x
section
def XS(i:Nat):TE:=λσ H Q=>∃v,σ[i]? =some (some v)/\Q v H
def tC(v:V):TE:=λ_ H Q=>Q v H
def Pj(hN:X.N[i]? =some x)(hv:Zt X.env.scope x)(hd:(x==("__debug__":Str))=false:=by decide)(K9:(x==("__classdict__":Str))=false:=by decide):PE X (.Name x pos) (XS i):=by
 intro ζ s σ H Q I h;have⟨v,e,h⟩:=h;have⟨m,hn,hl⟩:=I.loc;have⟨u,r,l⟩:=hl i x v hN e hv;have fin:EP X ζ σ Q u s:=⟨v,H,I,r,h⟩;rcases l with ⟨hk,hm⟩| ⟨hk,c,hc,Oy⟩
 ·exact wpAny_Name (wpAny_loadName_local I.ok.kind hk hn hm fin) hd
 ·rcases hk with hk| hk
  ·exact wpAny_Name (wpAny_loadName_cell I.ok.kind hk hc Oy fin) hd
  ·exact wpAny_Name (wpAny_loadName_free I.ok.kind hk hc Oy fin K9) hd
def Rz{i j pos}:PE X (.Constant (.int i) j pos) (tC (.int i)):=λ_ _ _ H _ I h=>wpAny_Constant_int ⟨.int i,H,I.tok _,⟨_,rfl⟩,h⟩
def Ud{b j pos}:PE X (.Constant (.bool b) j pos) (tC (.bl b)):=λ_ _ _ H _ I h=>Constant_bool ⟨.bl b,H,I,rfl,h⟩
def Pz{j pos}:PE X (.Constant .none j pos) (tC .bj):=λ_ _ _ H _ I h=>Constant_none ⟨.bj,H,I,rfl,h⟩
def HG{x j pos}:PE X (.Constant (.str x) j pos) (tC (.str x)):=λ_ _ _ H _ I h=>Calls.Constant_str ⟨.str x,H,I.tok _,⟨_,rfl⟩,h⟩
def Gl(X:Cx)(x:Str):Prop:=X.env.kindOf x=some .globalImplicit
def qG{H:Hp}(I:Inv X ζ σ H s)(hg:Gl X x)(hm:X.mg x=some u)(h:Q u s)
  (hd:(x==("__debug__":Str))=false:=by decide):wpAny (model X.prog X.w) X.A (eval (.Name x pos) X.env) Q E s:=
 Calls.Name_function_global I.ok.kind hg (Calls.loadGlobal_global (by rw[I.ok.glob];exact I.mod.glob.keeps I.bk) hm h) hd
def mP{H:Hp}(I:Inv X ζ σ H s)(hg:Gl X x)(hm:X.mg x=none)(hv:bootBuiltins x=some u)(h:Q u s)
  (hn:x≠"__name__":=by decide) (hd:(x==("__debug__":Str))=false:=by decide):wpAny (model X.prog X.w) X.A (eval (.Name x pos) X.env) Q E s:=by
 have⟨mb,h1,h2⟩:=I.mod.blt;exact Calls.Name_function_global I.ok.kind hg (Calls.loadGlobal_builtin (by rw[I.ok.glob];exact I.mod.glob.keeps I.bk) hm (by rw[I.ok.blt];exact h1.keeps I.bk) ((h2 x hn).trans hv) h) hd
def EL(hg:Gl X x)(hm:X.mg x=some u)(r:aA v u)(hd:(x==("__debug__":Str))=false:=by decide):PE X (.Name x pos) (tC v):=
 λ_ _ _ H _ I h=>qG I hg hm ⟨v,H,I,r,h⟩ hd
def MK(hg:Gl X x)(hm:X.mg x=none)(hv:bootBuiltins x=some u)(r:aA v u)(hn:x≠"__name__":=by decide)(hd:(x==("__debug__":Str))=false:=by decide):PE X (.Name x pos) (tC v):=
 λ_ _ _ H _ I h=>mP I hg hm hv ⟨v,H,I,r,h⟩ hn hd
variable{a b:Expr}{tb:TE}
def tB(t:TE):TT:=λσ H Q=>t σ H λx H1=>∃c,x= .bl c/\Q c H1
def Q7{t:TE}(h:PE X e t)(he:∀whole,isTrue e X.env whole=(do let v<-whole;standAt e.pos;holding [v] (truthy v)):=by intro _;rfl):PT X e (tB t):=by intro ζ s σ H Q I hw;refine isTrue_plain (bJ (h ζ s σ H _ I hw) λv s1 xz=>?_) (he _);have⟨x,H1,I1,r1,q1⟩:=xz;have⟨d,rfl,q⟩:=q1;cases r1;exact wpAny_truthy_bool ⟨H1,I1,q⟩
variable{tA Sn:TT}{rest:List Expr}
def Yd(t u:TT):TT:=λσ H Q=>t σ H λc H1=>if c=true then u σ H1 Q else Q false H1
def tOr(t u:TT):TT:=λσ H Q=>t σ H λc H1=>if c=true then Q true H1 else u σ H1 Q
def ZG(t:TT):TT:=λσ H Q=>t σ H λc H1=>Q (!c) H1
def pw_and1(ha:PT X a tA):PW X (.BoolOp .And [a] pos) tA:=by
 intro wh ζ s σ H Q I h;refine isTrue_and (bJ (ha ζ s σ H Q I h) λc s1 e=>?_);cases c with
 |true=>exact isTrue_and_nil e
 |false=>exact e
def pw_or1(ha:PT X a tA):PW X (.BoolOp .Or [a] pos) tA:=by
 intro wh ζ s σ H Q I h;refine isTrue_or (bJ (ha ζ s σ H Q I h) λc s1 e=>?_);cases c with
 |false=>exact isTrue_or_nil e
 |true=>exact e
def pw_and(ha:PT X a tA)(hb:PW X (.BoolOp .And (b::rest) pos) Sn):PW X (.BoolOp .And (a::b::rest) pos) (Yd tA Sn):=by
 intro wh ζ s σ H Q I h;refine isTrue_and (bJ (ha ζ s σ H _ I h) λc s1 xz=>?_);have⟨H1,I1,q1⟩:=xz;cases c with
 |true=>exact hb wh ζ s1 σ H1 Q I1 q1
 |false=>exact⟨H1,I1,q1⟩
def pw_or(ha:PT X a tA)(hb:PW X (.BoolOp .Or (b::rest) pos) Sn):PW X (.BoolOp .Or (a::b::rest) pos) (tOr tA Sn):=by
 intro wh ζ s σ H Q I h;refine isTrue_or (bJ (ha ζ s σ H _ I h) λc s1 xz=>?_);have⟨H1,I1,q1⟩:=xz;cases c with
 |true=>exact⟨H1,I1,q1⟩
 |false=>exact hb wh ζ s1 σ H1 Q I1 q1
def PR(ha:PT X a tA):PT X (.UnaryOp .Not a pos) (ZG tA):=by intro ζ s σ H Q I h;exact isTrue_not (ha ζ s σ H (λc H1=>Q (!c) H1) I h)
def T8(ta tb:TE):TE:=λσ H Q=>ta σ H λx H1=>∃c,x= .bl c/\if c=true then tb σ H1 Q else Q (.bl false) H1
def Ul(ta:TE):TE:=λσ H Q=>ta σ H λx H1=>∃c,x= .bl c/\Q (.bl (!c)) H1
def OZ{op}{t:TE}(h:PE X a t):PE X (.BoolOp op [a] pos) t:=λζ s σ H Q I hw=>BoolOp_one (h ζ s σ H Q I hw)
def Qx(ha:PE X a ta)(hb:PE X (.BoolOp .And (b::rest) pos) tb):PE X (.BoolOp .And (a::b::rest) pos) (T8 ta tb):=by
 intro ζ s σ H Q I h;refine BoolOp_and (bJ (ha ζ s σ H _ I h) λv s1 xz=>?_);have⟨x,H1,I1,r1,q1⟩:=xz;have⟨c,rfl,q1⟩:=q1;cases r1;refine wpAny_truthy_bool ?_;cases c with
 |true=>exact hb ζ s1 σ H1 Q I1 q1
 |false=>exact⟨.bl false,H1,I1,rfl,q1⟩
def Qr(ha:PE X a ta):PE X (.UnaryOp .Not a pos) (Ul ta):=by intro ζ s σ H Q I h;refine UnaryOp_ (bJ (ha ζ s σ H _ I h) λv s1 xz=>?_);have⟨x,H1,I1,r1,q1⟩:=xz;have⟨c,rfl,q1⟩:=q1;cases r1;exact not_of (wpAny_truthy_bool ⟨.bl (!c),H1,I1,rfl,q1⟩)
def tIf(t:TT)(ta tb:TE):TE:=λσ H Q=>t σ H λc H1=>if c=true then ta σ H1 Q else tb σ H1 Q
def KZ(hc:PT X c tA)(ha:PE X a ta)(hb:PE X b tb):PE X (.IfExp c a b pos) (tIf tA ta tb):=by
 intro ζ s σ H Q I h;refine wpAny_IfExp (bJ (hc ζ s σ H _ I h) λd s1 xz=>?_);have⟨H1,I1,q1⟩:=xz;cases d with
 |true=>exact ha ζ s1 σ H1 Q I1 q1
 |false=>exact hb ζ s1 σ H1 Q I1 q1
end
def gK(K:fI)(H:Hp)(a:Addr)(xs:List V):Prop:=
 Rd H a (.lst xs)\/
  ∃(o:Obj) (its:Array Value) (n:Nat),K.lookup a=some o/\o.cls= .type "list"/\o.dict=none/\o.data= .seq its n/\its.size<=sizeLine/\aF xs its.toList
def nZ(K:fI)(H:Hp)(a:Addr)(xs:List V):Prop:=
 Rd H a (.tup xs)\/
  ∃(o:Obj) (its:Array Value) (n:Nat),K.lookup a=some o/\o.cls= .type "tuple"/\o.data= .seq its n/\its.size<=sizeLine/\aF xs its.toList
def Xm:Value->Option V
 |.none=>some .bj
 |.bool b=>some (.bl b)
 |.int i _=>some (.int i)
 |.str x _=>some (.str x)
 |.bytes b _=>some (.Hc b)
 |.float b _=>some (.Pr b)
 |.ref a=>some (.ref a)
 |.type n=>some (.ty n)
 |_=>none
def aA.abs{x:V}(r:aA x u):Xm u=some x:=by
 cases x with
 |bj=>cases r;rfl
 |bl _=>cases r;rfl
 |int _=>have⟨t,rfl⟩:=r;rfl
 |str _=>have⟨t,rfl⟩:=r;rfl
 |Hc _=>have⟨t,rfl⟩:=r;rfl
 |Pr _=>have⟨t,rfl⟩:=r;rfl
 |ref _=>cases r;rfl
 |ty _=>cases r;rfl
def aA.inj{x y:V}{u:Value}(r:aA x u)(q:aA y u):x=y:=aar (r.abs.symm.trans q.abs)
def aF.inj:∀{xs ys:List V}{us:List Value},aF xs us->aF ys us->xs=ys
 |_,_,_,.nil,.nil=>rfl
 |_,_,_,.cons r t,.cons r' t'=>by rw[r.inj r',aF.inj t t']
section
variable{H:Hp}{xs ys:List V}
def gK.of{K:fI}(h:H a=some (.lst xs)):gK K H a xs:=.inl (.inl h)
def nZ.of{K:fI}(h:H a=some (.tup xs)):nZ K H a xs:=.inl (.inl h)
def Inv.list(I:Inv X ζ σ H s)(h:gK X.K H a xs):∃its:List Value,aF xs its/\PlainL s.heap a its.toArray/\xs.length<=sizeLine:=by
 rcases h with h| ⟨o,its,n,hk,hc,hd,hs,hz,r⟩
 ·have⟨z,its,n,r,e⟩:=h.ok I.aS;exact⟨its,r,⟨_,n,e,rfl,rfl,rfl⟩,z⟩
 ·refine⟨its.toList,r,⟨o,n,I.qa a o hk,hc,hd,by simpa using hs⟩,?_⟩;have e:=r.length;simp only[Array.length_toList]at e;omega
def Inv.tuple(I:Inv X ζ σ H s)(h:nZ X.K H a xs):∃its:List Value,aF xs its/\IsTup s.heap a its.toArray/\xs.length<=sizeLine:=by
 rcases h with h| ⟨o,its,n,hk,hc,hs,hz,r⟩
 ·have⟨z,its,r,p⟩:=h.ok I.aS;exact⟨its,r,p,z⟩
 ·refine⟨its.toList,r,⟨o,I.qa a o hk,hc,n,by simpa using hs⟩,?_⟩;have e:=r.length;simp only[Array.length_toList]at e;omega
def Inv.gS(I:Inv X ζ σ H s)(h:gK X.K H a xs)(h':gK X.K H a ys):xs=ys:=by
 have⟨its,r,⟨o,n,e,_,_,d⟩,_⟩:=I.list h;have⟨its',r',⟨o',n',e',_,_,d'⟩,_⟩:=I.list h';rw[e]at e';cases e';rw[d]at d';injection d' with d1 _
 have:its=its':=by simpa using congrArg Array.toList d1
 subst this;exact r.inj r'
def Inv.vp(I:Inv X ζ σ H s)(h:nZ X.K H a xs)(h':nZ X.K H a ys):xs=ys:=by
 have⟨its,r,⟨o,e,_,n,d⟩,_⟩:=I.tuple h;have⟨its',r',⟨o',e',_,n',d'⟩,_⟩:=I.tuple h';rw[e]at e';cases e';rw[d]at d';injection d' with d1 _
 have:its=its':=by simpa using congrArg Array.toList d1
 subst this;exact r.inj r'
end
section
variable{st:Stmt}{rest:List Stmt}{t u:TS}
def Vt:TS:=λD σ H=>D.nx σ H
def X0(t u:TS):TS:=λD σ H=>t {D with nx:=u D} σ H
def LY:Hh X [] Vt:=λ_ _ σ H _ I h=>wpAny_execs_nil ⟨σ,H,I,h⟩
def Hk(h1:PS X st t)(h2:Hh X rest u):Hh X (st::rest) (X0 t u):=by
 intro ζ s σ H D I h;refine wpAny_execs_cons (bJ (h1 ζ s σ H {D with nx:=u D} I h) λf s1 q=>?_);cases f with
 |next=>
  have⟨σ',H',I',q⟩:=q;exact h2 ζ s1 σ' H' D I' q
 |ret v=>exact q
 |brk=>exact q
 |cont=>exact q
def Ny(h1:PS X st t):Hh X [st] t:=by
 intro ζ s σ H D I h;refine wpAny_execs_cons (bJ (h1 ζ s σ H D I h) λf s1 q=>?_);cases f with
 |next=>exact wpAny_execs_nil q
 |ret v=>exact q
 |brk=>exact q
 |cont=>exact q
def U4:TS:=λD σ H=>D.ct σ H
def zx:PS X (.Continue pos) U4:=λ_ _ σ H _ I h=>wpAny_Continue ⟨σ,H,I,h⟩
def Inv.quiet{H:Hp}(I:Inv X ζ σ H s):interactive X.env=false:=by simp[interactive,I.ok.kind]
def Tn(te:TE):TS:=λD σ H=>te σ H λ_ H1=>D.nx σ H1
def Mj(he:PE X e te)(hs:swapsWith e none pos.line X.env=pure false:=by rfl):PS X (.Expr e pos) (Tn te):=by intro ζ s σ H D I h;exact wpAny_Expr_any (bJ (he ζ s σ H _ I h) λv s1 ⟨x,H1,I1,r1,q1⟩=>⟨σ,H1,I1,q1⟩) I.quiet hs
def Ys(te:TE):TS:=λD σ H=>te σ H D.rt
def P8(he:PE X e te):PS X (.Return (some e) pos) (Ys te):=by intro ζ s σ H D I h;exact wpAny_Return_some (bJ (he ζ s σ H _ I h) λv s1 ⟨x,H1,I1,r1,q1⟩=>⟨x,σ,H1,I1,r1,q1⟩)
def XU(c:TT)(t u:TS):TS:=λD σ H=>c σ H λb H1=>if b=true then t D σ H1 else u D σ H1
def UG{a b:List Stmt}{tc:TT}(hc:PT X c tc)(ha:Hh X a t)(hb:Hh X b u):PS X (.If c a b pos) (XU tc t u):=by
 intro ζ s σ H D I h;refine wpAny_If (bJ (hc ζ s σ H _ I h) λd s1 xz=>?_);have⟨H1,I1,q1⟩:=xz;cases d with
 |true=>exact ha ζ s1 σ H1 D I1 q1
 |false=>exact hb ζ s1 σ H1 D I1 q1
end
abbrev TG:=V->St->Hp->(St->Hp->Prop)->Prop
abbrev Qy:=List V->St->Hp->(St->Hp->Prop)->Prop
def PG(X:Cx)(target:Expr)(t:TG):Prop:=
 ∀(ζ:List (Addr×Obj)) (s:Shared) (σ:St) (H:Hp) (v:V) (u:Value) (Q:St->Hp->Prop),Inv X ζ σ H s->aA v u->t v σ H Q->
  wpAny (model X.prog X.w) X.A (assign target X.env u) (λ_ s'=>∃σ' H',Inv X ζ σ' H' s'/\Q σ' H') X.xe s
def V4(X:Cx)(ts:List Expr)(t:Qy):Prop:=
 ∀(ζ:List (Addr×Obj)) (s:Shared) (σ:St) (H:Hp) (vs:List V) (us:List Value) (Q:St->Hp->Prop),Inv X ζ σ H s->aF vs us->t vs σ H Q->
  wpAny (model X.prog X.w) X.A (assignInOrder ((assignEach ts X.env).map (·.2)) us) (λ_ s'=>∃σ' H',Inv X ζ σ' H' s'/\Q σ' H') X.xe s
abbrev Pp:=V->V->V->Hp->(Hp->Prop)->Prop
def Uz(X:Cx)(t:Pp):Prop:=
 ∀(ζ:List (Addr×Obj)) (s:Shared) (σ:St) (H:Hp) (o i v:V) (ov iv u:Value) (Q:Hp->Prop),Inv X ζ σ H s->aA o ov->aA i iv->aA v u->t o i v H Q->
  wpAny (model X.prog X.w) X.A (setItem ov iv u) (λ_ s'=>∃H',Inv X ζ σ H' s'/\Q H') X.xe s
section
def jd(i:Nat):TG:=λv σ H Q=>Q (σ.set i (some v)) H
def ai(hN:X.N.Nodup)(hi:X.N[i]? =some x)(hx:Loc X.env.scope x)(hf:X.fn x=true\/X.env.scope.names.lookup x=some .local:=by first| exact .inl rfl| exact .inr rfl| assumption):PG X (.Name x pos) (jd i):=by intro ζ s σ H v u Q I r h;exact wpAny_assign_Name (nN I hN hi hx r (λs' I'=>⟨_,H,I',h⟩) hf)
def KR:Qy:=λvs σ H Q=>vs=[]/\Q σ H
def nO(t:TG)(u:Qy):Qy:=λvs σ H Q=>∃v r,vs=v::r/\t v σ H λσ' H'=>u r σ' H' Q
def jJ:V4 X [] KR:=by intro ζ s σ H vs us Q I r h;have⟨e,h⟩:=h;subst e;cases r;exact assignInOrder_nil ⟨σ,H,I,h⟩
def b8{t:TG}{u:Qy}(h1:PG X e t)(h2:V4 X es u)
  (hs:(assignEach (e::es) X.env).map (·.2)=assign e X.env::(assignEach es X.env).map (·.2):=by rfl):V4 X (e::es) (nO t u):=by
 intro ζ s σ H vs us Q I r h;have⟨v,vr,e1,h⟩:=h;subst e1;cases r with
 |cons r rr=>
  rw[hs];refine assignInOrder_cons (bJ (h1 ζ s σ H _ _ _ I r h) λ_ s1 xz=>?_);have⟨σ1,H1,I1,q1⟩:=xz;exact h2 ζ s1 σ1 H1 _ _ Q I1 rr q1
def Kg(K:fI)(n:Nat)(t:Qy):TG:=λv σ H Q=>∃a xs,v= .ref a/\nZ K H a xs/\xs.length=n/\t xs σ H Q
def mQ{k:Nat}{t:Qy}{n:Nat}(hc:X.calm=true)(h:V4 X es t)
  (hn:(assignEach es X.env).length=n:=by rfl) (Qt:(assignEach es X.env).findIdx? (·.1)=none:=by rfl):PG X (.Tuple es k pos) (Kg X.K n t):=by
 intro ζ s σ H v u Q I r hw;have⟨a,xs,e1,hq,hl,hw⟩:=hw;subst e1;cases r;have⟨its,rv,ht,hz⟩:=I.tuple hq;refine assign_Tuple_tuple (I.ok.hd hc) ht (by simp[hn,<-hl,rv.length]) Qt λh' hx=>?_;have I1:Inv X ζ σ H {s with heap:=h'}:=I.kept (t':=s.toks) λb o e=>hx b o (aaT (aat e)) e;exact h ζ _ σ H xs _ Q I1 (by simpa using rv) hw
def Yn(to ti:TE)(t:Pp):TG:=λv σ H Q=>to σ H λo H1=>ti σ H1 λi H2=>t o i v H2 λH3=>Q σ H3
def Rr{o i:Expr}{to ti:TE}{t:Pp}(ho:PE X o to)(hi:PE X i ti)(hs:Uz X t)
  (ha:∀v,assign (.Subscript o i pos) X.env v=(do
   let ov<-holding [v] (eval o X.env)
   let iv<-holding [v,ov] (eval i X.env)
   standAt pos
   holding [v,ov,iv] (setItem ov iv v)
   release [v,ov,iv] []):=by intro _;rfl):PG X (.Subscript o i pos) (Yn to ti t):=by
 intro ζ s σ H v u Q I r h;rw[ha];refine aam (wpAny_holding (bJ (ho ζ s σ H _ I h) λov s1 xz=>?_));have⟨x,H1,I1,r1,q1⟩:=xz;refine aam (wpAny_holding (bJ (hi ζ s1 σ H1 _ I1 q1) λiv s2 xz=>?_));have⟨y,H2,I2,r2,q2⟩:=xz;refine aam (wpAny_standAt (aam (wpAny_holding (bJ (hs ζ s2 σ H2 x y v ov iv u _ I2 r1 r2 r q2) λ_ s3 xz=>?_))));have⟨H3,I3,q3⟩:=xz;exact wpAny_release ⟨σ,H3,I3,q3⟩
def Ub(te:TE)(g:TG):TS:=λD σ H=>te σ H λx H1=>g x σ H1 D.nx
def J7{g:TG}(he:PE X e te)(hg:PG X tg g)(hs:swapsWithSole [tg] e pos.line X.env=pure false:=by rfl)(hw:swappedStores [tg] e X.env=pure none:=by rfl)
  (h1:(assignEach [tg] X.env).map (·.2)=[assign tg X.env]:=by rfl):PS X (.Assign [tg] e pos) (Ub te g):=by
 intro ζ s σ H D I h;refine wpAny_Assign_stores (bJ (he ζ s σ H _ I h) λv s1 xz=>?_) hs hw;have⟨x,H1,I1,r1,q1⟩:=xz;rw[h1];exact bJ (hg ζ s1 σ H1 x v _ I1 r1 q1) λ_ s2 q=>q
def Ph{pos':Pos}(hN:X.N.Nodup)(hi:X.N[i]? =some x)(hx:Loc X.env.scope x)(he:PE X e te)(hs:swapsWith e (some (.Name x pos')) pos.line X.env=pure false:=by rfl)(hf:X.fn x=true\/X.env.scope.names.lookup x=some .local:=by first| exact .inl rfl| exact .inr rfl| assumption):
  PS X (.Assign [.Name x pos'] e pos) (Ub te (jd i)):=by
 intro ζ s σ H D I h;refine wpAny_Assign_Name (bJ (he ζ s σ H _ I h) λv s1 xz=>?_) hs;have⟨y,H1,I1,r1,q1⟩:=xz;exact nN I1 hN hi hx r1 (λs2 I2=>⟨_,H1,I2,q1⟩) hf
def WM(i j:Nat)(ta:TA):TS:=λD σ H=>ta σ H λvs H1=>∃v w,vs=[v,w]/\D.nx ((σ.set i (some v)).set j (some w)) H1
def O1{j:Nat}{y:Str}{a b:Expr}{ta:TA}{px py pt:Pos}{kt k2 PF}(hc:X.calm=true)(hN:X.N.Nodup)(hi:X.N[i]? =some x)(hj:X.N[j]? =some y)(Xh:i≠j)
  (hx:X.env.scope.names.lookup x=some .local) (hy:X.env.scope.names.lookup y=some .local) (ha:PA X [a,b] ta)
  (hw:swappedStores [.Tuple [.Name x px,.Name y py] kt pt] (.Tuple [a,b] k2 PF) X.env=pure (some [x,y]))
  (hs:swapsWithSole [.Tuple [.Name x px,.Name y py] kt pt] (.Tuple [a,b] k2 PF) pos.line X.env=pure false:=by rfl):
  PS X (.Assign [.Tuple [.Name x px,.Name y py] kt pt] (.Tuple [a,b] k2 PF) pos) (WM i j ta):=by
 intro ζ s σ H D I h;rw[exec_Assign_arm];refine aam (wpAny_standAt ?_);rw[hs];refine aam (aaR ?_);rw[aaw @_];refine aam (Tuple_ (bJ (ha _ ζ s σ H _ I h) λus s1 xz=>?_));have⟨vs,H1,I1,r1,q1⟩:=xz;have⟨v,w,e1,q1⟩:=q1;subst e1;obtain⟨u1,u2,rfl,rv,Cj⟩:∃u1 u2,us=[u1,u2]/\aA v u1/\aA w u2:=by
  cases r1 with
  |cons p q=>
   cases q with
   |cons p' q'=>
    cases q';exact⟨_,_,rfl,p,p'⟩
 refine wpAny_newObj_type ?_ gV;have I2:Inv X ζ σ H1 {s1 with heap:=s1.heap.push {cls:=.type "tuple",data:=.seq [u1,u2].toArray}}:=I1.kept (t':=s1.toks) λb o e=>aal _ e;rw[hw];refine aam (aaR ?_);show wpAny (model X.prog X.w) X.A (do rule "assign.swapped-stores";let items<-unpackItems (.ref s1.heap.objs.size) 2 none;assignInOrder [λv=>bindName X.env y v,λv=>bindName X.env x v] items.reverse;pure Flow.next) _ _ _;refine aam (wpAny_rule (aam (unpackItems_tuple (items:= #[u1,u2]) (I.ok.hd hc) (IsTup.new s1.heap _) λh' TQ=>?_)));have I3:=I2.kept (h':=h') (t':=s1.toks) λb o e=>TQ b o (aaT (aat e)) e;show wpAny _ _ (assignInOrder [λv=>bindName X.env y v,λv=>bindName X.env x v] [u2,u1] >>= λ_=>pure Flow.next) _ _ _;refine aam (assignInOrder_cons (wpAny_bindName (nN I3 hN hj (.inl hy) Cj (λs2 I4=>?_) (.inr hy))));refine assignInOrder_cons (wpAny_bindName (nN I4 hN hi (.inl hx) rv (λs3 I5=>assignInOrder_nil (aaR ?_)) (.inr hx)));rw[List.set_comm _ _ (Ne.symm Xh)]at I5;exact⟨_,H1,I5,q1⟩
end
section
def PL(c:TT)(tb:TS):TS:=λD σ H=>∃W:Nat->St->Hp->Prop,(∃m,W m σ H)/\∀m σ H,W m σ H->
 c σ H λb H1=>if b=true then∃N:St->Hp->Prop,(∀σ' H',N σ' H'->∃m',m'<m/\W m' σ' H')/\tb {D with nx:=N,ct:=N,bk:=D.nx} σ H1 else D.nx σ H1
def Ki{tc:TT}{tb:TS}(hp:PassesOwn (model X.prog X.w) X.A X.env X.xe)(hc:PT X c tc)(hb:Hh X body tb):PS X (.While c body [] pos) (PL tc tb):=by
 intro ζ s σ H D I h;have⟨W,⟨m0,w0⟩,turn⟩:=h;refine wpAny_While (codeAny_whileLoop (λn s'=>∃σ' H',Inv X ζ σ' H' s'/\W n σ' H') ?_ m0 ⟨σ,H,I,w0⟩);rintro n s1 ⟨σ1,H1,I1,w1⟩;refine wpAny_passesOwn hp (bJ (hc ζ s1 σ1 H1 _ I1 (turn n σ1 H1 w1)) λb s2 xz=>?_);have⟨H2,I2,q2⟩:=xz;cases b with
 |true=>
  have⟨N,hN,q2⟩:=q2;rw[aax rfl];refine wpAny_passesOwn hp (bJ (hb ζ s2 σ1 H2 _ I2 q2) λf s3 q3=>?_);cases f with
  |next=>
   have⟨σ3,H3,I3,n3⟩:=q3;have⟨m',hm,w3⟩:=hN σ3 H3 n3;exact⟨m',hm,σ3,H3,I3,w3⟩
  |cont=>
   have⟨σ3,H3,I3,n3⟩:=q3;have⟨m',hm,w3⟩:=hN σ3 H3 n3;exact⟨m',hm,σ3,H3,I3,w3⟩
  |brk=>exact q3
  |ret v=>exact q3
 |false=>
  rw[aaw aaF];exact wpAny_execs_nil ⟨σ1,H2,I2,q2⟩
end
structure It where
 go:Nat->Hp->Prop
 TV:Nat->Hp->V->Hp->Prop
 stop:Nat->Hp->Prop
def rY(X:Cx)(ζ:List (Addr×Obj))(H:Hp)(b:Addr):Prop:=
 H b=none/\b≠X.env.locals/\b∉X.fs/\(b∈X.ex\/X.s₀.heap.objs.size<=b)/\(∀x c,X.env.cells.lookup x=some c->c≠b)/\∀p∈X.pn++ζ,p.1≠b
def Inv.Bq{H H':Hp}(I:Inv X ζ σ H s)(hb:s.heap.objs.size<=b)(hn:H' b=none):rY X ζ H' b:=by
 refine⟨hn,acz (aau I.lt hb),I.YR hb,.inr (aaE I.sz hb),λx c e z=>?_,λp hp z=>?_⟩
 ·have⟨v,q⟩:=I.cell x c e;exact aaL (aau q.lt (by rw[z];exact hb)) (abI _)
 ·exact aaL (aau (aat (I.pin p hp).1) (by rw[z];exact hb)) (abI _)
structure Turn(P:Program)(w:World)(K:fI)(tg:Expr)(J:It)(fp:List Addr)(it:Addr)(tn:Nat->Heap->Prop):Prop where
 mem:it∈fp
 obj:∀i h,tn i h->∀b∈fp,∃o,h.get? b=some o/\∀v,o.data≠ .cell v
 keep:∀i h h',tn i h->(∀b∈fp,∀o,h.get? b=some o->h'.get? b=some o)->tn i h'
 item:∀(X:Cx),X.prog=P->X.w=w->X.K=K->X.calm=true->∀(i:Nat) (ζ:List (Addr×Obj)) (s:Shared) (σ:St) (H:Hp) (E:Value->Shared->Prop),Inv X ζ σ H s->(∀b∈fp,rY X ζ H b)->tn i s.heap->J.go i H->
  wpAny (model P w) X.A (pyNext (.ref it)) (λr s1=>∃u,r=some u/\
   wpAny (model P w) X.A (letOwnedTupleGo tg (.ref it) u) (λ_ s2=>∃x H',Inv X ζ σ H' s2/\aA x u/\J.TV i H x H'/\tn (i+1) s2.heap/\∀b∈fp,H' b=none) E s1) E s
 done:∀(X:Cx),X.prog=P->X.w=w->X.K=K->X.calm=true->∀(i:Nat) (ζ:List (Addr×Obj)) (s:Shared) (σ:St) (H:Hp) (E:Value->Shared->Prop),Inv X ζ σ H s->(∀b∈fp,rY X ζ H b)->tn i s.heap->J.stop i H->
  wpAny (model P w) X.A (pyNext (.ref it)) (λr s1=>r=none/\Inv X ζ σ H s1) E s
 self:∀(A:Around) (i:Nat) (s:Shared) (Q:Value->Shared->Prop) (E:Value->Shared->Prop),tn i s.heap->Q (.ref it) s->wpAny (model P w) A (pyIter (.ref it)) Q E s
abbrev TI:=St->Hp->(It->Hp->Prop)->Prop
def Le(X:Cx)(ζ:List (Addr×Obj))(σ:St)(tg:Expr)(R:It->Hp->Prop)(V5:Value)(s2:Shared):Prop:=
 ∃(it:Addr) (fp:List Addr) (tn:Nat->Heap->Prop) (J:It) (H':Hp),V5= .ref it/\Inv X ζ σ H' s2/\Turn X.prog X.w X.K tg J fp it tn/\tn 0 s2.heap/\(∀b∈fp,rY X ζ H' b)/\R J H'
def PI(X:Cx)(tg iter:Expr)(wi:TI):Prop:=
 ∀(ζ:List (Addr×Obj)) (s:Shared) (σ:St) (H:Hp) (R:It->Hp->Prop),Inv X ζ σ H s->wi σ H R->
  wpAny (model X.prog X.w) X.A (eval iter X.env) (λv s1=>wpAny (model X.prog X.w) X.A (pyIter v) (Le X ζ σ tg R) X.xe s1) X.xe s
def vR   {E : Value -> Shared -> Prop}   {it : Addr}  {o : Obj}{n : String}{vs : Array Value}{Q : Unit -> Shared -> Prop}(ho : s.heap.get? it = some o) (hc : o.cls = .type n) (hd : o.data = .fields vs)
    (hn : ["enumerate","zip","dict_itemiterator","dict_reverseitemiterator","odict_iterator","itertools.zip_longest","itertools.pairwise"].contains n = false) (hQ : Q Unit.unit s) : wpAny M A (letOwnedTupleGo tg (.ref it) u) Q E s :=by
  unfold letOwnedTupleGo
  cases tg <;> first
    |exact aaR hQ
    | (cases u <;> first
        |exact aaR hQ
        | (refine aam (wpAny_load ho ?_)
           rw[hc,hd];show wpAny M A (if (["enumerate","zip","dict_itemiterator","dict_reverseitemiterator","odict_iterator","itertools.zip_longest","itertools.pairwise"].contains n && vs[0]? == some (rawInt _)) = true then _ else _) Q E s;rw[aaw (by intro h;rw[hn,Bool.false_and]at h;cases h)]
           exact aaR hQ))
def VS(K:fI)(a:Addr):It:=
 ⟨λi H=>∃xs x,gK K H a xs/\xs[i]? =some x,λi H x H'=>H'=H/\∀xs,gK K H a xs->xs[i]? =some x,λi H=>∃xs,gK K H a xs/\xs.length<=i⟩
def YD(K:fI)(a:Addr):It:=
 ⟨λi H=>∃xs x,nZ K H a xs/\xs[i]? =some x,λi H x H'=>H'=H/\∀xs,nZ K H a xs->xs[i]? =some x,λi H=>∃xs,nZ K H a xs/\xs.length<=i⟩
def TM(lo:Int)(n:Nat):It:=⟨λi _=>i<n,λi H x H'=>H'=H/\x= .int (lo+i),λi _=>n<=i⟩
def FZ{K:fI}(a it:Addr):Turn P w K tg (VS K a) [it] it (λi h=>h.IsListIter it a i) where
 mem:=by simp
 obj:=λi h st b hb=>by
  have e:b=it:=by simpa using hb
  subst e;have⟨o,e,c,d⟩:=st;exact⟨o,e,λv z=>by rw[d]at z;cases z⟩
 keep:=λi h h' st k=>st.at λo e=>k it (by simp) o e
 item:=by intro X hP hw hK hc i ζ s σ H E I hf st hg;subst hP hw hK;have⟨xs,x,hq,hx⟩:=hg;have⟨its,rv,p,hz⟩:=I.list hq;have⟨u,hu,ru⟩:=rv.get hx;have⟨f0,f1,f2,f3,f4,f5⟩:=hf it (by simp);refine wpAny_pyNext_list_item st p.isList (x:=u) (by simpa using hu) λh' xQ sb=>?_;have I1:Inv X ζ σ H {s with heap:=h'}:=I.turned (t':=s.toks) (λb o hb e=>(sb.2 b hb).trans e) f0 f1 f3 f4 f5;have⟨o,e,c,d⟩:=id xQ;exact⟨u,rfl,vR (s:={s with heap:=h'}) e c d @_ ⟨x,H,I1,ru,⟨rfl,λys hy=>by rw[I.gS hy hq];exact hx⟩,xQ,λb hb=>(hf b hb).1⟩⟩
 done:=by intro X hP hw hK hc i ζ s σ H E I hf st hg;subst hP hw hK;have⟨xs,hq,hx⟩:=hg;have⟨its,rv,p,hz⟩:=I.list hq;have⟨f0,f1,f2,f3,f4,f5⟩:=hf it (by simp);have hl:=rv.length;exact wpAny_pyNext_list_end (I.ok.hd hc) st p.isList (by simp;omega) λh' eb=>⟨rfl,I.turned (t':=s.toks) (λb o hb e=>eb b o hb e) f0 f1 f3 f4 f5⟩
 self:=λ_ _ _ _ _ st h=>wpAny_pyIter_listiter st h
def BD{K:fI}(a it:Addr):Turn P w K tg (YD K a) [it] it (λi h=>h.IsTupleIter it a i) where
 mem:=by simp
 obj:=λi h st b hb=>by
  have e:b=it:=by simpa using hb
  subst e;have⟨o,e,c,d⟩:=st;exact⟨o,e,λv z=>by rw[d]at z;cases z⟩
 keep:=λi h h' st k=>st.at λo e=>k it (by simp) o e
 item:=by intro X hP hw hK hc i ζ s σ H E I hf st hg;subst hP hw hK;have⟨xs,x,hq,hx⟩:=hg;have⟨its,rv,p,hz⟩:=I.tuple hq;have⟨u,hu,ru⟩:=rv.get hx;have⟨f0,f1,f2,f3,f4,f5⟩:=hf it (by simp);refine wpAny_pyNext_tuple_item st (show s.heap.IsTuple a its.toArray from p) (x:=u) (by simpa using hu) λh' xQ sb=>?_;have I1:Inv X ζ σ H {s with heap:=h'}:=I.turned (t':=s.toks) (λb o hb e=>(sb.2 b hb).trans e) f0 f1 f3 f4 f5;have⟨o,e,c,d⟩:=id xQ;exact⟨u,rfl,vR (s:={s with heap:=h'}) e c d @_ ⟨x,H,I1,ru,⟨rfl,λys hy=>by rw[I.vp hy hq];exact hx⟩,xQ,λb hb=>(hf b hb).1⟩⟩
 done:=by intro X hP hw hK hc i ζ s σ H E I hf st hg;subst hP hw hK;have⟨xs,hq,hx⟩:=hg;have⟨its,rv,p,hz⟩:=I.tuple hq;have⟨f0,f1,f2,f3,f4,f5⟩:=hf it (by simp);have hl:=rv.length;exact wpAny_pyNext_tuple_end (I.ok.hd hc) st (show s.heap.IsTuple a its.toArray from p) (by simp;omega) λh' eb=>⟨rfl,I.turned (t':=s.toks) (λb o hb e=>eb b o hb e) f0 f1 f3 f4 f5⟩
 self:=λ_ _ _ _ _ st h=>wpAny_pyIter_tupleiter st h
def Cb{K:fI}(it:Addr)(lo:Int)(n:Nat):Turn P w K tg (TM lo n) [it] it (λi h=>IsRangeIter h it (lo+(i:Nat)*1) ((n:Int)-(i:Nat)) 1) where
 mem:=by simp
 obj:=λi h st b hb=>by
  have e:b=it:=by simpa using hb
  subst e
  exact⟨_,st,λv z=>by
   have z':Data.fields _=Data.cell v:=z
   cases z'⟩
 keep:=λi h h' st k=>k it (by simp) _ st
 item:=by intro X hP hw hK hc i ζ s σ H E I hf st hg;subst hP hw hK;have⟨f0,f1,f2,f3,f4,f5⟩:=hf it (by simp);have W:=Walks.range (prog:=X.prog) (w:=X.w) (I.ok.hd hc) it lo 1 n;refine W.item i s _ _ hg st λv h' tk hv xQ kk=>?_;have⟨t,rfl⟩:=hv;have I1:Inv X ζ σ H {s with heap:=h',toks:=tk}:=I.turned (λb o hb e=>kk b o (by simpa using hb) e) f0 f1 f3 f4 f5;refine⟨_,rfl,vR (s:={s with heap:=h',toks:=tk}) (n:="range_iterator") xQ rfl rfl @_ ⟨.int (lo+i),H,I1,⟨t,?_⟩,⟨rfl,rfl⟩,xQ,λb hb=>(hf b hb).1⟩⟩;rw[Int.mul_one]
 done:=by intro X hP hw hK hc i ζ s σ H E I hf st hg;subst hP hw hK;have⟨f0,f1,f2,f3,f4,f5⟩:=hf it (by simp);exact wpAny_pyNext_range_end (I.ok.hd hc) st (by have:n<=i:=hg;omega) λh' eb=>⟨rfl,I.turned (t':=s.toks) (λb o hb e=>eb b o hb e) f0 f1 f3 f4 f5⟩
 self:=λ_ _ _ _ _ st h=>wpAny_pyIter_rangeiter st h
section
def zH{H:Hp}{R:It->Hp->Prop}{lo hi:Int}{t u v:Tok}{tk:Nat}(I:Inv X ζ σ H s)(h1: -(2^62)<=lo)(h2:lo<2^62)(h3: -(2^62)<=hi)(h4:hi<2^62)
  (q:R (TM lo (hi-lo).toNat) H):wpAny (model X.prog X.w) X.A (pyIter (.ref s.heap.objs.size)) (Le X ζ σ tg R) E {s with heap:=s.heap.push {cls:=.type "range",data:=.fields #[.int lo t,.int hi u,.int 1 v]},toks:=tk}:=by
 refine wpAny_pyIter_range (IsRange.new ..) (small_one h1 h2 h3 h4) ?_;have I1:Inv X ζ σ H {s with heap:=s.heap.push {cls:=.type "range",data:=.fields #[.int lo t,.int hi u,.int 1 v]},toks:=tk}:=I.kept λb o e=>aal _ e
 refine⟨(s.heap.push {cls:=.type "range",data:=.fields #[.int lo t,.int hi u,.int 1 v]}).objs.size,[(s.heap.push {cls:=.type "range",data:=.fields #[.int lo t,.int hi u,.int 1 v]}).objs.size],_,_,H,rfl,
  I1.kept (t':=tk) λb o e=>aal _ e,Cb _ lo (hi-lo).toNat,?_,λb hb=>?_,q⟩
 ·have e1:lo+((0:Nat):Int)*1=lo:=by simp
  have e2:(((hi-lo).toNat:Nat):Int)-((0:Nat):Int)=Builtin.Range.rangeSize lo hi 1:=by rw[rangeSize_one];split <;> omega
  show IsRangeIter _ _ (lo+((0:Nat):Int)*1) ((((hi-lo).toNat:Nat):Int)-((0:Nat):Int)) 1;rw[e1,e2];exact aaS _ rfl
 ·have e:b=(s.heap.push {cls:=.type "range",data:=.fields #[.int lo t,.int hi u,.int 1 v]}).objs.size:=by simpa using hb
  subst e;exact I1.Bq (aan _) (I1.aS.fresh (aan _))
def U2(ta:TA):TI:=λσ H R=>ta σ H λvs H1=>∃j:Int,vs=[.int j]/\ -(2^62)<=j/\j<2^62/\R (TM 0 j.toNat) H1
def Tj(ta:TA):TI:=λσ H R=>ta σ H λvs H1=>∃i j:Int,vs=[.int i,.int j]/\(-(2^62)<=i/\i<2^62/\ -(2^62)<=j/\j<2^62)/\R (TM i (j-i).toNat) H1
def EV{a:Expr}{ta:TA}{p:Pos}(hg:Gl X "range")(hm:X.mg "range"=none)(ha:PA X [a] ta)(hs:starEach [a] X.env=[(false,eval a X.env)]:=by rfl):PI X tg (.Call (.Name "range" p) [a] [] pos) (U2 ta):=by
 intro ζ s σ H R I h;refine Call_ (mP I hg hm boot_range (PyProof.Rows.callWith_type1 (bJ (ha pos ζ s σ H _ I h) λus s1 xz=>?_) hs rfl));have⟨vs,H1,I1,r1,q1⟩:=xz;have⟨j,e,q1,q2,q⟩:=q1;subst e;cases r1 with
 |cons r rr=>
  cases rr;have⟨t,rfl⟩:=r;exact call_range_1 (zH I1 () () q1 q2 (by simpa using q))
def Fv{a b:Expr}{ta:TA}{p:Pos}(hg:Gl X "range")(hm:X.mg "range"=none)(ha:PA X [a,b] ta)(hs:starEach [a,b] X.env=[(false,eval a X.env),(false,eval b X.env)]:=by rfl)(Pu:starEach [b] X.env=[(false,eval b X.env)]:=by rfl):
  PI X tg (.Call (.Name "range" p) [a,b] [] pos) (Tj ta):=by
 intro ζ s σ H R I h;refine Call_ (mP I hg hm boot_range (PyProof.Rows.callWith_type1 (bJ (ha pos ζ s σ H _ I h) fun us s1 ⟨vs,H1,I1,r1,q1⟩=>?_) (by rw[hs,Pu]) (by rw[Pu];rfl)));have⟨i,j,e,⟨q1,q2,q3,q4⟩,q⟩:=q1;subst e;cases r1 with
 |cons r rr=>
  cases rr with
  |cons r' rr=>
   cases rr;have⟨t,rfl⟩:=r;have⟨t',rfl⟩:=r';exact call_range_2 (zH I1 q1 q2 q3 q4 q)
def W5(wi:TI)(g:TG)(tb:TS):TS:=λD σ H=>wi σ H λJ H1=>∃W:Nat->Nat->St->Hp->Prop,(∃m,W 0 m σ H1)/\∀i m σ H,W i m σ H->
 (J.stop i H/\D.nx σ H)\/(J.go i H/\∃N:St->Hp->Prop,(∀σ' H',N σ' H'->∃m',m'<m/\W (i+1) m' σ' H')/\∀x H',J.TV i H x H'->g x σ H' λσ2 H2=>tb {D with nx:=N,ct:=N,bk:=D.nx} σ2 H2)
def wH(fp:List Addr)(h:Heap):List (Addr×Obj):=fp.filterMap λb=>(h.get? b).map λo=>(b,o)
def fE{o:Obj}(hb:b∈fp)(e:h.get? b=some o):(b,o)∈wH fp h:=acr.mpr ⟨b,hb,by rw[e];rfl⟩
def FL{p:Addr×Obj}(hp:p∈wH fp h):p.1∈fp/\h.get? p.1=some p.2:=by
 have⟨b,hb,e⟩:=acr.mp hp;cases q:h.get? b with
 |none=>rw[q]at e;cases e
 |some o=>
  rw[q]at e;have e':(b,o)=p:=aar e;subst e';exact⟨hb,q⟩
def Inv.pinned{H:Hp}(I:Inv X ζ σ H s)(hf:∀b∈fp,rY X ζ H b)(ho:∀b∈fp,∃o,s.heap.get? b=some o/\∀v,o.data≠ .cell v):Inv X (ζ++wH fp s.heap) σ H s:=
 I.Eo λp hp=>(aaV.mp hp).elim (λz=>I.pin p (aaI _ z)) λz=>by have⟨hb,e⟩:=FL z;have⟨f0,f1,f2,_⟩:=hf p.1 hb;have⟨o,e',d⟩:=ho p.1 hb;rw[e]at e';cases e';exact⟨e,f0,f1,f2,d⟩
def Inv.kQ{pl:List (Addr×Obj)}{H:Hp}(I:Inv X (ζ++pl) σ H s):Inv X ζ σ H s:=I.Eo λp hp=>I.pin p (aaI _ (List.mem_append_left _ hp))
def Bl{iter:Expr}{wi:TI}{g:TG}{tb:TS}(hp:PassesOwn (model X.prog X.w) X.A X.env X.xe)(hc:X.calm=true)(hi:PI X tg iter wi)(hg:PG X tg g)(hb:Hh X body tb)
  (hs:∀x,foldedSetIterable iter X.env x=pure x:=by intro _;rfl):PS X (.For tg iter body [] pos) (W5 wi g tb):=by
 intro ζ s σ H D I h;refine wpAny_For (bJ (hi ζ s σ H _ I h) λv s1 h1=>bJ h1 λV5 s2 h2=>?_) hs;have⟨it,fp,tn,J,H2,e,I2,T,st2,f2,W,⟨m0,w0⟩,turn⟩:=h2;subst e;have QG:∀{H':Hp},(∀b∈fp,H' b=none)->∀b∈fp,rY X ζ H' b:=λhn b hb=>⟨hn b hb,(f2 b hb).2⟩;refine codeAny_forLoop_any (λn s'=>∃i σ' H',Inv X ζ σ' H' s'/\tn i s'.heap/\(∀b∈fp,H' b=none)/\W i n σ' H') ?_ m0 ⟨0,σ,H2,I2,st2,λb hb=>(f2 b hb).1,w0⟩;rintro n s3 ⟨i,σ3,H3,I3,st3,fr3,w3⟩;rcases turn i n σ3 H3 w3 with ⟨stop,qn⟩| ⟨go,N,hN,step⟩
 ·refine wpAny_passesOwn hp (bJ (T.done X rfl rfl rfl hc i ζ s3 σ3 H3 X.xe I3 (QG fr3) st3 stop) λr s4 xz=>?_);have⟨hr,I4⟩:=xz;subst hr;exact wpAny_execs_nil ⟨σ3,H3,I4,qn⟩
 ·refine wpAny_passesOwn hp (bJ (T.item X rfl rfl rfl hc i ζ s3 σ3 H3 X.xe I3 (QG fr3) st3 go) λr s4 xz=>?_);have⟨u,hr,h4⟩:=xz;subst hr;refine wpAny_passesOwn hp (bJ h4 λ_ s5 xz=>?_);have⟨x,H5,I5,r5,y5,YU,VD⟩:=xz;have I5':=I5.pinned (QG VD) (T.obj _ _ YU);refine wpAny_passesOwn hp (bJ (hg _ s5 σ3 H5 x u _ I5' r5 (step x H5 y5)) λ_ s6 xz=>?_);have⟨σ6,H6,I6,q6⟩:=xz;refine wpAny_passesOwn hp (bJ (hb _ s6 σ6 H6 _ I6 q6) λf s7 q7=>?_);have again:∀{σ7:St} {H7:Hp},Inv X (ζ++wH fp s5.heap) σ7 H7 s7->N σ7 H7->∃m,m<n/\∃i σ' H',Inv X ζ σ' H' s7/\tn i s7.heap/\(∀b∈fp,H' b=none)/\W i m σ' H':=λ{σ7 H7} I7 n7=>by have⟨m',hm,w7⟩:=hN σ7 H7 n7;refine⟨m',hm,i+1,σ7,H7,I7.kQ,T.keep _ _ _ YU λb hb o e=>(I7.pin (b,o) (aaI _ (aaI _ (fE hb e)))).1,λb hb=>?_,w7⟩;have⟨o,e,d⟩:=T.obj _ _ YU b hb;exact(I7.pin (b,o) (aaI _ (aaI _ (fE hb e)))).2.1
  cases f with
  |next=>have⟨σ7,H7,I7,n7⟩:=q7;exact again I7 n7
  |cont=>have⟨σ7,H7,I7,n7⟩:=q7;exact again I7 n7
  |brk=>have⟨σ7,H7,I7,q7⟩:=q7;exact⟨σ7,H7,I7.kQ,q7⟩
  |ret v=>have⟨x7,σ7,H7,I7,r7,q7⟩:=q7;exact⟨x7,σ7,H7,I7.kQ,r7,q7⟩
end
abbrev R2:=V->V->Hp->VK->Prop
def jo(X:Cx)(f:Value->Value->Sem Value)(r:R2):Prop:=
 ∀(ζ:List (Addr×Obj)) (s:Shared) (σ:St) (H:Hp) (x y:V) (v u:Value) (Q:VK),Inv X ζ σ H s->aA x v->aA y u->r x y H Q->
  wpAny (model X.prog X.w) X.A (f v u) (EP X ζ σ Q) X.xe s
def VX(X:Cx)(f:Value->Sem Value)(r:V->Hp->VK->Prop):Prop:=
 ∀(ζ:List (Addr×Obj)) (s:Shared) (σ:St) (H:Hp) (x:V) (v:Value) (Q:VK),Inv X ζ σ H s->aA x v->r x H Q->
  wpAny (model X.prog X.w) X.A (f v) (EP X ζ σ Q) X.xe s
def dU(X:Cx)(f:Value)(r:List V->Hp->VK->Prop):Prop:=
 ∀(ζ:List (Addr×Obj)) (s:Shared) (σ:St) (H:Hp) (xs:List V) (us:List Value) (Q:VK),Inv X ζ σ H s->aF xs us->r xs H Q->
  wpAny (model X.prog X.w) X.A (call f us) (EP X ζ σ Q) X.xe s
def Vl(r:R2)(ta tb:TE):TE:=λσ H Q=>ta σ H λx H1=>tb σ H1 λy H2=>r x y H2 Q
def tUn(r:V->Hp->VK->Prop)(ta:TE):TE:=λσ H Q=>ta σ H λx H1=>r x H1 Q
def rI(C:Int->Int->Prop)(g:Int->Int->V):R2:=λx y H Q=>∃i j,x= .int i/\y= .int j/\C i j/\Q (g i j) H
def Ff(g:Int->Int->V):R2:=λx y H Q=>∃i j,x= .int i/\y= .int j/\Q (g i j) H
def rU(g:Int->V):V->Hp->VK->Prop:=λx H Q=>∃i,x= .int i/\Q (g i) H
section
variable{a b:Expr}{tb tc:TE}
def OU(ha:PE X a ta)(hb:PE X b tb){H:Hp}{R:V->V->Hp->Prop}(I:Inv X ζ σ H s)
  (h:ta σ H λx H1=>tb σ H1 λy H2=>R x y H2)
  (hf:∀v u s2 x y H2,Inv X ζ σ H2 s2->aA x v->aA y u->R x y H2->wpAny (model X.prog X.w) X.A (f v u) Q X.xe s2):
  wpAny (model X.prog X.w) X.A (eval a X.env) (λv s₁=>wpAny (model X.prog X.w) X.A (eval b X.env) (λu s₂=>wpAny (model X.prog X.w) X.A (f v u) Q X.xe s₂) X.xe s₁) X.xe s:=by
 refine bJ (ha ζ s σ H _ I h) λv s1 xz=>?_;have⟨x,H1,I1,r1,q1⟩:=xz;refine bJ (hb ζ s1 σ H1 _ I1 q1) λu s2 xz=>?_;have⟨y,H2,I2,r2,q2⟩:=xz;exact hf v u s2 x y H2 I2 r1 r2 q2
def Th{op:Operator}{r:R2}(ho:jo X (binaryOp op) r)(ha:PE X a ta)(hb:PE X b tb):PE X (.BinOp a op b pos) (Vl r ta tb):=by intro ζ s σ H Q I h;exact wpAny_BinOp (OU ha hb I h λv u s2 x y H2 I2 rx ry q=>ho ζ s2 σ H2 x y v u Q I2 rx ry q)
def UK{op:UnaryOp}{r:V->Hp->VK->Prop}(ho:VX X (unaryOp op) r)(ha:PE X a ta):PE X (.UnaryOp op a pos) (tUn r ta):=by intro ζ s σ H Q I h;exact UnaryOp_ (bJ (ha ζ s σ H _ I h) λv s1 ⟨x,H1,I1,r1,q1⟩=>ho ζ s1 σ H1 x v Q I1 r1 q1)
def VR{C:Int->Int->Prop}{g:Int->Int->Int}
  (rule:∀(i j:Int) (t u:Tok) (s:Shared) (Q:Value->Shared->Prop) (E:Value->Shared->Prop),C i j->Q (.int (g i j) s.toks) {s with toks:=s.toks+1}->wpAny (model X.prog X.w) X.A (f (.int i t) (.int j u)) Q E s):
  jo X f (rI C λi j=>.int (g i j)):=by
 intro ζ s σ H x y v u Q I rx ry h;have⟨i,j,rfl,rfl,hc,q⟩:=h;have⟨t,rfl⟩:=rx;have⟨t',rfl⟩:=ry;exact rule i j t t' s _ _ hc ⟨.int (g i j),H,I.tok _,⟨_,rfl⟩,q⟩
def TZ{g:Int->Int->Int}
  (rule:∀(i j:Int) (t u:Tok) (s:Shared) (Q:Value->Shared->Prop) (E:Value->Shared->Prop),Q (.int (g i j) s.toks) {s with toks:=s.toks+1}->wpAny (model X.prog X.w) X.A (f (.int i t) (.int j u)) Q E s):
  jo X f (Ff λi j=>.int (g i j)):=by
 intro ζ s σ H x y v u Q I rx ry h;have⟨i,j,rfl,rfl,q⟩:=h;have⟨t,rfl⟩:=rx;have⟨t',rfl⟩:=ry;exact rule i j t t' s _ _ ⟨.int (g i j),H,I.tok _,⟨_,rfl⟩,q⟩
def Na{g:Int->Int->Bool}
  (rule:∀(i j:Int) (t u:Tok) (s:Shared) (Q:Value->Shared->Prop) (E:Value->Shared->Prop),Q (.bool (g i j)) s->wpAny (model X.prog X.w) X.A (f (.int i t) (.int j u)) Q E s):
  jo X f (Ff λi j=>.bl (g i j)):=by
 intro ζ s σ H x y v u Q I rx ry h;have⟨i,j,rfl,rfl,q⟩:=h;have⟨t,rfl⟩:=rx;have⟨t',rfl⟩:=ry;exact rule i j t t' s _ _ ⟨.bl (g i j),H,I,rfl,q⟩
def AV(i j:Int):Prop:=0<=j/\j<=1000000/\i.natAbs<2^64
def QQ:jo X (binaryOp .Add) (Ff λi j=>.int (i+j)):=TZ λ_ _ _ _ _ _ _ q=>add_int q
def PZ:jo X (binaryOp .Sub) (Ff λi j=>.int (i-j)):=TZ λ_ _ _ _ _ _ _ q=>sub_int q
def PK:jo X (binaryOp .Mod) (rI (λ_ j=>0<j) λi j=>.int (i%j)):=VR λi j _ _ _ _ _ hc q=>by have h1:(0:Int)<j:=hc;exact mod_int' () (by rw[abV i ()];exact q)
def Po:jo X (binaryOp .Pow) (rI AV λi j=>.int (i^j.toNat)):=VR λ_ _ _ _ _ _ _ hc q=>pow_int_small hc.1 hc.2.1 hc.2.2 q
def unI{f:Value->Sem Value}{g:Int->Int}
  (rule:∀(i:Int) (t:Tok) (s:Shared) (Q:Value->Shared->Prop) (E:Value->Shared->Prop),Q (.int (g i) s.toks) {s with toks:=s.toks+1}->wpAny (model X.prog X.w) X.A (f (.int i t)) Q E s):
  VX X f (rU λi=>.int (g i)):=by
 intro ζ s σ H x v Q I rx h;have⟨i,rfl,q⟩:=h;have⟨t,rfl⟩:=rx;exact rule i t s _ _ ⟨.int (g i),H,I.tok _,⟨_,rfl⟩,q⟩
def RA:VX X (unaryOp .USub) (rU λi=>.int (-i)):=unI λ_ _ _ _ _ q=>neg_int q
end
def Si:V->V->Bool
 |.bj,.bj=>true|.bj,.int _=>true|.int _,.bj=>true|.bj,.bl _=>true|.bl _,.bj=>true|.bj,.str _=>true|.str _,.bj=>true
 |.int _,.int _=>true|.bl _,.bl _=>true|.str _,.str _=>true|.Hc _,.Hc _=>true
 |.int _,.str _=>true|.str _,.int _=>true|.bl _,.str _=>true|.str _,.bl _=>true
 |_,_=>false
def rEq:R2:=λx y H Q=>Si x y=true/\Q (.bl (decide (x=y))) H
def rNe:R2:=λx y H Q=>Si x y=true/\Q (.bl (!decide (x=y))) H
def Dg{i j:Int}:decide (V.int i=V.int j)=(i==j):=by rw[Bool.eq_iff_iff];simp
def Ko{i j:Bool}:decide (V.bl i=V.bl j)=(i==j):=by rw[Bool.eq_iff_iff];simp
def Et{i j:Str}:decide (V.str i=V.str j)=(i==j):=by rw[Bool.eq_iff_iff];simp
def Eu{i j:Array UInt8}:decide (V.Hc i=V.Hc j)=(i.toList==j.toList):=by rw[Bool.eq_iff_iff];cases i;cases j;simp
section
variable{a b:Expr}{tb tc:TE}
def aO{H:Hp}{Q:VK}{k k':Bool}(I:Inv X ζ σ H s)(q:Q (.bl k) H)(e:k=k'):EP X ζ σ Q (.bool k') s:=by subst e;exact⟨.bl k,H,I,rfl,q⟩
def N5:jo X (compareOp .Eq) rEq:=by
 intro ζ s σ H x y v u Q I rx ry h;have⟨hs,q⟩:=h;cases x with
 |bj=>
  cases rx;cases y with
  |bj=>cases ry;exact PySem.EqNone.eq_none_none (aO I q (by simp))
  |bl j=>cases ry;exact PySem.EqNone.eq_none_bool (aO I q (by simp))
  |int j=>have⟨t',rfl⟩:=ry;exact PySem.EqNone.eq_none_int (aO I q (by simp))
  |str j=>have⟨t',rfl⟩:=ry;exact PySem.EqNone.eq_none_str (aO I q (by simp))
  |_=>exact aaL (show false=true from hs) aaF
 |bl i=>
  cases rx;cases y with
  |bj=>cases ry;exact PySem.EqNone.eq_bool_none (aO I q (by simp))
  |bl j=>cases ry;exact eq_bool (aO I q Ko)
  |str j=>have⟨t',rfl⟩:=ry;exact PySem.EqMixed.eq_bool_str (aO I q (by simp))
  |_=>exact aaL (show false=true from hs) aaF
 |int i=>
  have⟨t,rfl⟩:=rx;cases y with
  |bj=>cases ry;exact PySem.EqNone.eq_int_none (aO I q (by simp))
  |int j=>have⟨t',rfl⟩:=ry;exact eq_int (aO I q Dg)
  |str j=>have⟨t',rfl⟩:=ry;exact PySem.EqMixed.eq_int_str (aO I q (by simp))
  |_=>exact aaL (show false=true from hs) aaF
 |str i=>
  have⟨t,rfl⟩:=rx;cases y with
  |bj=>cases ry;exact PySem.EqNone.eq_str_none (aO I q (by simp))
  |bl j=>cases ry;exact PySem.EqMixed.eq_str_bool (aO I q (by simp))
  |int j=>have⟨t',rfl⟩:=ry;exact PySem.EqMixed.eq_str_int (aO I q (by simp))
  |str j=>have⟨t',rfl⟩:=ry;exact eq_str (aO I q Et)
  |_=>exact aaL (show false=true from hs) aaF
 |Hc i=>
  have⟨t,rfl⟩:=rx;cases y with
  |Hc j=>have⟨t',rfl⟩:=ry;exact PySem.W.eq_bytes (aO I q Eu)
  |_=>exact aaL (show false=true from hs) aaF
 |_=>cases y <;> exact aaL (show false=true from hs) aaF
def Sk:jo X (compareOp .NotEq) rNe:=by
 intro ζ s σ H x y v u Q I rx ry h;have⟨hs,q⟩:=h;cases x with
 |bj=>
  cases rx;cases y with
  |bj=>cases ry;exact PySem.EqNone.ne_none_none (aO I q (by simp))
  |bl j=>cases ry;exact PySem.EqNone.ne_none_bool (aO I q (by simp))
  |int j=>have⟨t',rfl⟩:=ry;exact PySem.EqNone.ne_none_int (aO I q (by simp))
  |str j=>have⟨t',rfl⟩:=ry;exact PySem.EqNone.ne_none_str (aO I q (by simp))
  |_=>exact aaL (show false=true from hs) aaF
 |bl i=>
  cases rx;cases y with
  |bj=>cases ry;exact PySem.EqNone.ne_bool_none (aO I q (by simp))
  |bl j=>cases ry;exact ne_bool (aO I q (aa0 not Ko))
  |str j=>have⟨t',rfl⟩:=ry;exact PySem.EqMixed.ne_bool_str (aO I q (by simp))
  |_=>exact aaL (show false=true from hs) aaF
 |int i=>
  have⟨t,rfl⟩:=rx;cases y with
  |bj=>cases ry;exact PySem.EqNone.ne_int_none (aO I q (by simp))
  |int j=>have⟨t',rfl⟩:=ry;exact ne_int (aO I q (aa0 not Dg))
  |str j=>have⟨t',rfl⟩:=ry;exact PySem.EqMixed.ne_int_str (aO I q (by simp))
  |_=>exact aaL (show false=true from hs) aaF
 |str i=>
  have⟨t,rfl⟩:=rx;cases y with
  |bj=>cases ry;exact PySem.EqNone.ne_str_none (aO I q (by simp))
  |bl j=>cases ry;exact PySem.EqMixed.ne_str_bool (aO I q (by simp))
  |int j=>have⟨t',rfl⟩:=ry;exact PySem.EqMixed.ne_str_int (aO I q (by simp))
  |str j=>have⟨t',rfl⟩:=ry;exact ne_str (aO I q (aa0 not Et))
  |_=>exact aaL (show false=true from hs) aaF
 |Hc i=>
  have⟨t,rfl⟩:=rx;cases y with
  |Hc j=>have⟨t',rfl⟩:=ry;exact PySem.W.ne_bytes (aO I q (aa0 not Eu))
  |_=>exact aaL (show false=true from hs) aaF
 |_=>cases y <;> exact aaL (show false=true from hs) aaF
def N8:jo X (compareOp .Lt) (Ff λi j=>.bl (decide (i<j))):=Na λ_ _ _ _ _ _ _ q=>lt_int q
def R3:jo X (compareOp .LtE) (Ff λi j=>.bl (decide (i<=j))):=Na λ_ _ _ _ _ _ _ q=>le_int q
def Vp:jo X (compareOp .Gt) (Ff λi j=>.bl (decide (j<i))):=Na λ_ _ _ _ _ _ _ q=>gt_int q
def OA:jo X (compareOp .GtE) (Ff λi j=>.bl (decide (j<=i))):=Na λ_ _ _ _ _ _ _ q=>ge_int q
def OV:jo X (compareOp .Is) (λx y H Q=>y= .bj/\Q (.bl (decide (x= .bj))) H):=by
 intro ζ s σ H x y v u Q I rx ry h;have⟨rfl,q⟩:=h;cases ry;refine is_none_gen (aO I q ?_)
 cases x <;> first
  |(cases rx;rfl)
  |(have⟨t,rfl⟩:=rx;rfl)
def MH:jo X (compareOp .IsNot) (λx y H Q=>y= .bj/\Q (.bl (!decide (x= .bj))) H):=by
 intro ζ s σ H x y v u Q I rx ry h;have⟨rfl,q⟩:=h;cases ry;refine isnot_none_gen (aO I q ?_)
 cases x <;> first
  |(cases rx;rfl)
  |(have⟨t,rfl⟩:=rx;rfl)
def jo.or{r r':R2}(h:jo X f r)(h':jo X f r'):jo X f (λx y H Q=>r x y H Q\/r' x y H Q):=by
 intro ζ s σ H x y v u Q I rx ry q;rcases q with q| q
 ·exact h ζ s σ H x y v u Q I rx ry q
 ·exact h' ζ s σ H x y v u Q I rx ry q
def hJ(b:Expr)(h:op≠ .In:=by decide)(h2:op≠ .NotIn:=by decide):behindInMarks op b=false:=by
 have e1:(op==CmpOp.In)=false:=by cases op <;> first| rfl| exact aaL rfl h
 have e2:(op==CmpOp.NotIn)=false:=by cases op <;> first| rfl| exact aaL rfl h2
 cases b <;> simp[behindInMarks,e1,e2]
def Np{r:R2}(ho:jo X (compareOp op) r)(ha:PE X a ta)(hb:PE X b tb)(hm:behindInMarks op b=false):PE X (.Compare a [op] [b] pos) (Vl r ta tb):=by intro ζ s σ H Q I h;exact wpAny_Compare1 (OU ha hb I h λv u s2 x y H2 I2 rx ry q=>ho ζ s2 σ H2 x y v u Q I2 rx ry q) hm
def Sd(t:TE):TT:=λσ H Q=>t σ H λx H'=>∃k,x= .bl k/\Q k H'
def LK{r:R2}(ho:jo X (compareOp op) r)(ha:PE X a ta)(hb:PE X b tb)(hm:behindInMarks op b=false):PT X (.Compare a [op] [b] pos) (Sd (Vl r ta tb)):=by
 intro ζ s σ H Q I h
 refine wpAny_isTrue_Compare1 (bJ (ha ζ s σ H _ I h) fun v s1 ⟨x,H1,I1,r1,q1⟩=>bJ (hb ζ s1 σ H1 _ I1 q1) fun u s2 ⟨y,H2,I2,r2,q2⟩=>
  bJ (ho ζ s2 σ H2 x y v u _ I2 r1 r2 q2) fun c s3 ⟨z,H3,I3,r3,k,e,q3⟩=>?_) hm
 subst e;cases r3;exact wpAny_truthy_bool ⟨H3,I3,q3⟩
def pS:(sizeLine:Nat)<2^63:=by rw[sizeLine_eq];decide
def BN:jo X (binaryOp .Add) (λx y H Q=>∃i j,x= .str i/\y= .str j/\i.length+j.length<=sizeLine/\Q (.str (i++j)) H):=by intro ζ s σ H x y v u Q I rx ry h;have⟨i,j,rfl,rfl,hz,q⟩:=h;have⟨t,rfl⟩:=rx;have⟨t',rfl⟩:=ry;exact add_str (λt' tk=>⟨.str (i++j),H,I.tok _,⟨_,rfl⟩,q⟩) hz
def kU{x:V}(r:aF [x] us):∃u,us=[u]/\aA x u:=by
 cases r with
 |cons r1 r2=>cases r2;exact⟨_,rfl,r1⟩
def OM{x y:V}(r:aF [x,y] us):∃u w',us=[u,w']/\aA x u/\aA y w':=by
 cases r with
 |cons r1 r2=>
  cases r2 with
  |cons r3 r4=>cases r4;exact⟨_,_,rfl,r1,r3⟩
def Ib:dU X (.builtin "abs") (λxs H Q=>∃i,xs=[.int i]/\Q (.int (if i<0 then -i else i)) H):=by intro ζ s σ H xs us Q I r h;have⟨i,rfl,q⟩:=h;have⟨u,rfl,t,rfl⟩:=kU r;exact call_abs_int λu tk=>⟨.int (if i<0 then -i else i),H,I.tok _,⟨_,rfl⟩,q⟩
def Gd(hc:X.calm=true):dU X (.builtin "min") (λxs H Q=>∃i j,xs=[.int i,.int j]/\Q (.int (if j<i then j else i)) H):=by
 intro ζ s σ H xs us Q I r h;have⟨i,j,rfl,q⟩:=h;have⟨u,w',rfl,⟨t,rfl⟩,⟨t',rfl⟩⟩:=OM r;refine min_two_ints (I.ok.hd hc) λh' tk k=>⟨_,H,I.kept k,?_,q⟩;by_cases hj:j<i
 ·rw[aax hj,aax hj];exact⟨_,rfl⟩
 ·rw[aaw hj,aaw hj];exact⟨_,rfl⟩
def Gb:dU X (.type "int") (λxs H Q=>(∃i,xs=[.int i]/\Q (.int i) H)\/∃k,xs=[.bl k]/\Q (.int (if k then 1 else 0)) H):=by
 intro ζ s σ H xs us Q I r h;rcases h with ⟨i,rfl,q⟩| ⟨k,rfl,q⟩
 ·have⟨u,rfl,t,rfl⟩:=kU r;exact call_int_int ⟨.int i,H,I,⟨_,rfl⟩,q⟩
 ·have⟨u,rfl,r1⟩:=kU r;cases r1;exact call_int_bool ⟨.int (if k then 1 else 0),H,I.tok _,⟨_,rfl⟩,q⟩
end
structure BM(h:Heap)(x dx C:Addr)(mA:Str->Option Value):Prop where
 obj:h.get? x=some (PySem.W.instObj C dx)
 ns:h.Ns1 dx mA
 ne:dx≠x
def Gf(n:h.Ns1 dx mA):∃od,h.get? dx=some od/\∀name,PySem.W.lookIn name od=some (mA name):=by
 have⟨o,es,ep,ho,hd,hk,_,hm⟩:=n;refine⟨o,ho,λname=>?_⟩;have e:=hm name;unfold nsFind findBy at e;rw[<-Array.find?_toList]at e;unfold PySem.W.lookIn;rw[hd];dsimp only;split
 ·rename_i y q;rw[q]at e;exact aa0 some e
 ·rename_i q;rw[q]at e;have a:es.toList.any (·.refKey)=false:=by rw[List.any_eq_false];intro y hy;have⟨z,t,Hl⟩:=hk y (Array.mem_toList_iff.mp hy);simp[DictEntry.refKey,Hl]
  have a':¬es.toList.any (·.refKey)=true:=by rw[a];exact aaF
  rw[aaw a'];exact aa0 some e
def BM.look{x:Addr}(I:BM h x dx C mA):∃od,PySem.W.InstAt h x (PySem.W.instObj C dx) C (some od)/\∀name,PySem.W.lookIn name od=some (mA name):=
 let ⟨od,ho,hl⟩:=Gf I.ns
 ⟨od,⟨I.obj,rfl,rfl,ho⟩,hl⟩
section
variable{K:fI}{x f:Addr}{name:Str}{v:Value}
def qV{expr:Bool}(X:K.In s.heap)(I:BM s.heap x dx C mA)(hg:PySem.W.plainGet K C name=true)(hh:PySem.W.hasDictIn K C=true)
  (ha:PySem.W.findIn K (.ref C) name=some none) (hv:mA name=some v) (hv':PySem.W.handedIn v=true) (h:Q v {s with toks:=s.toks+1}):
  wpAny (model prog w) A (getAttr (.ref x) name expr) Q E s:=by
 have⟨od,J,hl⟩:=I.look;exact PySem.W.get_value X J (PySem.W.plainGet_of hg).1 (PySem.W.findObj_own hh ha rfl (by rw[hl,hv])) hv' h
def Jc{pl:Sem Bool}{Q:Value×List Value->Shared->Prop}(X:K.In s.heap)(I:BM s.heap x dx C mA)(hg:PySem.W.plainGet K C name=true)
  (hf:PySem.W.findIn K (.ref C) name=some (some (.ref f))) (ht:PySem.W.isFn K (.ref f)=true) (hv:mA name=none) (h:Q (.ref f,[.ref x]) s):
  wpAny (model prog w) A (getMethod (.ref x) name pl) Q E s:=by
 have⟨od,J,hl⟩:=I.look;exact PySem.W.method_fn X J (PySem.W.plainGet_of hg).1 (PySem.W.plainGet_of hg).2 hf (aby.mp ht) (by show(PySem.W.lookIn name od).map (·.isSome)=some false;rw[hl,hv];rfl) h
def LH{ns:List Str}{Q:Unit->Shared->Prop}(X:K.In s.heap)(I:BM s.heap x dx C mA)
  (hs:PySem.W.findIn K (.ref C) "__setattr__"=some (some (.builtin "object.__setattr__"))) (hp:PySem.W.plainOver K C=true) (ht:PySem.W.takerIn K C name=some none) (hh:PySem.W.hasDictIn K C=true)
  (hw:PySem.Within mA ns) (hsz:ns.length<=sizeLine)
  (h:∀h',BM h' x dx C (λy=>if y=name then some v else mA y)->Heap.SameBut dx s.heap h'->Q Unit.unit {s with heap:=h',toks:=s.toks+2}):
  wpAny (model prog w) A (setAttr (.ref x) name v) Q E s:=by
 have⟨od,J,hl⟩:=I.look;refine PySem.W.set_plain X J hs (PySem.W.osa_open (s:={s with toks:=s.toks+1}) (r:=none) X J hp ht λb=>?_);have⟨cd,hc,JX⟩:=PySem.W.any_some hh;have hx:s.heap.get? x=some ⟨.ref C,some dx,.plain,#[]⟩:=I.obj;refine aam (aaR (aam (aam (wpAny_loadPart hx (aam (PySem.W.Looks.here (s:={s with toks:=s.toks+1}) (PySem.W.looks_clsIn X hc) ?_))))));rw[JX];refine aaR (a:=some dx) (aam (aaR (aam ?_)));refine wpAny_nsSet1 (s:={s with toks:=s.toks+1}) I.ns λh' VO Pu=>?_;have⟨oD,esD,epD,hoD,hdD,hcD⟩:=VO.count (PySem.Within.cons name v hw);refine aam (wpAny_lookBehind hoD (by rw[hdD];exact pastItsLine_dict (aaE hcD (by rw[aaB];omega))) ?_);exact aaR (h _ ⟨(Pu.2 _ (Ne.symm I.ne)).trans I.obj,VO,I.ne⟩ Pu)
def Km{R:Result->Shared->Prop}{vs:List Value}(X:K.In s.heap)(hm:PySem.W.makesIn K C=true)
  (hi:PySem.W.findIn K (.ref C) "__init__"=some (some (.ref f))) (hf:PySem.W.typeIn K (.ref f)=some (.type "function"))
  (h:codeAny (model prog w) (A.under (.builtin "type.__call__" ⟨.ref C::vs,kw⟩)) (.call (.ref f) ⟨.ref (s.heap.objs.size+1)::vs,kw⟩) (PySem.W.InitBack (s.heap.objs.size+1) R)
   {s with heap:=(s.heap.push PySem.W.emptyDict).push (PySem.W.instObj C s.heap.objs.size)}):
  codeAny (model prog w) A (.call (.ref C) ⟨vs,kw⟩) R s:=by
 have⟨hh,g,d,t,os⟩:=s;exact PySem.W.make_core (PySem.W.makes_of X hm) (PySem.W.looks_findIn X hi) (λself=>PySem.W.bind_fn X self hf) (.inl rfl) h
end
def jW(f:Str)(v:V):List (Str×V)->List (Str×V)
 |[]=>[(f,v)]
 |(g,x)::r=>if g=f then (g,v)::r else (g,x)::jW f v r
def qb(f g:Str)(v:V):∀fs:List (Str×V),(jW f v fs).lookup g=if g=f then some v else fs.lookup g
 |[]=>by
  show List.lookup g [(f,v)]=_;by_cases h:g=f
  ·have hb:(g==f)=true:=aby.mpr h;simp only[List.lookup,hb,if_pos h]
  ·have hb:(g==f)=false:=beq_eq_false_iff_ne.mpr h;simp only[List.lookup,hb,if_neg h]
 |(k,x)::r=>by
  have ih:=qb f g v r;rw[show jW f v ((k,x)::r)=(if k=f then (k,v)::r else (k,x)::jW f v r) from rfl];by_cases hk:k=f
  ·rw[aax hk];by_cases h:g=k
   ·have hb:(g==k)=true:=aby.mpr h;simp only[List.lookup,hb,if_pos (h.trans hk)]
   ·have hb:(g==k)=false:=beq_eq_false_iff_ne.mpr h;simp only[List.lookup,hb,if_neg (λe:g=f=>h (e.trans hk.symm))]
  ·rw[aaw hk];by_cases h:g=k
   ·have hb:(g==k)=true:=aby.mpr h;simp only[List.lookup,hb,if_neg (λe:g=f=>hk (h.symm.trans e))]
   ·have hb:(g==k)=false:=beq_eq_false_iff_ne.mpr h;simp only[List.lookup,hb];exact ih
def oK(f:Str)(v:V):∀fs:List (Str×V),f∈(jW f v fs).map (·.1)/\∀g,g∈fs.map (·.1)->g∈(jW f v fs).map (·.1)
 |[]=>⟨by simp[jW],λg h=>by simp at h⟩
 |(k,x)::r=>by
  have⟨i1,i2⟩:=oK f v r;rw[show jW f v ((k,x)::r)=(if k=f then (k,v)::r else (k,x)::jW f v r) from rfl];by_cases hk:k=f
  ·rw[aax hk];subst hk;exact⟨by simp,λg h=>by simpa using h⟩
  ·rw[aaw hk];refine⟨?_,λg h=>?_⟩
   ·rw[aaH];exact aad _ i1
   ·rw[aaH]at h⊢;rcases aaK.mp h with e| e
    ·exact aaK.mpr (.inl e)
    ·exact aad _ (i2 g e)
def qi(f:Str)(v:V):∀fs:List (Str×V),(jW f v fs).length<=fs.length+1
 |[]=>by simp[jW]
 |(k,x)::r=>by
  have ih:=qi f v r;rw[show jW f v ((k,x)::r)=(if k=f then (k,v)::r else (k,x)::jW f v r) from rfl];by_cases hk:k=f
  ·rw[aax hk,aaB,aaB];omega
  ·rw[aaw hk,aaB,aaB];omega
def jE.some_of{o:Option Value}(r:jE (some v) o):∃u,o=some u/\aA v u:=by
 cases o with
 |none=>exact(show False from r).elim
 |some u=>exact⟨u,rfl,r⟩
def jE.none_of{o:Option Value}(r:jE none o):o=none:=by
 cases o with
 |none=>rfl
 |some u=>exact(show False from r).elim
def Fq(r:aA v u):PySem.W.handedIn u=true:=by
 cases v with
 |bj=>cases(show u=Value.none from r);rfl
 |bl b=>cases(show u=Value.bool b from r);rfl
 |int i=>have⟨t,e⟩:=(show∃t,u=Value.int i t from r);cases e;rfl
 |str x=>have⟨t,e⟩:=(show∃t,u=Value.str x t from r);cases e;rfl
 |Hc b=>have⟨t,e⟩:=(show∃t,u=Value.bytes b t from r);cases e;rfl
 |Pr b=>have⟨t,e⟩:=(show∃t,u=Value.float b t from r);cases e;rfl
 |ref a=>cases(show u=Value.ref a from r);rfl
 |ty n=>cases(show u=Value.type n from r);rfl
section
variable{H H':Hp}{fs YX:List (Str×V)}
def qJ(aS:lD P w H h)(e:H a=some (.ins C dx fs)):∃mA,BM h a dx C mA/\(∀f,jE (fs.lookup f) (mA f))/\PySem.Within mA (fs.map (·.1))/\fs.length<=1000/\H dx=some (.own a):=by have⟨d,z,ne,ob,mA,n,r,q⟩:=(show cn P w H h a (.ins C dx fs) from aS a _ e);exact⟨mA,⟨ob,n,ne⟩,r,q,z,d⟩
end
structure DR(K:fI)(C:Addr):Prop where
 pg:PySem.W.plainGet K C Str.empty=true
 hd:PySem.W.hasDictIn K C=true
 po:PySem.W.plainOver K C=true
 sa:PySem.W.findIn K (.ref C) "__setattr__"=some (some (.builtin "object.__setattr__"))
def DR.get{K:fI}{C:Addr}(c:DR K C)(f:Str):PySem.W.plainGet K C f=true:=c.pg
def iK(K:fI)(C:Addr)(f:Str):Prop:=PySem.W.findIn K (.ref C) f=some none
def iK.T2{K:fI}{f:Str}(n:iK K C f):PySem.W.takerIn K C f=some none:=by unfold PySem.W.takerIn;rw[show PySem.W.findIn K (.ref C) f=some none from n];rfl
structure NI(K:fI)(C:Addr)(m:Str)(f:Addr):Prop where
 at_:PySem.W.findIn K (.ref C) m=some (some (.ref f))
 fn:PySem.W.isFn K (.ref f)=true
 kp:PySem.W.keepIn K (.ref f)=true
section
variable{H:Hp}{fs:List (Str×V)}{f:Str}
def BZ{b:Bool}(I:Inv X ζ σ H s)(e:H a=some (.ins C dx fs))(c:DR X.K C)(n:iK X.K C f)(l:fs.lookup f=some v)
  (h:∀u s',Inv X ζ σ H s'->aA v u->Q u s'):wpAny (model X.prog X.w) A (getAttr (.ref a) f b) Q E s:=by
 have⟨mA,O,r,_,_,_⟩:=qJ I.aS e;have⟨u,hu,ru⟩:=jE.some_of (v:=v) (o:=mA f) (by rw[<-l];exact r f);exact qV I.qa O (c.get f) c.hd n hu (Fq ru) (h u _ (I.tok _) ru)
def rJ{m:Str}{g:Addr}{pl:Sem Bool}{Q:Value×List Value->Shared->Prop}(I:Inv X ζ σ H s)(e:H a=some (.ins C dx fs))(c:DR X.K C)(k:NI X.K C m g)(l:fs.lookup m=none)
  (h:Q (.ref g,[.ref a]) s):wpAny (model X.prog X.w) A (getMethod (.ref a) m pl) Q E s:=by
 have⟨mA,O,r,_,_,_⟩:=qJ I.aS e;have hn:mA m=none:=jE.none_of (by rw[<-l];exact r m);exact Jc I.qa O (c.get m) k.at_ k.fn hn h
def B5{y:V}{Q:Unit->Shared->Prop}(I:Inv X ζ σ H s)(e:H a=some (.ins C dx fs))(c:DR X.K C)(n:iK X.K C f)(hl:fs.length<1000)(ry:aA y u)
  (h:∀s',Inv X ζ σ (upd H a (.ins C dx (jW f y fs))) s'->Q Unit.unit s'):wpAny (model X.prog X.w) A (setAttr (.ref a) f u) Q E s:=by
 have⟨mA,O,r,wi,_,ho⟩:=qJ I.aS e;have hz:(fs.map (·.1)).length<=sizeLine:=by rw[aac,sizeLine_eq];omega
 refine LH I.qa O c.sa c.po n.T2 c.hd wi hz λh' O' sb=>h _ ?_;have hd:∃o,h'.get? dx=some o:=let ⟨o,_,_,e',_⟩:=O'.ns;⟨o,e'⟩
 refine I.write (x:=a) (e:=dx) (by rw[e];exact True.intro) (.inr ho) (λb q hb z=>(sb.2 b hb).trans z) hd ?_;refine⟨by rw[Μ O.ne];exact ho,?_,O.ne,O'.obj,_,O'.ns,λg=>?_,λg hg=>?_⟩
 ·have:=qi f y fs;omega
 ·show jE ((jW f y fs).lookup g) (if g=f then some u else mA g);rw[qb];by_cases q:g=f
  ·rw[aax q,aax q];exact ry
  ·rw[aaw q,aaw q];exact r g
 ·by_cases q:g=f
  ·rw[q];exact(oK f y fs).1
  ·refine(oK f y fs).2 g (wi g λz=>hg ?_);show(if g=f then some u else mA g)=none;rw[aaw q];exact z
def Inv.made(I:Inv X ζ σ H s):Inv X ζ σ (upd (upd H s.heap.objs.size (.own (s.heap.objs.size+1))) (s.heap.objs.size+1) (.ins C s.heap.objs.size []))
  {s with heap:=(s.heap.push PySem.W.emptyDict).push (PySem.W.instObj C s.heap.objs.size)}:=by
 have e1:(s.heap.push PySem.W.emptyDict).get? s.heap.objs.size=some PySem.W.emptyDict:=aaS s.heap rfl;have e2:((s.heap.push PySem.W.emptyDict).push (PySem.W.instObj C s.heap.objs.size)).get? (s.heap.objs.size+1)=some (PySem.W.instObj C s.heap.objs.size):=by have:=aaS (s.heap.push PySem.W.emptyDict) (o:=PySem.W.instObj C s.heap.objs.size) rfl;rwa[Heap.size_push]at this
 have e3:(s.heap.push PySem.W.emptyDict).Ns s.heap.objs.size (λ_=>none):=⟨PySem.W.emptyDict,#[],_,e1,rfl,(λe he=>absurd he (by simp)),λ_=>rfl⟩;have I1:=I.laid (a:=s.heap.objs.size) (o:=.own (s.heap.objs.size+1)) (h':=s.heap.push PySem.W.emptyDict) (t':=s.toks) (λb u q=>aal _ q) (aan _) ⟨_,e1⟩;refine I1.laid (a:=s.heap.objs.size+1) (o:=.ins C s.heap.objs.size []) (t':=s.toks) (λb u q=>aal _ q) (Nat.le_of_eq (Heap.size_push _ _)) ?_;have ne:s.heap.objs.size≠s.heap.objs.size+1:=aaT (abu _);refine⟨by rw[Μ ne,Ω],ab9 _,ne,e2,λ_=>none,(Heap.Ns1.of_empty e3).at λo q=>aal _ q,λ_=>True.intro,λy hy=>aaL rfl hy⟩
def Md{env:Env}{f:Str}(hb:attributeBase e f env (eval e env)=eval e env)
  (h:wpAny (model prog w) A (eval e env) (λo s₁=>wpAny (model prog w) A (getAttr o f true) Q E s₁) E s):wpAny (model prog w) A (eval (.Attribute e f pos) env) Q E s:=
 Attribute_any_ h (by rw[arm_eval_Attribute,hb])
end
def Zo(K:fI)(ta:TE)(f:Str):TE:=λσ H Q=>ta σ H λx H1=>∃a C dx fs v,x= .ref a/\H1 a=some (.ins C dx fs)/\DR K C/\iK K C f/\fs.lookup f=some v/\Q v H1
def ZM(K:fI)(ta tv:TE)(f:Str):TS:=λD σ H=>tv σ H λy H1=>ta σ H1 λx H2=>∃a C dx fs,x= .ref a/\H2 a=some (.ins C dx fs)/\DR K C/\iK K C f/\fs.length<1000/\
 D.nx σ (upd H2 a (.ins C dx (jW f y fs)))
section
variable{o value:Expr}{f:Str}{pos' uA:Pos}{tv:TE}
def Qh(he:PE X e ta)(hb:attributeBase e f X.env (eval e X.env)=eval e X.env):PE X (.Attribute e f pos) (Zo X.K ta f):=by intro ζ s σ H Q I h;refine Md hb (bJ (he ζ s σ H _ I h) λu s1 xz=>?_);have⟨x,H1,I1,rx,a,C,dx,fs,v,ex,ea,c,n,l,q⟩:=xz;subst ex;obtain rfl:u=Value.ref a:=rx;exact BZ I1 ea c n l λu' s2 I2 ru=>⟨v,H1,I2,ru,q⟩
def OY(ha:PE X o ta)(hv:PE X value tv)(hs:swapsWith value (some (.Attribute o f pos')) pos.line X.env=pure false):PS X (.Assign [.Attribute o f pos'] value pos) (ZM X.K ta tv f):=by intro ζ s σ H D I h;refine plainObj_wpAny_Assign_Attribute (bJ (hv ζ s σ H _ I h) fun u s1 ⟨y,H1,I1,ry,q⟩=>bJ (ha ζ s1 σ H1 _ I1 q) λov s2 xz=>?_) hs;have⟨x,H2,I2,rx,a,C,dx,fs,ex,ea,c,n,l,q2⟩:=xz;subst ex;obtain rfl:ov=Value.ref a:=rx;exact B5 I2 ea c n l ry λs3 I3=>⟨σ,_,I3,q2⟩
end
section
variable{H:Hp}{c:Value}{b:Bool}
inductive j2(K:fI)(H:Hp):V->Value->Prop where
 |bj:j2 K H .bj (.type "NoneType")
 |bl (x:Bool):j2 K H (.bl x) (.type "bool")
 |int (i:Int):j2 K H (.int i) (.type "int")
 |str (x:Str):j2 K H (.str x) (.type "str")
 |Pr (x:UInt64):j2 K H (.Pr x) (.type "float")
 |lst {a:Addr} {xs:List V} (e:H a=some (.lst xs)):j2 K H (.ref a) (.type "list")
 |vC {a:Addr} {o:Obj} {xs:List V} (e:H a=some (.vC o (.lst xs))):j2 K H (.ref a) (.type "list")
 |tup {a:Addr} {xs:List V} (e:H a=some (.tup xs)):j2 K H (.ref a) (.type "tuple")
 |dK {a:Addr} {Κ:List (Key×V)} (e:H a=some (.dK Κ)):j2 K H (.ref a) (.type "dict")
 |dT {a:Addr} {Κ:List (List Key×V)} (e:H a=some (.dT Κ)):j2 K H (.ref a) (.type "dict")
 | ins {a C dx:Addr} {fs:List (Str×V)} (e:H a=some (.ins C dx fs)) (cl:DR K C) (ha:PySem.W.findIn K (.ref C) "__class__"=some (some (.builtin "object.__class__")))
   (hn:PySem.W.specialIn K (.builtin "object.__class__") "__get__"=some (some (.builtin "getset_descriptor.__get__"))) (Pc:PySem.W.takesIn K (.builtin "object.__class__")=some true)
   (hm:PySem.W.mroIn K C (.type "object")=some true):j2 K H (.ref a) (.ref C)
def Gq{x:V}{t:Value}(I:Inv X ζ σ H s)(rx:aA x u)(ty:j2 X.K H x t)(e:PySem.W.kitOne X.K t c=some b)(h:∀tk,Q (.bool b) {s with toks:=tk}):
  wpAny (model X.prog X.w) A (call (.builtin "isinstance") [u,c]) Q E s:=by
 cases ty with
 |bj=>cases(show u=Value.none from rx);exact PySem.W.kia_one PySem.W.kitx_none I.qa True.intro e (λz=>nomatch z) h
 |bl y=>cases(show u=Value.bool y from rx);exact PySem.W.kia_one PySem.W.kitx_bool I.qa True.intro e (λz=>nomatch z) h
 |int i=>have⟨t,q⟩:=(show∃t,u=Value.int i t from rx);cases q;exact PySem.W.kia_one PySem.W.kitx_int I.qa True.intro e (λz=>nomatch z) h
 |str y=>have⟨t,q⟩:=(show∃t,u=Value.str y t from rx);cases q;exact PySem.W.kia_one PySem.W.kitx_str I.qa True.intro e (λz=>nomatch z) h
 |Pr y=>have⟨t,q⟩:=(show∃t,u=Value.float y t from rx);cases q;exact PySem.W.kia_one PySem.W.kitx_float I.qa True.intro e (λz=>nomatch z) h
 |@lst a xs ea=>
  cases(show u=Value.ref a from rx);have⟨_,_,n,_,h1⟩:=(show cn X.prog X.w H s.heap a (.lst xs) from I.aS a _ ea);exact PySem.W.kia_one PySem.W.kitx_list I.qa ⟨_,h1,rfl⟩ e (λz=>nomatch z) h
 |@vC a ob xs ea=>
  cases(show u=Value.ref a from rx);have⟨_,_,_,n,_,h1⟩:=(show cn X.prog X.w H s.heap a (.vC ob (.lst xs)) from I.aS a _ ea);exact PySem.W.kia_one PySem.W.kitx_list I.qa ⟨_,h1,rfl⟩ e (λz=>nomatch z) h
 |@tup a xs ea=>
  cases(show u=Value.ref a from rx);have⟨_,_,_,p⟩:=(show cn X.prog X.w H s.heap a (.tup xs) from I.aS a _ ea);have⟨o,h1,h2,_⟩:=p;exact PySem.W.kia_one PySem.W.kitx_tuple I.qa ⟨o,h1,h2⟩ e (λz=>nomatch z) h
 |@dK a Κ ea=>
  cases(show u=Value.ref a from rx);have⟨_,_,vs,_,p⟩:=(show cn X.prog X.w H s.heap a (.dK Κ) from I.aS a _ ea);have⟨o,es,ep,h1,h2,_⟩:=p;exact PySem.W.kia_one PySem.W.kitx_dict I.qa ⟨o,h1,h2.1⟩ e (λz=>nomatch z) h
 |@dT a Κ ea=>
  cases(show u=Value.ref a from rx);have⟨_,_,xs,_,o,es,ep,h1,h2,_⟩:=(show cn X.prog X.w H s.heap a (.dT Κ) from I.aS a _ ea);exact PySem.W.kia_one PySem.W.kitx_dict I.qa ⟨o,h1,h2.1⟩ e (λz=>nomatch z) h
 |@ins a C dx fs ea cl ha hn Pc hm=>
  cases(show u=Value.ref a from rx);have⟨mA,O,_⟩:=qJ I.aS ea;have⟨od,J,_⟩:=O.look;exact PySem.W.kia_one (PySem.W.kitx_own (cl.get _) cl.hd ha hn Pc hm) I.qa J e (λz=>nomatch z) h
end
structure bT(k:Nat)(A:Around):Prop where
 hd:A.handled=none
 dp:A.depth+3*k+5<recursionLimit
 un:A.units+16*k+200<cLine
def bT.mono{j k:Nat}(r:bT k A)(h:j<=k):bT j A:=⟨r.hd,by have:=r.dp;omega,by have:=r.un;omega⟩
def bT.deeper{k:Nat}(r:bT (k+1) A)(env:Env):bT k (A.deeper env):=
 ⟨r.hd,by have:=r.dp;show A.depth+1+3*k+5<_;omega,by have:=r.un;show A.units+3+16*k+200<_;omega⟩
def CP:(A.under (.builtin "type.__call__" ⟨.ref C::us,kw⟩)).depth=A.depth+1:=by
 first| rfl| simp[Around.under,Code.weight,Code.isCreation,Code.isGuard,Code.isCaller,Code.frames,Code.isFrame,guardIds]
def C5:(A.under (.builtin "type.__call__" ⟨.ref C::us,kw⟩)).units=A.units+1:=by
 first| rfl| simp[Around.under,Code.cUnits,Code.frames,Code.isFrame]
def bT.make{k:Nat}(r:bT (k+1) A)(C:Addr)(us:List Value)(kw:List (Str×Value)):bT k (A.under (.builtin "type.__call__" ⟨.ref C::us,kw⟩)):=
 ⟨r.hd,by have:=r.dp;rw[CP];omega,by have:=r.un;rw[C5];omega⟩
def bT.depth{k:Nat}(r:bT k A):A.depth<recursionLimit:=by have:=r.dp;omega
def bT.units{k:Nat}(r:bT k A):A.units+64<cLine:=by have:=r.un;omega
def bT.CS{k:Nat}(r:bT k A):A.units<cLine:=by have:=r.un;omega
def Ss:TA:=λ_ H Q=>Q [] H
def Sm(ta:TE)(tr:TA):TA:=λσ H Q=>ta σ H λx H1=>tr σ H1 λxs H2=>Q (x::xs) H2
section
variable{t:TA}
def Pt:PA X [] Ss:=λ_ _ _ _ H Q I h=>Calls.spliced_nil ⟨[],H,I,.nil,h⟩
def Lo(ha:PE X e te)(hr:PA X es t)(hs:starEach (e::es) X.env=(false,eval e X.env)::starEach es X.env:=by rfl):PA X (e::es) (Sm te t):=by intro pos ζ s σ H Q I h;rw[hs];show wpAny _ _ (spliced ((false,eval e X.env)::backTo pos (starEach es X.env))) _ _ s;refine Calls.spliced_cons (bJ (ha ζ s σ H _ I h) λu s1 xz=>?_);have⟨x,H1,I1,r1,q1⟩:=xz;exact bJ (hr pos ζ s1 σ H1 _ I1 q1) λus s2 ⟨xs,H2,I2,r2,q2⟩=>⟨x::xs,H2,I2,.cons r1 r2,q2⟩
def Zj(t:TA):TE:=λσ H Q=>t σ H λxs H1=>xs.length<=sizeLine/\∀p,H1 p=none->Q (.ref p) (upd H1 p (.tup xs))
def Zn(t:TA):TE:=λσ H Q=>t σ H λxs H1=>xs.length<=sizeLine/\∀p,H1 p=none->Q (.ref p) (upd H1 p (.lst xs))
def QA{x1}(h:PA X es t):PE X (.Tuple es x1 pos) (Zj t):=by intro ζ s σ H Q I hq;refine wpAny_Tuple_spliced (bJ (h pos ζ s σ H _ I hq) fun us s1 ⟨xs,H1,I1,r,z,q⟩=>⟨by rw[<-r.length];exact z,?_⟩);have hf:H1 s1.heap.objs.size=none:=I1.aS.fresh (aan _);refine⟨.ref s1.heap.objs.size,upd H1 s1.heap.objs.size (.tup xs),I1.laid (t':=s1.toks) (λb u e=>aal _ e) (aan _) ?_,rfl,q _ hf⟩;exact⟨z,us,r,⟨_,aaS _ rfl,rfl,_,rfl⟩⟩
def KU(h:PA X es t):PE X (.List es pos) (Zn t):=by intro ζ s σ H Q I hq;refine wpAny_List_spliced (bJ (h pos ζ s σ H _ I hq) fun us s1 ⟨xs,H1,I1,r,z,q⟩=>⟨by rw[<-r.length];exact z,?_⟩);have hf:H1 s1.heap.objs.size=none:=I1.aS.fresh (aan _);refine⟨.ref s1.heap.objs.size,upd H1 s1.heap.objs.size (.lst xs),I1.laid (t':=s1.toks) (λb u e=>aal _ e) (aan _) ?_,rfl,q _ hf⟩;exact⟨z,us,0,r,aaS _ rfl⟩
end
abbrev Sp:=List V->Hp->VK->XK->Prop
abbrev A0:=List Env->Hp->Shared->XK->Value->Shared->Prop
structure C3(P:Program)(w:World)(K:fI)(mg:Str->Option Value)(base:Heap)(A:Around)(outer:List Env)(s:Shared)(H:Hp):Prop where
 frames:A.frames=some outer
 mod:Mod K mg base
 bs:∀b o,base.get? b=some o->s.heap.get? b=some o/\H b=none
 x':base.objs.size<=s.heap.objs.size
 uP:s.heap.FunFrames base outer
 SS:∀b∈qy outer,H b=none
 aS:lD P w H s.heap
 bare:AllBare s.gens
def CE(outer:List Env)(P:Program)(w:World)(H:Hp)(s:Shared)(Q:VK)(u:Value)(s':Shared):Prop:=
 ∃v H',s'.os=s.os/\AllBare s'.gens/\Un (qy outer) [] H H' s.heap s'.heap/\lD P w H' s'.heap/\aA v u/\Q v H'
def CR(CX:A0)(outer:List Env)(P:Program)(w:World)(H:Hp)(s:Shared)(Q:VK)(E:XK)(r:Result)(s':Shared):Prop:=
 match r with
 |.ok (.ret u)=>CE outer P w H s Q u s'
 |.ok _=>False
 |.error e=>CX outer H s E e s'
structure av(P:Program)(w:World)(K:fI)(mg:Str->Option Value)(base:Heap)(CX:A0)(k:Nat)(f:Addr)(fd:FuncData)(ps:List Str)(sp:Sp):Prop where
 len:∀vs H Q E,sp vs H Q E->vs.length=ps.length
 run:∀(A:Around) (outer:List Env) (s:Shared) (H:Hp) (args:Args) (us:List Value) (vs:List V) (Q:VK) (E:XK),bT k A->C3 P w K mg base A outer s H->BindsTo s fd args (ps.zip us)->aF vs us->sp vs H Q E->
  codeAny (model P w) A (.call (.ref f) args) (CR CX outer P w H s Q E) s
def C3.make{K:fI}{H:Hp}(e:C3 P w K mg base A outer s H)(C:Addr)(us:List Value)(kw:List (Str×Value)):
  C3 P w K mg base (A.under (.builtin "type.__call__" ⟨.ref C::us,kw⟩)) outer s H:=⟨by first| exact e.frames| (simpa [Around.under,Code.envs,Code.isFrame,pushEnvs] using e.frames),e.mod,e.bs,e.x',e.uP,e.SS,e.aS,e.bare⟩
section
variable{H:Hp}{s':Shared}
def Inv.RY(I:Inv X ζ σ H s):C3 X.prog X.w X.K X.mg X.base X.A X.stack s H:=
 ⟨I.ok.frames,I.ok.mod,I.bs,aaE I.ok.x' I.sz,I.stack,I.x6,I.aS,I.bare⟩
def Inv.after{Q:VK}(I:Inv X ζ σ H s)(h:CE X.stack X.prog X.w H s Q u s'):EP X ζ σ Q u s':=by have⟨v,H',os,bare,un,aS,r,q⟩:=h;have⟨hh,g,d,t,VZ⟩:=s';obtain rfl:VZ=s.os:=os;exact⟨v,H',I.call (h':=hh) (g':=g) (d':=d) (t':=t) (ch:=[]) un aS bare (λb z=>absurd z (by simp)),r,q⟩
end
def jU(K:fI)(fd:FuncData)(ps:List Str)(ds:List Value):Prop:=
 ∀(s:Shared) (us:List Value),K.In s.heap->(us++ds).length=ps.length->BindsTo s fd ⟨us,[]⟩ (ps.zip (us++ds))
def jU.all{K:fI}{fd:FuncData}(h:∀us:List Value,us.length=ps.length->bindArgs fd ⟨us,[]⟩=pure (ps.zip us)):jU K fd ps []:=λs us _ hl=>by rw[aa7]at hl⊢;exact .of_eq (h us hl)
section
variable{CX:A0}{k:Nat}{f:Addr}{fd:FuncData}{sp:Sp}{qU:List V}{ds:List Value}{E:XK}{m:Str}{p apos:Pos}{o:Expr}{t:TA}
structure Mk(K:fI)(C f:Addr):Prop where
 makes:PySem.W.makesIn K C=true
 init:PySem.W.findIn K (.ref C) "__init__"=some (some (.ref f))
 fn:PySem.W.isFn K (.ref f)=true
 kp:PySem.W.keepIn K (.ref C)=true
end
structure Ε(N P:List Str)(sc:Scope):Prop where
 kind:sc.kind= .function
 co:sc.isCoroutine=false
 gen:sc.isGenerator=false
 nd:N.Nodup
 pre:N.take P.length=P
 par:∀x∈P,sc.names.lookup x=some .local\/sc.names.lookup x=some .cell
 P6:∀y∈sc.names,y.2≠ .free
def vH{kindOf:Str->Option NameKind}{x:Str}:∀{binds:List (Str×Value)}{m:Str->Option Value},(∀v,(x,v)∉binds)->bindL kindOf binds m x=m x
 |[],_,_=>rfl
 |(n,v)::r,m,h=>by
  unfold bindL;rw[vH λw hw=>h w (aad _ hw)];split
  ·have:x≠n:=by rintro rfl;exact h v aae
   simp[this]
  ·rfl
def vn{kindOf:Str->Option NameKind}{x:Str}:∀{binds:List (Str×Value)}{m:Str->Option Value},(∀v,(x,v)∉binds)->bindC kindOf binds m x=m x
 |[],_,_=>rfl
 |(n,v)::r,m,h=>by
  unfold bindC;rw[vn λw hw=>h w (aad _ hw)];split
  ·rfl
  ·have:x≠n:=by rintro rfl;exact h v aae
   simp[this]
def uZ{kindOf:Str->Option NameKind}{x:Str}{v:Value}:∀{P:List Str}{vs:List Value}{i:Nat}{m:Str->Option Value},P.Nodup->P[i]? =some x->vs[i]? =some v->kindOf x=some .local->
  bindL kindOf (P.zip vs) m x=some v
 |[],_,_,_,_,h,_,_=>by simp at h
 |_::_,[],_,_,_,_,h,_=>by simp at h
 |p::P,w::vs,0,m,nd,h1,h2,hk=>by simp at h1 h2;subst h1;subst h2;show bindL kindOf ((p,w)::P.zip vs) m p=_;unfold bindL;rw[vH λv hv=>(abC.mp nd).1 (abK hv).1,aax hk];simp
 |p::P,w::vs,i+1,m,nd,h1,h2,hk=>by show bindL kindOf ((p,w)::P.zip vs) m x=_;unfold bindL;exact uZ (i:=i) (List.nodup_cons.mp nd).2 (by simpa using h1) (by simpa using h2) hk
def vF{kindOf:Str->Option NameKind}{x:Str}{v:Value}:∀{P:List Str}{vs:List Value}{i:Nat}{m:Str->Option Value},P.Nodup->P[i]? =some x->vs[i]? =some v->kindOf x≠some .local->
  bindC kindOf (P.zip vs) m x=some v
 |[],_,_,_,_,h,_,_=>by simp at h
 |_::_,[],_,_,_,_,h,_=>by simp at h
 |p::P,w::vs,0,m,nd,h1,h2,hk=>by simp at h1 h2;subst h1;subst h2;show bindC kindOf ((p,w)::P.zip vs) m p=_;unfold bindC;rw[vn λv hv=>(abC.mp nd).1 (abK hv).1,aaw hk];simp
 |p::P,w::vs,i+1,m,nd,h1,h2,hk=>by show bindC kindOf ((p,w)::P.zip vs) m x=_;unfold bindC;exact vF (i:=i) (List.nodup_cons.mp nd).2 (by simpa using h1) (by simpa using h2) hk
def start(N:List Str)(vs:List V):St:=vs.map some++List.replicate (N.length-vs.length) none
def xf(CX:A0)(P:Program)(w:World)(K:fI)(mg:Str->Option Value)(base:Heap)(N:List Str)(qual:Str)(scope:Scope)(f:Addr)(cd:Value)(A:Around)(outer:List Env)(s:Shared)(H:Hp)(E:XK):Cx where
 prog:=P
 w:=w
 K:=K
 mg:=mg
 base:=base
 A:=A.deeper (envOfC qual scope s.heap.objs.size f cd)
 N:=N
 s₀:=s
 H₀:=H
 env:=envOfC qual scope s.heap.objs.size f cd
 outer:=outer
 stack:=envOfC qual scope s.heap.objs.size f cd::outer
 ex:=[]
 calm:=true
 fn:=λ_=>true
 pn:=[]
 xe:=λe s'=>wpAny (model P w) (A.deeper (envOfC qual scope s.heap.objs.size f cd)) (leaving (envOfC qual scope s.heap.objs.size f cd) e) (λ_ RG=>CX outer H s E e RG) (λe' RG=>CX outer H s E e' RG) s'
def yO{sc:Scope}{n:Nat}(h:sc.names.lookup x=some .cell):∃c,(cellsFrom n sc.names []).lookup x=some c:=by have q:=PySem.W.cellsFrom_some sc.names n [] (.inl h);exact abz.mp q
def Ge{CX:A0}{K:fI}{N:List Str}{qual:Str}{scope:Scope}{f:Addr}{cd:Value}{s1:Shared}{H:Hp}{E:XK}{vs:List V}
  (S:Ε N ps scope) (hd:A.handled=none) (e0:C3 P w K mg base A outer s H) (hl:vs.length=ps.length) (r:aF vs us)
  (x:InCallC s s.heap.objs.size (bindL (envOfC qual scope s.heap.objs.size f cd).kindOf (ps.zip us) λ_=>none) (cellsFrom (s.heap.objs.size+1) scope.names []) (bindC (envOfC qual scope s.heap.objs.size f cd).kindOf (ps.zip us) λ_=>none) s1):
  Inv (xf CX P w K mg base N qual scope f cd A outer s H E) [] (start N vs) H s1:=by
 have gz:ps.length<=N.length:=by have:=aa0 List.length S.pre;rw[ach]at this;omega
 have⟨h1,tk,rfl,hk⟩:=x.done;have Tf:∀b:Addr,b∉(xf CX P w K mg base N qual scope f cd A outer s H E).ex:=λb z=>absurd (show b∈([]:List Addr) from z) (by simp)
 refine⟨⟨e0.mod,S.kind,rfl,rfl,aan _,λy z c h1 h2=>?_,λy hy=>?_,λy c _ h=>?_,λ_=>hd,Around.frames_deeper e0.frames,.inr ⟨rfl,rfl⟩,λb z=>aaL z (Tf b),e0.bs,e0.x',λb _ _=>Tf b,λb z=>aaL z (Tf b),e0.uP,e0.SS⟩,
  rfl,e0.bare,Un.kept hk,⟨_,x.toInCall.ns,λi y v h1 h2 h3=>?_⟩,λy c h=>⟨_,x.cell y c h⟩,e0.aS.fresh (Nat.le_refl _),λy c h=>?_,λp hp=>absurd (show p∈([]:List (Addr×Obj)) from hp) (by simp),e0.aS.kept hk,?_⟩
 ·exact name_of_addr x.apart (PySem.mem_of_lookup h1) (PySem.mem_of_lookup h2)
 ·have hy:scope.names.lookup y=some .cell\/scope.names.lookup y=some .free:=hy;rcases hy with hy| hy
  ·exact yO hy
  ·exact aaL rfl (S.P6 _ (PySem.mem_of_lookup hy))
 ·exact Nat.le_of_lt (x.above y c (PySem.mem_of_lookup h))
 ·have hi:i<vs.length:=by
   unfold start at h2;by_cases hi:i<vs.length
   ·exact hi
   ·rw[List.getElem?_append_right (by simpa using hi)]at h2;rw[ab3]at h2;split at h2 <;> cases h2
  have ha:vs[i]? =some v:=by
   unfold start at h2;rw[List.getElem?_append_left (by simpa using hi),List.getElem?_map]at h2;cases e:vs[i]? with
   |none=>rw[e]at h2;cases h2
   |some a=>rw[e]at h2;cases h2;rfl
  have⟨u,hu,rv⟩:=r.get ha;have hp:ps[i]? =some y:=by rw[<-S.pre,acm ()];exact h1
  have ndP:ps.Nodup:=by rw[<-S.pre];exact S.nd.sublist (List.take_sublist _ _)
  refine⟨u,rv,?_⟩;rcases S.par y (aag hp) with k| k
  ·exact .inl ⟨k,uZ ndP hp hu k⟩
  ·have⟨c,e⟩:=yO (n:=s.heap.objs.size+1) k;refine .inr ⟨.inl k,c,e,?_⟩;have q:=x.cell y c e;rw[vF ndP hp hu (by show scope.names.lookup y≠_;rw[k];decide)]at q;exact q
 ·exact e0.aS.fresh (Nat.le_of_lt (x.above y c (PySem.mem_of_lookup h)))
 ·unfold start;show _=N.length;rw[aah,aac,aa5];omega
def Uj{CX:A0}{K:fI}{k:Nat}{f:Addr}{name qual:Str}{params:Arguments}{scope:Scope}{dV kV doc pm bz ct oc:Value}{an od:Option Addr}
  {JB:Array (Option Value)} {N:List Str} {sp:Sp} (lk:K.lookup f=some ⟨oc,od,.func (PySem.W.fnOf name qual params body scope dV kV doc pm an bz ct),JB⟩) (K9:PySem.W.codeIn K bz qual=true) (S:Ε N ps scope)
  (len:∀vs H Q E,sp vs H Q E->vs.length=ps.length)
  (yK:∀(A:Around) (outer:List Env) (s:Shared) (H:Hp) (vs:List V) (Q:VK) (E:XK),bT k (A.deeper (envOfC qual scope s.heap.objs.size f bz))->sp vs H Q E->
   ∃t,Hh (xf CX P w K mg base N qual scope f bz A outer s H E) body t/\t {nx:=λ_ H'=>Q .bj H',rt:=Q} (start N vs) H):
  av P w K mg base CX (k+1) f (PySem.W.fnOf name qual params body scope dV kV doc pm an bz ct) ps sp:=by
 refine⟨len,λA outer s H args us vs Q E hr e0 hb r Og=>?_⟩;have hl:=len _ _ _ _ Og;have KX:K.In s.heap:=e0.mod.UY.keeps λb o e=>(e0.bs b o e).1;have lim:s.heap.NoLimit:=e0.mod.nolimit.keeps λb o e=>(e0.bs b o e).1;have II:∀y∈ps.zip us,scope.names.lookup y.1=some .local\/(scope.names.lookup y.1=some .cell/\((cellsFrom (s.heap.objs.size+1) scope.names []).lookup y.1).isSome=true):=λ⟨n,v⟩ hy=>by
  rcases S.par n (abK hy).1 with q| q
  ·exact .inl q
  ·exact .inr ⟨q,PySem.W.cellsFrom_some _ _ _ (.inl q)⟩
 refine codeAny_call_function hr.depth (KX _ _ lk) rfl S.co S.gen rfl (PySem.W.codeRec_of KX K9) (hb _ _ _ _ ?_);refine wpAny_newFunctionEnv_cells S.kind II λenv he s1 x=>?_;subst he;refine⟨lim.keeps x.toInCall.keep,codeAny_func ?_⟩;have⟨t,ht,hq⟩:=yK A outer s H vs Q E (hr.deeper _) Og;have I:Inv (xf CX P w K mg base N qual scope f bz A outer s H E) [] (start N vs) H s1:=Ge S hr.hd e0 hl r x;refine ab7 (ht [] s1 (start N vs) H _ I hq) (λfl s' hs=>?_) λe s' hs=>hs
 have fin:∀{σ':St} {H':Hp} {v:V} {u:Value},Inv (xf CX P w K mg base N qual scope f bz A outer s H E) [] σ' H' s'->aA v u->Q v H'->CE outer P w H s Q u s':=
  λ{σ' H' v u} J rv q=>⟨v,H',J.os,J.bare,J.base,J.aS,rv,q⟩
 cases fl with
 |ret u=>
  have⟨v,σ',H',J,rv,q⟩:=hs;exact fin J rv q
 |next=>
  have⟨σ',H',J,q⟩:=hs;exact fin (v:=V.bj) (u:=Value.none) J rfl q
 |brk=>
  have⟨_,_,_,q⟩:=hs;exact False.elim q
 |cont=>
  have⟨_,_,_,q⟩:=hs;exact False.elim q
section
variable{p:Pos}{t:TA}{id T:String}{r:List V->Hp->VK->Prop}
def Yo(r:List V->Hp->VK->Prop)(t:TA):TE:=λσ H Q=>t σ H λvs H1=>r vs H1 Q
def K0(hc:dU X (.builtin id) r)(hg:Gl X x)(hm:X.mg x=none)(hv:bootBuiltins x=some (.builtin id))(ha:PA X (e::es) t)(hn:x≠"__name__":=by decide)(oy:(x==("__debug__":Str))=false:=by decide)
  (he:starEach (e::es) X.env=(false,eval e X.env)::starEach es X.env:=by rfl) (gz:(backTo pos (starEach es X.env)).any (·.1)=false:=by rfl):PE X (.Call (.Name x p) (e::es) [] pos) (Yo r t):=by
 intro ζ s σ H Q I h;refine wpAny_Call_Name_kw (mP I hg hm hv ?_ hn oy);exact PyProof.Rows.callWith_builtin1 (bJ (ha pos ζ s σ H _ I h) λus s1 ⟨vs,H1,I1,r1,q1⟩=>hc ζ s1 σ H1 vs us Q I1 r1 q1) he gz
def FC(hc:dU X (.type T) r)(hg:Gl X x)(hm:X.mg x=none)(hv:bootBuiltins x=some (.type T))(ha:PA X (e::es) t)(hn:x≠"__name__":=by decide)(oy:(x==("__debug__":Str))=false:=by decide)
  (he:starEach (e::es) X.env=(false,eval e X.env)::starEach es X.env:=by rfl) (gz:(backTo pos (starEach es X.env)).any (·.1)=false:=by rfl):PE X (.Call (.Name x p) (e::es) [] pos) (Yo r t):=by
 intro ζ s σ H Q I h;refine wpAny_Call_Name_kw (mP I hg hm hv ?_ hn oy);exact PyProof.Rows.callWith_type1 (bJ (ha pos ζ s σ H _ I h) λus s1 ⟨vs,H1,I1,r1,q1⟩=>hc ζ s1 σ H1 vs us Q I1 r1 q1) he gz
end
end L2
namespace HT
open PySem PyProof.Rows
section
variable{prog:Program}{w:World}{A:Around}{E:Value->Shared->Prop}{s:Shared}
def Nq{t b:Addr}{vs ws:List Value}{Q:Value->Shared->Prop}(ht:IsTup s.heap t vs.toArray)(hb:IsTup s.heap b ws.toArray)(hv:vs≠[])
  (h1:ws=[]->Q (.ref t) s) (h2:ws≠[]->Q (.ref s.heap.objs.size) {s with heap:=s.heap.push {cls:=.type "tuple",data:=.seq (vs++ws).toArray}})
  (hsz:vs.length+ws.length<=sizeLine):wpAny (model prog w) A (binaryOp .Add (.ref t) (.ref b)) Q E s:=by
 have⟨⟨cls,dd,data,sl⟩,ho,hc,n,hd⟩:=id ht;have⟨⟨afY,VL,data2,Vz⟩,VI,hc2,n2,hd2⟩:=id hb;simp only at hc hd hc2 hd2;subst hc hd hc2 hd2;have e:vs.toArray++ws.toArray=(vs++ws).toArray:=by simp
 by_cases hw:ws=[]
 ·exact concat_meets ⟨_,ho,rfl⟩ ⟨_,VI,rfl⟩ noFill_tuple_add seq_tuple_add PySem.F.slot_tuple_add PySem.F.entry_tuple_add (PySem.F.args_tuple_add_2 _ _)
   (tuple_addW1 t b vs.toArray ws.toArray n n2 dd VL sl Vz (by simpa using hv) (by simp[hw])) ⟨ho,VI,h1 hw⟩
 ·refine concat_meets ⟨_,ho,rfl⟩ ⟨_,VI,rfl⟩ noFill_tuple_add seq_tuple_add PySem.F.slot_tuple_add PySem.F.entry_tuple_add (PySem.F.args_tuple_add_2 _ _)
   (tuple_addW2 t b vs.toArray ws.toArray n n2 dd VL sl Vz (by simpa using hv) (by simpa using hw) (by rw[List.size_toArray,List.size_toArray];exact hsz)) ⟨ho,VI,?_⟩
  rw[e];exact h2 hw
def AW(n d:Nat):Option Int->Nat
 |none=>d
 |some v=>if v<0 then (v+(n:Int)).toNat else min v.toNat n
def zM(n d:Nat):AW n d none=d:=rfl
def qP(n d k:Nat):AW n d (some (k:Int))=min k n:=by show(if (k:Int)<0 then ((k:Int)+(n:Int)).toNat else min (k:Int).toNat n)=min k n;rw[aaw (),abS]
end
end HT
namespace L2
open PySem PySem.Spec PyProof.Rows
variable{X:Cx}{n:Nat}{ζ:List (Addr×Obj)}{s:Shared}{its:List Value}
abbrev TO:=St->Hp->(Option Int->Hp->Prop)->Prop
def PO(X:Cx)(e:Option Expr)(t:TO):Prop:=
 ∀(ζ:List (Addr×Obj)) (s:Shared) (σ:St) (H:Hp) (Q:Option Int->Hp->Prop),Inv X ζ σ H s->t σ H Q->
  wpAny (model X.prog X.w) X.A (evalPart e X.env) (λu s'=>∃o H',Inv X ζ σ H' s'/\IsPart u o/\Q o H') X.xe s
def Me:TO:=λ_ H Q=>Q none H
def SR(t:TE):TO:=λσ H Q=>t σ H λx H1=>∃i,x= .int i/\Q (some i) H1
section
variable{e:Expr}{te:TE}{lo hi:Option Expr}{tl th:TO}{pos p2:Pos}
def ED:PO X none Me:=by intro ζ s σ H Q I h;rw[evalPart_none];exact aaR ⟨none,H,I,.none,h⟩
def lA(h:PE X e te):PO X (some e) (SR te):=by intro ζ s σ H Q I hw;rw[evalPart_some];refine bJ (h ζ s σ H _ I hw) λu s1 xz=>?_;have⟨x,H1,I1,r1,q1⟩:=xz;have⟨i,rfl,q⟩:=q1;have⟨t,rfl⟩:=r1;exact⟨some i,H1,I1,.int i t,q⟩
def SlR(X:Cx)(r:V->Option Int->Option Int->Hp->VK->Prop):Prop:=
 ∀(ζ:List (Addr×Obj)) (s:Shared) (σ:St) (H:Hp) (x:V) (v vl vu:Value) (lo hi:Option Int) (sl:Addr) (Q:VK),Inv X ζ σ H s->aA x v->s.heap.IsSliceOf sl vl vu .none->IsPart vl lo->IsPart vu hi->r x lo hi H Q->
  ∃T id,typeLookup (.type T) "__getitem__"=pure (some (.builtin id))/\s.TypeIs v T/\wpAny (model X.prog X.w) X.A (getItem v (.ref sl)) (EP X ζ σ Q) X.xe s
def tSl(r:V->Option Int->Option Int->Hp->VK->Prop)(te:TE)(tl th:TO):TE:=λσ H Q=>te σ H λx H1=>tl σ H1 λl H2=>th σ H2 λu H3=>r x l u H3 Q
def uf{r:V->Option Int->Option Int->Hp->VK->Prop}(hr:SlR X r)(he:PE X e te)(hl:PO X lo tl)(hu:PO X hi th):PE X (.Subscript e (.Slice lo hi none p2) pos) (tSl r te tl th):=by intro ζ s σ H Q I h;refine Subscript_ (bJ (he ζ s σ H _ I h) λv s1 xz=>?_);have⟨x,H1,I1,r1,q1⟩:=xz;refine wpAny_Slice (bJ (hl ζ s1 σ H1 _ I1 q1) fun vl s2 ⟨l,H2,I2,pl,q2⟩=>bJ (hu ζ s2 σ H2 _ I2 q2) λvu s3 xz=>?_);have⟨u,H3,I3,pu,q3⟩:=xz;rw[evalPart_none];refine aaR ?_;have I4:Inv X ζ σ H3 {s3 with heap:=s3.heap.push {cls:=.type "slice",data:=.fields #[vl,vu,.none]}}:=I3.kept (t':=s3.toks) λb ob q=>aal _ q;have⟨T,id,hT,ht,hg⟩:=hr ζ {s3 with heap:=s3.heap.push {cls:=.type "slice",data:=.fields #[vl,vu,.none]}} σ H3 x v vl vu l u s3.heap.objs.size Q I4 r1 (Heap.IsSliceOf.new ..) pl pu q3;show wpAny (model X.prog X.w) X.A (subscriptTail e (.Slice lo hi none p2) v (.ref s3.heap.objs.size)) (EP X ζ σ Q) X.xe {s3 with heap:=s3.heap.push {cls:=.type "slice",data:=.fields #[vl,vu,.none]}};exact tail_any (ops:=[.ref s3.heap.objs.size,v]) ht hT hg (by with_unfolding_all rfl)
def uH(xs:List V)(lo hi:Option Int):List V:=(xs.drop (HT.AW xs.length 0 lo)).take (HT.AW xs.length xs.length hi-HT.AW xs.length 0 lo)
def Am(xs:List V)(lo hi:Option Int):(uH xs lo hi).length<=xs.length:=by unfold uH;rw[ach,abP];omega
def OG(K:fI):R2:=λx y H Q=>∃a b xs ys,x= .ref a/\y= .ref b/\nZ K H a xs/\nZ K H b ys/\xs≠[]/\xs.length+ys.length<=sizeLine/\
 (ys=[]->Q (.ref a) H)/\(ys≠[]->∀p,H p=none->Q (.ref p) (upd H p (.tup (xs++ys))))
def aF.wQ{xs:List V}{us:List Value}(r:aF xs us):us=[]↔xs=[]:=by
 cases r with
 |nil=>simp
 |cons _ _=>simp
def Lm:jo X (binaryOp .Add) (OG X.K):=by intro ζ s σ H x y v u Q I rx ry h;have⟨a,b,xs,ys,rfl,rfl,ha,hb,hx,hz,q1,q2⟩:=h;cases rx;cases ry;have⟨its,r1,p1,_⟩:=I.tuple ha;have⟨Io,r2,p2,_⟩:=I.tuple hb;refine HT.Nq p1 p2 (λz=>hx (r1.wQ.mp z)) (λz=>⟨.ref a,H,I,rfl,q1 (r2.wQ.mp z)⟩) (λz=>?_) (by rw[<-r1.length,<-r2.length];exact hz);refine⟨.ref s.heap.objs.size,_,I.laid (t':=s.toks) (o:=.tup (xs++ys)) (λb ob q=>aal _ q) (aan _) ?_,rfl,q2 (λw=>z (r2.wQ.mpr w)) _ (I.aS.fresh (aan _))⟩;exact⟨by rw[aah];exact hz,_,r1.append r2,IsTup.new _ _⟩
end
def JU(n:Nat)(i:Int):Option Nat:=if 0<=i then (if i<n then some i.toNat else none) else if -(n:Int)<=i then some (i+n).toNat else none
def lF{α:Type}(xs:List α)(i:Int):Option α:=(JU xs.length i).bind λj=>xs[j]?
def Dy{i:Int}{j:Nat}(h:JU n i=some j):seqIndex? i n=some j/\j<n/\ -(n:Int)<=i/\i<n:=by
 unfold JU at h;by_cases h0:0<=i
 ·rw[aax h0]at h;by_cases h1:i<n
  ·rw[aax h1]at h;have e:i.toNat=j:=aar h;exact⟨by rw[seqIndex_of h0 h1,e],(),(),h1⟩
  ·rw[aaw h1]at h;cases h
 ·rw[aaw h0]at h;by_cases h1: -(n:Int)<=i
  ·rw[aax h1]at h;have e:(i+n).toNat=j:=aar h;exact⟨by rw[seqIndex_neg () h1,e],(),h1,()⟩
  ·rw[aaw h1]at h;cases h
def wj{α:Type}{xs:List α}{i:Int}{v:α}(h:lF xs i=some v):∃j,seqIndex? i xs.length=some j/\xs[j]? =some v/\j<xs.length/\ -(xs.length:Int)<=i/\i<xs.length:=by
 unfold lF at h;cases e:JU xs.length i with
 |none=>rw[e]at h;cases h
 |some j=>
  rw[e]at h;have⟨h1,h2,h3,h4⟩:=Dy e;exact⟨j,h1,h,h2,h3,h4⟩
def Ν{α:Type}{xs:List α}{j:Nat}{v:α}(h:xs[j]? =some v):lF xs (j:Int)=some v:=by
 have hj:j<xs.length:=(aaf.mp h).1;have e:JU xs.length (j:Int)=some j:=by unfold JU;rw[if_pos (),if_pos ()];simp
 unfold lF;rw[e];exact h
def wD(b:Expr):Prop:=∀o i,subscripted b false o i=operate [o,i] (getItem o i)
def Ll(X:Cx)(r:R2):Prop:=
 ∀(value slice:Expr) (ζ:List (Addr×Obj)) (s:Shared) (σ:St) (H:Hp) (x y:V) (v u:Value) (Q:VK),Inv X ζ σ H s->aA x v->aA y u->r x y H Q->
  subscripted slice false v u=operate [v,u] (getItem v u)->wpAny (model X.prog X.w) X.A (subscriptTail value slice v u) (EP X ζ σ Q) X.xe s
def MtR(X:Cx)(id:String)(r:V->List V->Hp->VK->Prop):Prop:=
 ∀(ζ:List (Addr×Obj)) (s:Shared) (σ:St) (H:Hp) (x:V) (xs:List V) (v:Value) (us:List Value) (Q:VK),Inv X ζ σ H s->aA x v->aF xs us->r x xs H Q->
  wpAny (model X.prog X.w) X.A (call (.builtin id) (v::us)) (EP X ζ σ Q) X.xe s
section
variable{a b:Expr}{ta tb:TE}{pos:Pos}
def Ll.or{r r':R2}(h:Ll X r)(h':Ll X r'):Ll X (λx y H Q=>r x y H Q\/r' x y H Q):=by
 intro value slice ζ s σ H x y v u Q I rx ry q hs;rcases q with q| q
 ·exact h value slice ζ s σ H x y v u Q I rx ry q hs
 ·exact h' value slice ζ s σ H x y v u Q I rx ry q hs
def Sa{r:R2}(hr:Ll X r)(ha:PE X a ta)(hb:PE X b tb)(hs:wD b):PE X (.Subscript a b pos) (Vl r ta tb):=by intro ζ s σ H Q I h;exact Subscript_ (OU ha hb I h λv u s2 x y H2 I2 rx ry q=>hr a b ζ s2 σ H2 x y v u Q I2 rx ry q (hs _ _))
def Vj(K:fI):R2:=λx y H Q=>∃p xs i v,x= .ref p/\y= .int i/\gK K H p xs/\lF xs i=some v/\Q v H
def Ve(K:fI):R2:=λx y H Q=>∃p xs i v,x= .ref p/\y= .int i/\nZ K H p xs/\lF xs i=some v/\Q v H
def S8:R2:=λx y H Q=>∃z i c,x= .str z/\y= .int i/\z.length<=sizeLine/\lF z.cps.toList i=some c/\Q (.str ⟨#[c]⟩) H
def Mh:Ll X (Vj X.K):=by
 intro value slice ζ s σ H x y v u Q I rx ry h hs;have⟨p,xs,i,z,rfl,rfl,hq,he,q⟩:=h;cases rx;have⟨t,rfl⟩:=ry;have⟨its,r,pl,hz⟩:=I.list hq;have⟨j,h1,h2,h3,h4,h5⟩:=wj he;have⟨w,ew,Cj⟩:=r.get h2;have hl:=r.length;have hn:=pS;have fin:EP X ζ σ Q w s:=⟨z,H,I,Cj,q⟩;by_cases h0:0<=i
 ·have hj:i.toNat=j:=by rw[seqIndex_of h0 h5]at h1;exact aar h1
  exact item_listR pl.isList h0 () (by rw[hj];simpa using ew) fin hs
 ·have hj:(i+(its.toArray.size:Int)).toNat=j:=by rw[seqIndex_neg () h4]at h1;rw[aay,<-hl];exact aar h1
  exact subscriptTail_builtinR (x:=w) pl.isList.typeIs slot_list_getitem.lookup
   (wpAny_getItem_list_neg (Q:=λr s'=>r=w/\EP X ζ σ Q r s') pl.isList () (by rw[List.size_toArray] <;> omega) () (by rw[hj];simpa using ew) ⟨rfl,fin⟩) hs
def O2:Ll X (Ve X.K):=by
 intro value slice ζ s σ H x y v u Q I rx ry h hs;have⟨p,xs,i,z,rfl,rfl,hq,he,q⟩:=h;cases rx;have⟨t,rfl⟩:=ry;have⟨its,r,pl,hz⟩:=I.tuple hq;have⟨j,h1,h2,h3,h4,h5⟩:=wj he;have⟨w,ew,Cj⟩:=r.get h2;have hl:=r.length;have hn:=pS;have fin:EP X ζ σ Q w s:=⟨z,H,I,Cj,q⟩
 exact subscriptTail_builtinR (x:=w) pl.typeIs slot_tuple_getitem.lookup
  (getItem_tuple (j:=j) (Q:=λr s'=>r=w/\EP X ζ σ Q r s') pl () () (by rw[List.size_toArray,<-hl];exact h1) (by simpa using ew) ⟨rfl,fin⟩) hs
def O6:Ll X S8:=by
 intro value slice ζ s σ H x y v u Q I rx ry h hs;have⟨z,i,c,rfl,rfl,hz,he,q⟩:=h;have⟨t,rfl⟩:=rx;have⟨t',rfl⟩:=ry;have⟨j,h1,h2,h3,h4,h5⟩:=wj he;have hl:z.cps.toList.length=z.length:=by simp[Str.length]
 rw[hl]at h1 h4 h5;have hn:=pS
 exact tail_any (typeIs_str s z t) slot_str_getitem.lookup (getItem_str (c:=c) (by
  have e1:decide (i< -(2^63:Int))=false:=aaJ ();have e2:decide (i ≥ 2^63)=false:=aaJ ()
  rw[e1,e2,Bool.or_false]) (by rw[h1];simpa using h2) ⟨.str ⟨#[c]⟩,H,I.tok _,⟨_,rfl⟩,q⟩) hs
def Z9(K:fI):R2:=λx y H Q=>Vj K x y H Q\/Ve K x y H Q\/S8 x y H Q
def Pk:Ll X (Z9 X.K):=Mh.or (O2.or O6)
def BH(its:List Value)(n j:Nat)(u:Value):Obj.mapSeq (·.setIfInBounds j u) {cls:=.type "list",data:=.seq its.toArray n}={cls:=.type "list",data:=.seq (its.set j u).toArray n}:=by simp[Obj.mapSeq]
def Inv.lst{ζ:List (Addr×Obj)}{σ:St}{H:Hp}{s:Shared}{p:Addr}{xs:List V}(I:Inv X ζ σ H s)(h:H p=some (.lst xs)):
  ∃(its:List Value) (n:Nat),aF xs its/\s.heap.get? p=some {cls:=.type "list",data:=.seq its.toArray n}/\xs.length<=sizeLine:=by
 have⟨z,its,n,r,e⟩:=I.aS p _ h;exact⟨its,n,r,e,z⟩
def Inv.Pf{σ:St}{H:Hp}{p:Addr}{xs ys:List V}{its':List Value}{n':Nat}{f:Obj->Obj}(I:Inv X ζ σ H s)(h:H p=some (.lst xs))
  (ho:s.heap.get? p=some {cls:=.type "list",data:=.seq its.toArray n}) (hf:f {cls:=.type "list",data:=.seq its.toArray n}={cls:=.type "list",data:=.seq its'.toArray n'}) (r:aF ys its') (hz:ys.length<=sizeLine) (t:Nat):
  Inv X ζ σ (upd H p (.lst ys)) {s with heap:=s.heap.update p f,toks:=t}:=by
 have e:(s.heap.update p f).get? p=some {cls:=.type "list",data:=.seq its'.toArray n'}:=by rw[Heap.get?_update_self f ho (by rw[hf] <;> rfl),hf]
 refine I.write (x:=p) (e:=p) (by rw[h];trivial) (.inl rfl) (λb u hb q=>(Heap.get?_update_other _ _ (Ne.symm hb)).trans q) ⟨_,e⟩ ?_;exact⟨hz,its',n',r,e⟩
def Om:V->V->V->Hp->(Hp->Prop)->Prop:=λo i v H Q=>∃p xs k j,o= .ref p/\i= .int k/\H p=some (.lst xs)/\JU xs.length k=some j/\Q (upd H p (.lst (xs.set j v)))
def La:Uz X Om:=by
 intro ζ s σ H o i v ov iv u Q I ro ri rv h;have⟨p,xs,k,j,rfl,rfl,hp,hj,q⟩:=h;cases ro;have⟨t,rfl⟩:=ri;have⟨its,n,r,ho,hz⟩:=I.lst hp;have⟨h1,h2,h3,h4⟩:=Dy hj;have hl:=r.length;have hn:=pS
 have I':Inv X ζ σ (upd H p (.lst (xs.set j v))) {s with heap:=s.heap.update p (Obj.mapSeq (·.setIfInBounds j u))}:=
  I.Pf hp ho (BH its n j u) (r.set rv j) (by rw[abn];exact hz) s.toks
 by_cases h0:0<=k
 ·have hk:k.toNat=j:=by rw[seqIndex_of h0 h4]at h1;exact aar h1
  exact PySem.W.ki_setAt ho h0 () (by rw[aay,<-hl];exact h4) (by rw[hk];exact⟨_,I',q⟩)
 ·have hk:(k+(its.toArray.size:Int)).toNat=j:=by rw[seqIndex_neg () h3]at h1;rw[aay,<-hl];exact aar h1
  exact PySem.W.ki_setBack ho () (by rw[aay,<-hl];exact h3) () (by rw[hk];exact⟨_,I',q⟩)
def w6(lo hi:Option Int)(n:Nat):(sliceBounds lo hi none n).1=((HT.AW n 0 lo:Nat):Int)/\(sliceBounds lo hi none n).2.1=((HT.AW n n hi:Nat):Int)/\(sliceBounds lo hi none n).2.2=1:=by
 refine⟨?_,?_,rfl⟩
 ·cases lo with
  |none=>simp[sliceBounds,HT.AW]
  |some i=>
   simp only[sliceBounds,HT.AW,Option.getD_none,show(1:Int) > 0 by decide,if_true];by_cases h:i<0
   ·simp only[h,if_true] <;> omega
   ·simp only[h,if_false] <;> omega
 ·cases hi with
  |none=>simp[sliceBounds,HT.AW]
  |some i=>
   simp only[sliceBounds,HT.AW,Option.getD_none,show(1:Int) > 0 by decide,if_true];by_cases h:i<0
   ·simp only[h,if_true] <;> omega
   ·simp only[h,if_false] <;> omega
def uS(its:List Value)(lo hi:Option Int):slicePick its.toArray lo hi none=((its.drop (HT.AW its.length 0 lo)).take (HT.AW its.length its.length hi-HT.AW its.length 0 lo)).toArray:=by have⟨h1,h2,h3⟩:=w6 lo hi its.toArray.size;unfold slicePick;rw[h1,h2,h3];simp only[sliceRange_one,pick_run,List.size_toArray] <;> rfl
def YZ(K:fI):V->Option Int->Option Int->Hp->VK->Prop:=λx lo hi H Q=>∃a xs,x= .ref a/\gK K H a xs/\∀p,H p=none->Q (.ref p) (upd H p (.lst (uH xs lo hi)))
def wy:SlR X (YZ X.K):=by intro ζ s σ H x v vl vu lo hi sl Q I rx hs pl pu h;have⟨a,xs,rfl,hx,q⟩:=h;cases rx;have⟨its,r,ht,hz⟩:=I.list hx;have hlen:=r.length;refine⟨"list",_,slot_list_getitem.lookup,ht.isList.typeIs,?_⟩;refine wpAny_getItem_list_slice ht.isList hs pl pu .none (by simp) ?_ (by rw[List.size_toArray] <;> omega);rw[uS,<-hlen];refine⟨.ref s.heap.objs.size,_,I.laid (t':=s.toks) (o:=.lst (uH xs lo hi)) (λb ob q=>aal _ q) (aan _) ?_,rfl,q _ (I.aS.fresh (aan _))⟩;exact⟨aaE (Am xs lo hi) hz,_,0,(r.drop (HT.AW xs.length 0 lo)).take (HT.AW xs.length xs.length hi-HT.AW xs.length 0 lo),aaS _ rfl⟩
def dX:V->Bool
 |.bj=>true
 |.bl _=>true
 |.int _=>true
 |.str _=>true
 |_=>false
def qo:V->V->Bool
 |.bj,.bj=>true
 |.bl a,.bl b=>a==b
 |.bl a,.int b=>(if a then 1 else 0)==b
 |.int a,.bl b=>a==(if b then 1 else 0)
 |.int a,.int b=>a==b
 |.str a,.str b=>a==b
 |_,_=>false
def sE{A:Around}{y x:V}{u v:Value}(ry:aA y u)(rx:aA x v)(fy:dX y=true)(fx:dX x=true):SeqAt.EqAt A s u v (qo y x):=by
 cases y with
 |bj=>
  cases ry;cases x with
  |bj=>cases rx;exact SeqAt.EqAt.same _
  |bl b=>cases rx;exact SeqAt.EqAt.none_bool b
  |int b=>have⟨t,rfl⟩:=rx;exact SeqAt.EqAt.none_int b t
  |str b=>have⟨t,rfl⟩:=rx;exact SeqAt.EqAt.none_str b t
  |_=>exact aaL (show false=true from fx) aaF
 |bl a=>
  cases ry;cases x with
  |bj=>cases rx;exact SeqAt.EqAt.bool_none a
  |bl b=>cases rx;exact SeqAt.EqAt.bool_bool a b
  |int b=>have⟨t,rfl⟩:=rx;exact SeqAt.EqAt.bool_int a b t
  |str b=>have⟨t,rfl⟩:=rx;exact SeqAt.EqAt.bool_str a b t
  |_=>exact aaL (show false=true from fx) aaF
 |int a=>
  have⟨t',rfl⟩:=ry;cases x with
  |bj=>cases rx;exact SeqAt.EqAt.int_none a t'
  |bl b=>cases rx;exact SeqAt.EqAt.int_bool a t' b
  |int b=>have⟨t,rfl⟩:=rx;exact SeqAt.EqAt.int_int a t' b t
  |str b=>have⟨t,rfl⟩:=rx;exact SeqAt.EqAt.int_str a t' b t
  |_=>exact aaL (show false=true from fx) aaF
 |str a=>
  have⟨t',rfl⟩:=ry;cases x with
  |bj=>cases rx;exact SeqAt.EqAt.str_none a t'
  |bl b=>cases rx;exact SeqAt.EqAt.str_bool a t' b
  |int b=>have⟨t,rfl⟩:=rx;exact SeqAt.EqAt.str_int a t' b t
  |str b=>have⟨t,rfl⟩:=rx;exact SeqAt.EqAt.str_str a t' b t
  |_=>exact aaL (show false=true from fx) aaF
 |_=>exact aaL (show false=true from fy) aaF
def BJ(x:V)(u:Value):Bool:=match u with
 |.none=>qo .bj x
 |.bool b=>qo (.bl b) x
 |.int i _=>qo (.int i) x
 |.str z _=>qo (.str z) x
 |_=>false
def IF{x y:V}{u:Value}(r:aA y u)(f:dX y=true):BJ x u=qo y x:=by
 cases y with
 |bj=>cases r;rfl
 |bl b=>cases r;rfl
 |int i=>have⟨t,rfl⟩:=r;rfl
 |str z=>have⟨t,rfl⟩:=r;rfl
 |_=>exact aaL (show false=true from f) aaF
def nL{x:V}:∀{xs:List V}{us:List Value},aF xs us->xs.all dX=true->us.any (BJ x)=xs.any λy=>qo y x
 |_,_,.nil,_=>rfl
 |y::xs,u::us,.cons r t,f=>by rw[ab4,aav]at f;rw[ab5,ab5,IF r f.1,nL t f.2]
def kj{A:Around}{s:Shared}{x:V}{v:Value}(rx:aA x v)(fx:dX x=true):∀{xs:List V}{us:List Value},aF xs us->xs.all dX=true->∀u∈us,SeqAt.EqAt A s u v (BJ x u)
 |_,_,.nil,_=>λu hu=>by cases hu
 |y::xs,u::us,.cons r t,f=>λu' hu=>by
  rw[ab4,aav]at f;rcases aaK.mp hu with rfl| hu
  ·rw[IF r f.1];exact sE r rx f.1 fx
  ·exact kj rx fx t f.2 u' hu
def QT(x:V)(xs:List V):Bool:=xs.any λy=>qo y x
def Wl(K:fI)(neg:Bool):R2:=λx y H Q=>∃p xs,y= .ref p/\(gK K H p xs\/nZ K H p xs)/\dX x=true/\xs.all dX=true/\Q (.bl (if neg then !QT x xs else QT x xs)) H
def GO:jo X (compareOp .In) (Wl X.K false):=by
 intro ζ s σ H x y v u Q I rx ry h;have⟨p,xs,rfl,hq,fx,fs,q⟩:=h;cases ry;rcases hq with hq| hq
 ·have⟨its,r,pl,hz⟩:=I.list hq;refine SeqAt.in_listAt (BJ x) pl.isList (λw hw=>kj rx fx r fs w (by simpa using hw)) ⟨.bl _,H,I,rfl,?_⟩;rw[show its.toArray.any (BJ x)=its.any (BJ x) by simp,nL r fs];exact q
 ·have⟨its,r,pl,hz⟩:=I.tuple hq;refine SeqAt.in_tupleAt (BJ x) pl (λw hw=>kj rx fx r fs w (by simpa using hw)) ⟨.bl _,H,I,rfl,?_⟩;rw[show its.toArray.any (BJ x)=its.any (BJ x) by simp,nL r fs];exact q
def wO:jo X (compareOp .NotIn) (Wl X.K true):=by
 intro ζ s σ H x y v u Q I rx ry h;have⟨p,xs,rfl,hq,fx,fs,q⟩:=h;cases ry;rcases hq with hq| hq
 ·have⟨its,r,pl,hz⟩:=I.list hq;refine SeqAt.notIn_listAt (BJ x) pl.isList (λw hw=>kj rx fx r fs w (by simpa using hw)) ⟨.bl _,H,I,rfl,?_⟩;rw[show its.toArray.any (BJ x)=its.any (BJ x) by simp,nL r fs];exact q
 ·have⟨its,r,pl,hz⟩:=I.tuple hq;refine SeqAt.notIn_tupleAt (BJ x) pl (λw hw=>kj rx fx r fs w (by simpa using hw)) ⟨.bl _,H,I,rfl,?_⟩;rw[show its.toArray.any (BJ x)=its.any (BJ x) by simp,nL r fs];exact q
def wg:dU X (.builtin "len") (λxs H Q=>∃p ys,xs=[.ref p]/\(gK X.K H p ys\/nZ X.K H p ys)/\Q (.int ys.length) H):=by
 intro ζ s σ H xs us Q I r h;have⟨p,ys,rfl,hq,q⟩:=h;have⟨u,rfl,rx⟩:=kU r;cases rx;have hn:=pS;rcases hq with hq| hq
 ·have⟨its,r',pl,hz⟩:=I.list hq;have hlen:=r'.length;exact Calls.call_len_list pl.isList (by simp only[List.size_toArray] <;> omega) ⟨.int ys.length,H,I.tok _,⟨s.toks+1,by rw[List.size_toArray,hlen]⟩,q⟩
 ·have⟨its,r',pl,hz⟩:=I.tuple hq;have hlen:=r'.length;exact len_tuple pl (by simp only[List.size_toArray] <;> omega) ⟨.int ys.length,H,I.tok _,⟨s.toks+1,by rw[List.size_toArray,hlen]⟩,q⟩
def xc:dU X (.builtin "len") (λxs H Q=>∃z,xs=[.str z]/\z.length<=sizeLine/\Q (.int z.length) H):=by intro ζ s σ H xs us Q I r h;have⟨z,rfl,hz,q⟩:=h;have⟨u,rfl,t,rfl⟩:=kU r;have hn:=pS;exact len_str () ⟨.int z.length,H,I.tok _,⟨_,rfl⟩,q⟩
def dU.or{f:Value}{r r':List V->Hp->VK->Prop}(h:dU X f r)(h':dU X f r'):dU X f (λxs H Q=>r xs H Q\/r' xs H Q):=by
 intro ζ s σ H xs us Q I rs q;rcases q with q| q
 ·exact h ζ s σ H xs us Q I rs q
 ·exact h' ζ s σ H xs us Q I rs q
def xx:dU X (.type "list") (λxs H Q=>∃p ys,xs=[.ref p]/\(gK X.K H p ys\/nZ X.K H p ys)/\∀l,H l=none->Q (.ref l) (upd H l (.lst ys))):=by
 intro ζ s σ H xs us Q I r h;have⟨p,ys,rfl,hq,q⟩:=h;have⟨u,rfl,rx⟩:=kU r;cases rx
 have fin:∀(its:List Value),aF ys its->ys.length<=sizeLine->∀(h':Heap) (c':Nat),(∀b o',s.heap.get? b=some o'->h'.get? b=some o')->
   h'.get? s.heap.objs.size=some {cls:=.type "list",dict:=none,data:=.seq its.toArray c',slots:= #[]}->EP X ζ σ Q (.ref s.heap.objs.size) {s with heap:=h'}:=λits r' hz h' c' kp e=>
  ⟨.ref s.heap.objs.size,_,I.laid (t':=s.toks) kp (aan _) (show cn X.prog X.w _ h' _ (.lst ys) from⟨hz,its,c',r',e⟩),rfl,q _ (I.aS.fresh (aan _))⟩
 rcases hq with hq| hq
 ·have⟨its,r',pl,hz⟩:=I.list hq;have hlen:=r'.length;have⟨o,ho,hc,n,hd⟩:=pl.isList;exact call_list_seq p (.inl rfl) ho hc hd (λh' c' kp e=>fin its r' hz h' c' kp e) (by simp only[List.size_toArray] <;> omega)
 ·have⟨its,r',pl,hz⟩:=I.tuple hq;have hlen:=r'.length;have⟨o,ho,hc,n,hd⟩:=pl;exact call_list_seq p (.inr rfl) ho hc hd (λh' c' kp e=>fin its r' hz h' c' kp e) (by simp only[List.size_toArray] <;> omega)
def tyV(K:fI)(T:String)(x:V)(H:Hp):Prop:=match x with
 |.str _=>T="str"
 |.int _=>T="int"
 | .ref p=>(T="list"/\∃xs,gK K H p xs)\/(T="tuple"/\∃o,K.lookup p=some o/\o.cls= .type "tuple"/\o.dict=none)\/
   (T="dict"/\((∃Κ,H p=some (.dK Κ))\/∃Κ,H p=some (.dT Κ)))\/(T="set"/\∃S n,H p=some (.set S n))
 |_=>False
def Pq{σ:St}{H:Hp}{T:String}{x:V}{v:Value}(I:Inv X ζ σ H s)(r:aA x v)(ty:tyV X.K T x H):
  s.TypeIs v T/\∀a,v= .ref a->∃ob,s.heap.get? a=some ob/\ob.dict=none:=by
 cases x with
 |str z=>
  have⟨t,rfl⟩:=r;cases(show T="str" from ty);exact⟨typeIs_str s z t,λ_ e=>nomatch e⟩
 |int i=>
  have⟨t,rfl⟩:=r;cases(show T="int" from ty);exact⟨typeIs_int s i t,λ_ e=>nomatch e⟩
 |ref p=>
  cases r;rcases ty with ⟨rfl,xs,hq⟩| ⟨rfl,o,hk,hc,hd⟩| ⟨rfl,hk⟩| ⟨rfl,S,n,hk⟩
  ·have⟨its,_,pl,_⟩:=I.list hq;refine⟨pl.isList.typeIs,λa e=>?_⟩;cases e;have⟨o,n,e,c,hd,_⟩:=pl;exact⟨o,e,hd⟩
  ·refine⟨⟨o,I.qa p o hk,hc⟩,λa e=>?_⟩;cases e;exact⟨o,I.qa _ o hk,hd⟩
  ·have z:∃o,s.heap.get? p=some o/\o.ExactDict:=by
    rcases hk with ⟨Κ,hk⟩| ⟨Κ,hk⟩
    ·have⟨_,_,_,_,o,_,_,e,ex,_⟩:=I.aS p _ hk;exact⟨o,e,ex⟩
    ·have⟨_,_,_,_,o,_,_,e,ex,_⟩:=I.aS p _ hk;exact⟨o,e,ex⟩
   have⟨o,e,ex⟩:=z;refine⟨⟨o,e,ex.1⟩,λa e2=>?_⟩;cases e2;exact⟨o,e,ex.2.1⟩
  ·have⟨o,_,_,_,e,ex,_⟩:=I.aS p _ hk;refine⟨⟨o,e,ex.1⟩,λa e2=>?_⟩;cases e2;exact⟨o,e,ex.2.1⟩
 |_=>exact False.elim ty
def tBM(K:fI)(T:String)(r:V->List V->Hp->VK->Prop)(to:TE)(t:TA):TE:=λσ H Q=>to σ H λx H1=>tyV K T x H1/\t σ H1 λxs H2=>r x xs H2 Q
variable{o e:Expr}{es:List Expr}{to:TE}{t:TA}{name:Str}{apos cD:Pos}{T id:String}{r:V->List V->Hp->VK->Prop}
def SI(pa:PlainAttrs T)(slot:Slot T name id)(hty:typeOf (.builtin id)=pure (.type "method_descriptor"))(hm:MtR X id r)(ho:PE X o to)(ha:PA X (e::es) t)
  (Jv:attributeBase o name X.env (eval o X.env)=eval o X.env:=by rfl)
  (Qd:((backTo cD (starEach (e::es) X.env)).all (λx=> !x.1)&&(backToKw cD (keywordEach [] X.env)).all (λx=>x.1.isSome)
   &&decide ((e::es).length+([]:List Keyword).length+(if ([]:List Keyword).isEmpty then 0 else 1)<30))=true:=by rfl)
  (KN:(apos.endLine==cD.line)=true:=by rfl) (hs:starEach (e::es) X.env=(false,eval e X.env)::starEach es X.env:=by rfl) (BA:(backTo cD (starEach es X.env)).any (·.1)=false:=by rfl):
  PE X (.Call (.Attribute o name apos) (e::es) [] cD) (tBM X.K T r to t):=by
 intro ζ s σ H Q I h;refine wpAny_Call_method_late Jv Qd KN rfl (bJ (ho ζ s σ H _ I h) λv s1 xz=>?_);have⟨x,H1,I1,r1,ty,q1⟩:=xz;have⟨h1,h2⟩:=Pq I1 r1 ty;refine⟨T,id,pa,slot,hty,h1,h2,?_⟩;have hA:=ha cD ζ s1 σ H1 _ I1 q1;rw[hs]at hA⊢;refine Calls.callWith_builtin (by show(false|| (backTo cD (starEach es X.env)).any (·.1))=false;rw[BA] <;> rfl) (Calls.evalArgs_plain ?_);exact bJ hA λus s2 ⟨vs,H2,I2,r2,q2⟩=>hm ζ s2 σ H2 x vs v us Q I2 r1 r2 q2
end
def MtM(X:Cx)(id:String)(r:V->List V->Hp->VK->Prop):Prop:=
 ∀(ζ:List (Addr×Obj)) (s:Shared) (σ:St) (H:Hp) (x:V) (xs:List V) (v:Value) (us:List Value) (Q:VK),Inv X ζ σ H s->aA x v->aF xs us->r x xs H Q->
  wpAny (model X.prog X.w) X.A (call (.builtin id) (v::us)) (EP X ζ σ Q) X.xe s
def aF.one:∀{x:V}{us:List Value},aF [x] us->∃u,us=[u]/\aA x u
 |_,_,.cons r .nil=>⟨_,rfl,r⟩
def aF.rep{xs:List V}{us:List Value}(h:aF xs us):∀k:Nat,aF (List.replicate k xs).flatten (List.replicate k us).flatten
 |0=>.nil
 |k+1=>by rw[abo,abo,abH,abH];exact aF.append h (aF.rep h k)
def vZ(its:List Value):∀(k:Nat) (Η:List Value),
  List.foldl (λx1 x2=>x1++x2) Η.toArray (List.replicate k its.toArray)=(Η++(List.replicate k its).flatten).toArray
 |0,Η=>by simp
 |k+1,Η=>by
  have e:Η.toArray++its.toArray=(Η++its).toArray:=by simp
  have e2:(Η++its)++(List.replicate k its).flatten=Η++(List.replicate (k+1) its).flatten:=by rw[abo,abH,abb]
  rw[<-e2,<-vZ its k (Η++its),<-e,abo,abE]
section
variable{σ:St}{H:Hp}{l b:Addr}{xs ys zs:List V}
def Inv.WC{its':List Value}{f:Array Value->Array Value}{t':Nat}(I:Inv X ζ σ H s)(hH:H l=some (.lst xs))
  (e:s.heap.get? l=some {cls:=.type "list",data:=.seq its.toArray n}) (hf:f its.toArray=its'.toArray) (hv:aF ys its') (hz:ys.length<=sizeLine):
  Inv X ζ σ (upd H l (.lst ys)) {s with heap:=s.heap.update l (Obj.mapSeq f),toks:=t'}:=by
 have q:=PySem.IsL.update e f;rw[hf]at q;refine I.write (x:=l) (e:=l) (by rw[hH];exact trivial) (.inl rfl) (λb' u hb hu=>(Heap.get?_update_other s.heap (Obj.mapSeq f) (Ne.symm hb)).trans hu) ⟨_,q⟩ ?_;exact⟨hz,its',_,hv,q⟩
def Inv.PV{t':Nat}(I:Inv X ζ σ H s)(hv:aF ys its)(hz:ys.length<=sizeLine):
  Inv X ζ σ (upd H s.heap.objs.size (.lst ys)) {s with heap:=s.heap.push {cls:=.type "list",data:=.seq its.toArray},toks:=t'}:=
 I.laid (λ_ _ q=>aal _ q) (aan _) ⟨hz,its,0,hv,aaS _ rfl⟩
def Inv.fresh(I:Inv X ζ σ H s):H s.heap.objs.size=none:=I.aS.fresh (aan _)
def Inv.M9(I:Inv X ζ σ H s)(hH:H l=some (.lst xs)):xs.length<=sizeLine/\∃(its:List Value) (n:Nat),aF xs its/\xs.length=its.length/\s.heap.get? l=some {cls:=.type "list",data:=.seq its.toArray n}:=by have⟨z,its,n,r,e⟩:=I.aS l _ hH;exact⟨z,its,n,r,r.length,e⟩
def Iw(h:n<=sizeLine):Builtin.List.listTooLong n=false:=by unfold Builtin.List.listTooLong;exact aaJ ()
end
section
def Eg:V->List V->Hp->VK->Prop:=λx vs H Q=>∃l xs y,x= .ref l/\vs=[y]/\H l=some (.lst xs)/\xs.length<sizeLine/\Q .bj (upd H l (.lst (xs++[y])))
def vO:MtM X "list.append" Eg:=by intro ζ s σ H x vs v us Q I rx rv h;have⟨l,xs,y,rfl,rfl,hH,hz,q⟩:=h;cases rx;have⟨u,rfl,ru⟩:=rv.one;have⟨z,its,n,r,hl,e⟩:=I.M9 hH;refine call_meets F.slot_list_append ⟨_,e,rfl⟩ F.entry_list_append (F.args_list_append_2 _ _) (PySem.list_append l its.toArray n u (by rw[aay];omega)) ⟨e,?_⟩;refine⟨.bj,_,I.WC (its':=its++[u]) hH e (by simp) (r.append (.cons ru .nil)) ?_,rfl,q⟩;rw[aah,List.length_singleton];omega
def Q6:R2:=λx y H Q=>∃l b xs zs,x= .ref l/\y= .ref b/\H l=some (.lst xs)/\H b=some (.lst zs)/\xs.length+zs.length<=sizeLine/\∀p,H p=none->Q (.ref p) (upd H p (.lst (xs++zs)))
def HQ:jo X (binaryOp .Add) Q6:=by
 intro ζ s σ H x y v u Q I rx ry h;have⟨l,b,xs,zs,rfl,rfl,hH,hB,hz,q⟩:=h;cases rx;cases ry;have⟨z,its,n,r,hl,e⟩:=I.M9 hH;have⟨z2,Io,n2,r2,GU,e2⟩:=I.M9 hB;refine PySem.P.add_list e e2 ?_ (by rw[aay,aay];omega);have ea:its.toArray++Io.toArray=(its++Io).toArray:=by simp
 rw[ea];exact⟨.ref _,_,I.PV (t':=s.toks) (r.append r2) (by rw[aah];omega),rfl,q _ I.fresh⟩
def QP:R2:=λx y H Q=>∃l k xs,x= .ref l/\y= .int k/\H l=some (.lst xs)/\ -(2^63)<=k/\k<2^63/\xs.length*k.toNat<=sizeLine/\
 ∀p,H p=none->Q (.ref p) (upd H p (.lst (List.replicate k.toNat xs).flatten))
def NJ{α:Type}(xs:List α)(k:Nat):(List.replicate k xs).flatten.length=k*xs.length:=by
 induction k with
 |zero=>simp
 |succ k ih=>rw[abo,abH,aah,ih,Nat.succ_mul,Nat.add_comm]
def HC:jo X (binaryOp .Mult) QP:=by
 intro ζ s σ H x y v u Q I rx ry h;have⟨l,k,xs,rfl,rfl,hH,h1,h2,hz,q⟩:=h;cases rx;have⟨t,rfl⟩:=ry;have⟨z,its,n,r,hl,e⟩:=I.M9 hH;have hlen:its.toArray.size*k.toNat<=sizeLine:=by rw[aay,<-hl];exact hz
 have Xg:¬its.toArray.size*k.toNat > (2^63-1)/8:=by
  have:(sizeLine:Nat)<=(2^63-1)/8:=@_
  omega
 have LA:¬(!Builtin.List.listFitsIndex k)=true:=by rw[fitsIndex_both h1 h2];exact aaF
 have Tp:¬Builtin.List.listTooLong (its.toArray.size*k.toNat)=true:=by rw[Iw hlen];exact aaF
 have Yi:List.foldl (λx1 x2=>x1++x2) #[] (List.replicate (if its.toArray.isEmpty=true then 0 else k.toNat) its.toArray)=(List.replicate k.toNat its).flatten.toArray:=by
  have f0:∀m:Nat,List.foldl (λx1 x2=>x1++x2) #[] (List.replicate m its.toArray)=(List.replicate m its).flatten.toArray:=λm=>by have:=vZ its m [];rw[aaW]at this;exact this
  rw[f0];cases its with
  |nil=>simp
  |cons a r'=>rw[if_neg (by simp)]
 refine wpAny_binaryOp_repeat_ref (T:="list") (U:="int") @_ ⟨_,e,rfl⟩ (λs'=>typeIs_int s' k t) noFill_list_mul F.fills_int_mul F.slot_int_rmul repeat_list F.slot_int_index.lookup
  (call_meets F.slot_int_rmul (typeIs_int s k t) F.entry_int_rmul (F.args_int_rmul_2 _ _) (int___rmul___int_list k t l its.toArray n)
   ⟨e,rfl,⟨_,e,rfl⟩,call_meets F.slot_list_mul ⟨_,e,rfl⟩ F.entry_list_mul (F.args_list_mul_2 _ _) (AutoListH.list___mul___list_int_3 l its.toArray n k t LA Xg Tp) ⟨e,?_⟩⟩)
 rw[Yi];exact⟨.ref _,_,I.PV (t':=s.toks) (r.rep k.toNat) (by rw[NJ,Nat.mul_comm];exact hz),rfl,q _ I.fresh⟩
end
end L2
namespace Att
open PySem PySem.W PySem.Calls PyProof.Rows
def qw{P:Params}{h:Heap}:∀(ns:List Int) (vs:List Value),WellAll P h vs (ns.map WData.int)->IntsAre vs ns:=by
 intro ns
 induction ns with
 |nil=>
  intro vs w;rw[List.map_nil]at w;cases w;exact .nil
 |cons n ns ih=>
  intro vs w;rw[aaH]at w;cases w with
  |cons a b=>
   cases a;exact .cons _ _ (ih _ b)
def GS{l:OpenLaw}{n:Nat}(hn:l.most=some n){P:Params}{h:Heap}{args:List WData}{vals:List Value}
  (L_:l.row.toRowW.claim.pre args=true) (XO:WellAll P h vals args):
  ∃a vs ns,vals=[Value.ref a]/\args=[WData.list (ns.map WData.int)]/\h.get? a=some {cls:=.type "list",data:=.seq vs.toArray}/\IntsAre vs ns/\ns.length<=n:=by
 have hsh:WShape.hasAll [] args [.list .int]=true:=(pre_splitW L_).1;have hc:l.pre.holds [] {args:=args}=true:=(pre_splitW L_).2;have⟨d,r,rfl,h1,h2⟩:=hasAllW_cons hsh;obtain rfl:=hasAllW_nil h2;have⟨xs,rfl,h3⟩:=hasW_list h1;have⟨ns,rfl⟩:=items_int h3;have hlen:ns.length<=n:=by
  unfold OpenLaw.pre at hc;have h4:(WTm.not (.lt (.lit (.int (n:Int))) (.len (.arg 0)))).holds [] {args:=[.list (ns.map .int)]}=true:=by have h4:=(holds_andW hc).1;rw[hn]at h4;exact h4
  have h5:=condW_of h4 (w_not (w_lt w_lit (w_len_list (w_arg rfl))));rw[aac]at h5;refine Nat.le_of_not_lt λq=>?_;have q':(n:Int)<((ns.length:Nat):Int):=()
  first
   |(rw[aaD q']at h5;exact aaL h5 @_)
   |(simp at h5;omega)
 cases XO with
 |cons w1 w2=>
  cases w2;cases w1 with
  |list ho za=>exact⟨_,_,ns,rfl,rfl,ho,qw ns _ za,hlen⟩
def GL(l:OpenLaw)(args:List WData):l.row.toRowW.claim.post args (.bool true) args=true:=
 postW_of (r:=l.row.toRowW) (X:=(true==true))
  (show WShape.has [] (.bool true) .bool=true by first| rfl| decide| simp[WShape.has,WShape.arms,WShape.armsAll])
  (show(WTm.eq .res (.lit (.bool true))).value [] {args:=args,res:=some (.bool true),after:=args}=some (.bool (true==true)) from w_eq_bool (w_res rfl) w_lit) rfl
def zL{l:OpenLaw}{n:Nat}{q:Program}{loose:List Str}{XP:(Str->Option Value)->Heap->Prop}{YP:World->Heap->Prop}{d:DefRec}
  (hn:l.most=some n) (Vq:d.params.defaults=[])
  (call:∀(w:World) (s₀ s₁:Shared) (mg mb:Str->Option Value) (fa:Addr) (o:Obj) (pm cd doc:Value) (a:Addr) (vs:List Value) (ns:List Int),
   Ground q loose [] XP w s₀ mg mb s₁.heap->YP w s₁.heap->
   s₁.heap.get? fa=some o->o.data= .func (docDef d.name d.params d.body d.scope pm cd doc)->s₁.heap.CodeRec cd d.name->mg d.name=some (.ref fa)->
   s₁.heap.get? a=some {cls:=.type "list",data:=.seq vs.toArray}->IntsAre vs ns->ns.length<=n->s₁.gens= #[]->
   codeAny (model l.prog w) callerA (.call (.ref fa) ⟨[.ref a],[]⟩) (λr s'=>r= .ok (.ret (.bool true))/\OldK s₁.heap s'.heap/\s'.os=s₁.os/\AllBare s'.gens) s₁):
  WalkO q loose XP YP l.row.toRowW d [] (λf vs=>PySem.call f vs):=by
 intro w s₀ s₁ mg mb G Y fa o pm cd doc dV kV ho hd K9 hD LC hg args vals as L_ abD hrd XO hlo;obtain rfl:dV= .none:=Dflts.none hD Vq;obtain rfl:kV= .none:=Dflts.noKw hD;have⟨a,vs,ns,rfl,rfl,ON,hints,hlen⟩:=GS hn L_ XO;refine enter_call (codeAny_mono (call w s₀ s₁ mg mb fa o pm cd doc a vs ns G Y ho (fd_plain hd) K9 LC ON hints hlen hg) λr s' hq=>?_);have⟨rfl,h2,h3,h4⟩:=hq;exact⟨.inl ⟨.bool true,.bool true,[],rfl,λ_=>rfl,.bool true,GL l _,λ_=>⟨List.Pairwise.nil,λ_ hm=>(nomatch hm)⟩⟩,h2,h3,h4⟩
end Att
namespace L2
open PySem PySem.Spec PyProof.Rows
def vv:∀{vs:List Value}{ns:List Int},IntsAre vs ns->aF (ns.map V.int) vs
 |_,_,.nil=>.nil
 |_,_,.cons n t h=>.cons ⟨t,rfl⟩ (vv h)
def Qb(H:Hp):Prop:=∀b,H b=none\/∃o xs,H b=some (.vC o (.lst xs))
def Kf{P:Program}{w:World}{K:fI}{mg mb:Str->Option Value}{CX:A0}{k:Nat}{fa a:Addr}{fd:FuncData}{x:Str}{sp:Sp}{s₁:Shared}{vs:List Value}{ns:List Int}
  (KX:K.In s₁.heap) (hns:s₁.heap.Ns mainGlobals mg) (hb:s₁.heap.Ns builtinsNs mb) (hbb:∀x:Str,x≠"__name__"->mb x=bootBuiltins x) (W7:s₁.heap.NoLimit) (hg:s₁.gens= #[])
  (ha:s₁.heap.get? a=some {cls:=.type "list",data:=.seq vs.toArray}) (hi:IntsAre vs ns) (hl:ns.length<=sizeLine) (hr:bT k callerA)
  (F:∀base:Heap,K.In base->base.Ns mainGlobals mg->av P w K mg base CX k fa fd [x] sp) (R0:∀(s:Shared) (u:Value),BindsTo s fd ⟨[u],[]⟩ [(x,u)])
  (Og:∀H:Hp,Qb H->gK K H a (ns.map V.int)->sp [.ref a] H (λv _=>v= .bl true) λ_ _ _=>False)
  (Wu:∀H e s',CX [] H s₁ (λ_ _ _=>False) e s'->False):
  codeAny (model P w) callerA (.call (.ref fa) ⟨[.ref a],[]⟩) (λr s'=>r= .ok (.ret (.bool true))/\OldK s₁.heap s'.heap/\s'.os=s₁.os/\AllBare s'.gens) s₁:=by
 have rv:=vv hi;have Zi:=hi.length
 have core:∀H:Hp,Qb H->gK K H a (ns.map V.int)->lD P w H s₁.heap->(∀b,H b≠none->b=a)->(H a≠none->K.lookup a=none)->
   codeAny (model P w) callerA (.call (.ref fa) ⟨[.ref a],[]⟩) (λr s'=>r= .ok (.ret (.bool true))/\OldK s₁.heap s'.heap/\s'.os=s₁.os/\AllBare s'.gens) s₁:=by
  intro H hO hS aS hA hK;have Dp:∀{b:Addr} {o:Obj},s₁.heap.get? b=some o->H b=none->(xM s₁.heap H).get? b=some o:=λe n=>J8 e n;have Tf:∀{b:Addr} {o:Obj} {es:Array DictEntry} {ep:Nat},s₁.heap.get? b=some o->o.data= .dict es ep->H b=none:=λ{b o es ep} e d=>by
   cases q:H b with
   |none=>rfl
   |some u=>
    have e':b=a:=hA b (by rw[q];simp);subst e';rw[ha]at e;cases e;have d':Data.seq vs.toArray _=Data.dict es ep:=d;cases d'
  have VU:∀{b:Addr} {m:Str->Option Value},s₁.heap.Ns b m->(xM s₁.heap H).Ns b m:=λ{b m} ⟨o,es,ep,e,d,r⟩=>⟨o,es,ep,Dp e (Tf e d),d,r⟩
  have hKb:K.In (xM s₁.heap H):=λb o e=>Dp (KX b o e) (by
   cases q:H b with
   |none=>rfl
   |some u=>
    have e':b=a:=hA b (by rw[q];simp);subst e'
    rw[hK (by rw[q];simp)]at e;cases e)
  have hM:Mod K mg (xM s₁.heap H):=⟨hKb,VU hns,⟨mb,VU hb,hbb⟩,let ⟨mc,h1,h2⟩:=W7;⟨mc,VU h1,h2⟩⟩;have e0:C3 P w K mg (xM s₁.heap H) callerA [] s₁ H:=⟨rfl,hM,λb o e=>ND e,Nat.le_of_eq (GJ _ _),trivial,λb hb=>absurd (show b∈([]:List Addr) from hb) (by simp),aS,.of_eq hg⟩;refine codeAny_mono ((F _ hKb (VU hns)).run callerA [] s₁ H ⟨[.ref a],[]⟩ [.ref a] [.ref a] _ _ hr e0 (R0 s₁ (.ref a)) (.cons rfl .nil) (Og H hO hS)) λr s' h=>?_;cases r with
  |error e=>exact(Wu H e s' h).elim
  |ok fl=>
   cases fl with
   |next=>exact False.elim h
   |brk=>exact False.elim h
   |cont=>exact False.elim h
   |ret u=>
    have⟨v,H',os,bare,un,YI,r',q⟩:=h;have q':v= .bl true:=q;subst q';obtain rfl:u=Value.bool true:=r';refine⟨rfl,OldK.of_keep λb o e=>?_,os,bare⟩;cases q:H b with
    |none=>exact un.keep b o e q (by intro z;exact absurd (show b∈([]:List Addr) from z) (by simp)) (by simp)
    |some u=>
     rcases hO b with z| ⟨ob,xs,z⟩
     ·rw[q]at z;cases z
     ·have z2:=un.oJ b ob _ z;have⟨e1,_⟩:=aS b _ z;have⟨e2,_⟩:=YI b _ z2;rw[e]at e1;cases e1;exact e2
 cases hk:K.lookup a with
 |some o=>
  have e:=KX a o hk;rw[ha]at e;cases e;refine core (λ_=>none) (λ_=>.inl rfl) (.inr ⟨_,vs.toArray,_,hk,rfl,rfl,rfl,by rw[List.size_toArray,Zi];exact hl,by simpa using rv⟩) (λb u z=>by have z':(none:Option HO)=some u:=z;cases z') (λb z=>absurd rfl z) λz=>absurd rfl z
 |none=>
  refine core (λb=>if b=a then some (.vC {cls:=.type "list",data:=.seq vs.toArray} (.lst (ns.map V.int))) else none) (λb=>?_) (.inl (.inr ⟨{cls:=.type "list",data:=.seq vs.toArray},aax rfl⟩)) (λb u z=>?_) (λb z=>?_) λ_=>hk
  ·by_cases hb:b=a
   ·exact .inr ⟨_,_,aax hb⟩
   ·exact .inl (aaw hb)
  ·by_cases hb:b=a
   ·have z':=(aax hb).symm.trans z;cases z';subst hb;exact⟨ha,by rw[aac];exact hl,vs,_,rv,ha⟩
   ·have z':=(aaw hb).symm.trans z;cases z'
  ·by_cases hb:b=a
   ·exact hb
   ·exact aaL (aaw hb) z
def xW{l:PySem.W.OpenLaw}{n k:Nat}{q:Program}{loose:List Str}{XP:(Str->Option Value)->Heap->Prop}{YP:World->Heap->Prop}{d:DefRec}{K:Params->fI}{CX:World->A0}{sp:World->Sp}{x:Str}
  (hn:l.most=some n) (VO:n<=sizeLine) (Vq:d.params.defaults=[]) (hr:bT k callerA)
  (hY:∀(w:World) (h:Heap),YP w h->(K w.params).In h)
  (F:∀(w:World) (mg:Str->Option Value) (fa:Addr) (h:Heap),(K w.params).In h->h.Ns mainGlobals mg->mg d.name=some (.ref fa)->
   ∃fd:FuncData,(∀(s:Shared) (u:Value),BindsTo s fd ⟨[u],[]⟩ [(x,u)])/\
    ∀base:Heap,(K w.params).In base->base.Ns mainGlobals mg->av l.prog w (K w.params) mg base (CX w) k fa fd [x] (sp w))
  (Og:∀(w:World) (H:Hp) (a:Addr) (ns:List Int),ns.length<=n->Qb H->gK (K w.params) H a (ns.map V.int)->sp w [.ref a] H (λv _=>v= .bl true) λ_ _ _=>False)
  (Wu:∀(w:World) (H:Hp) (s:Shared) (e:Value) (s':Shared),CX w [] H s (λ_ _ _=>False) e s'->False):
  PySem.W.WalkO q loose XP YP l.row.toRowW d [] (λf vs=>PySem.call f vs):=by
 refine Att.zL hn Vq λw s₀ s₁ mg mb fa o pm cd doc a vs ns G Y ho hd K9 LC ON hints hlen hg=>?_;have KX:=hY w _ Y;have⟨fd,hb,hF⟩:=F w mg fa _ KX G.T.g LC;exact Kf KX G.T.g G.T.b G.T.builtins G.T.nolimit hg ON hints (aaE hlen VO) hr hF hb (λH hO hS=>Og w H a ns hlen hO hS) λH e s'=>Wu w H s₁ e s'
end L2
/- THE Xj Mg (shape;LID,My.* are TH):
  My.Adr:a structure of Mv addresses ZO Xi Ux names (classes,Gn);My.Txt K t:a structure (Prop) of Mv equations qF K;
  My.Ct:{K} {implicit addresses ..} (e1:nsIn K mainGlobals "law"=some (some (.ref f))) (e2:K.lookup f=some ⟨oc,od,.func (fnOf "law" "law" params body scope dV kV doc pm an bz ct),sl⟩) (e3:codeIn K bz "law"=true) .. :∃t,My.Txt K t
set_option maxRecDepth 100000 in
set_option maxHeartbeats 0 in
def PySem.Challenge.cw_LID_holds : PySem.Challenge.rw_LID.Holds := by
 w_on;o_law;k_head;(case hw=>w_witness2)
 k_fill
 refine L2.xW (l:=PySem.Challenge.rw_LID) (n:=63) (k:=40) (x:="script") (CX:=fun w=>..) (sp:=fun _=>My.P2) rfl @_ rfl ⟨rfl,@_,@_⟩ (fun w h Y=>PySem.W.kIn_of Y) ?F ?S ?C
 case F=>
  intro w mg fa h KX G LC;have T:∃t,My.Txt (L2.YK KX) t:=by
   dsimp only[L2.YK]
   refine' My.Ct ?e1 ?e2 ?e3 ..
   (case e1=>PySem.W.k_is)
   (case e2=>PySem.W.k_is)
   ..
  have⟨t,T⟩:=T;have e0:=LC.symm.trans (PySem.W.mg_of KX G T.law);cases e0;exact⟨_,λs u=>.of_eq rfl,λbase kb nb=>My.BO T kb nb⟩
 case S=>exactλw H a ns hl hO hS=>..
 case C=>exact ..
(Mv tactic k_is has no namespace:write k_is) -/
namespace L2
open PySem PySem.Spec PyProof.Rows
variable{P:Program}{w:World}{mg:Str->Option Value}{base:Heap}{qual:Str}{st:Stmt}{f x:Addr}{fd:FuncData}{ps N xs ys:List Str}{A:Around}{s:Shared}{env:Env}{outer:List Env}{X:Cx}{ζ:List (Addr×Obj)}{scope:Scope}{af:List Nat}
def k8(s:Stmt):Arguments:=match s with
 |.FunctionDef _ a _ _ _ _ _ _ _ _=>a
 |_=>{posonlyargs:=[],args:=[],vararg:=none,kwonlyargs:=[],kw_defaults:=[],kwarg:=none,defaults:=[]}
def iC(s:Stmt):List Stmt:=match s with
 |.FunctionDef _ _ b _ _ _ _ _ _ _=>b
 |_=>[]
def ψ(s:Stmt):Scope:=match s with
 |.FunctionDef _ _ _ _ _ _ sc _ _ _=>sc
 |_=>{kind:=.function,names:=[],isGenerator:=false,isCoroutine:=false}
abbrev V7:A0:=λ_ _ _ _ _ _=>False
abbrev E0:XK:=λ_ _ _=>False
structure cZ(K:fI)(x qual:Str)(st:Stmt)(f:Addr)(fd:FuncData):Prop where
 ex:∃(oc:Value) (od:Option Addr) (kV doc pm:Value) (an:Option Addr) (bz ct:Value) (JB:Array (Option Value)),
  fd=PySem.W.fnOf x qual (k8 st) (iC st) (ψ st) .none kV doc pm an bz ct/\K.lookup f=some ⟨oc,od,.func fd,JB⟩/\PySem.W.codeIn K bz qual=true
 kp:PySem.W.keepIn K (.ref f)=true
section
variable{K:fI}
def cZ.binds{x:Str}(F:cZ K x qual st f fd)
  (h:∀(kV doc pm:Value) (an:Option Addr) (bz ct:Value) (us:List Value),us.length=ps.length->bindArgs (PySem.W.fnOf x qual (k8 st) (iC st) (ψ st) .none kV doc pm an bz ct) ⟨us,[]⟩=pure (ps.zip us)):jU K fd ps []:=by
 have⟨oc,od,kV,doc,pm,an,bz,ct,JB,rfl,lk,K9⟩:=F.ex;exact .all (h kV doc pm an bz ct)
def IG{x:Str}{oc:Value}{od an:Option Addr}{JB:Array (Option Value)}{kV doc pm bz ct:Value}(l:K.lookup f=some ⟨oc,od,.func (PySem.W.fnOf x qual (k8 st) (iC st) (ψ st) .none kV doc pm an bz ct),JB⟩)
  (c:PySem.W.codeIn K bz qual=true) (k:PySem.W.keepIn K (.ref f)=true):cZ K x qual st f (PySem.W.fnOf x qual (k8 st) (iC st) (ψ st) .none kV doc pm an bz ct):=⟨⟨oc,od,kV,doc,pm,an,bz,ct,JB,rfl,l,c⟩,k⟩
end
def vL{k:Nat}(hr:bT k A):A.units+1<cLine:=aaX (Nat.add_le_add_left (by decide:1<=64) _) hr.units
def EX{A B:Prop}(h:B):if false=true then A else B:=by rw[aaw aaF];exact h
def FI{A B:Prop}(h:A):if true=true then A else B:=by rw[aax rfl];exact h
def eD(H H':Hp):Prop:=∀b o,H b=some o->H' b=some o
def eD.refl(H:Hp):eD H H:=λ_ _ h=>h
def eD.trans{H H1 H2:Hp}(a:eD H H1)(b:eD H1 H2):eD H H2:=λc o h=>b c o (a c o h)
def eD.free{H H':Hp}(e:eD H H'){l:Addr}(h:H' l=Option.none):H l=Option.none:=by
 cases q:H l with
 |none=>rfl
 |some o=>
  rw[e l o q]at h;cases h
def eD.seq{K:fI}{H H':Hp}{a:Addr}{xs:List V}(e:eD H H')(h:gK K H a xs):gK K H' a xs:=by
 rcases h with (h| ⟨o,h⟩)|h
 ·exact .inl (.inl (e _ _ h))
 ·exact .inl (.inr ⟨o,e _ _ h⟩)
 ·exact .inr h
section
def LS(B:Heap)(l:List Env)(x:Addr)(o:Obj)(fl:Value)(h:Heap):Prop:=
 B.StaysIn h/\B.get? x=none/\h.FunFrames B l/\∃(vs:Array Value) (T:Addr) (oT:Obj) (ts:Array Value),h.get? x=some {o with data:=.fields vs}/\vs[2]? =some .none/\vs[1]? =some (.ref T)/\
  B.get? T=none/\T≠x/\h.get? T=some oT/\oT.data= .fields ts/\ts[3]? =some fl
section
variable{M:Model}{E:Value->Shared->Prop}{B:Heap}{l:List Env}{L:Addr}{o:Obj}{vs:Array Value}{Q:Unit->Shared->Prop}
def sU{h h':Heap}{T:Addr}{oT:Obj}{ts:Array Value}(hT:h.get? T=some oT)(hd:oT.data= .fields ts)(k:∀b,b≠T->h'.get? b=h.get? b):h.UpToSlots h':=λb ob e hn=>
 ⟨ob.slots,(k b λz=>by rw[z,hT]at e;cases e;exact hn _ hd).trans e⟩
def vY{h h':Heap}(hl:h.FunFrames B l)(u:h.UpToSlots h'):h'.FunFrames B l:=hl.of_keeps λb ob e hn=>by have⟨sl,q⟩:=u b ob e hn;exact⟨_,q,rfl⟩
def J1{head:Value}{VW:Bool}(XG:A.frames=some (env::outer))(hf:env.frame=some L)(hB:B.StaysIn s.heap)(hn:B.get? x=none)(hl:s.heap.FunFrames B (env::outer))(hx:s.heap.get? x=some {o with data:=.fields vs})(h1:1<vs.size)(h2:vs[2]? =some .none)
  (h:∀h',LS B (env::outer) x o (rawInt L) h'->s.heap.UpToSlots h'->Q Unit.unit {s with heap:=h'}):
  wpAny M A (do let a<-frameOf env;let pl<-entryPlaceOf L VW;let n<-EntryCells.newEntry head a .none (rawInt L) .none pl;setField (.ref x) 1 n) Q E s:=by
 refine aam (wpAny_frameOf_fun XG hl hf λg1 S1=>aam (wpAny_entryPlaceOf λpl gz=>?_));have nx:x∉(env::outer).filterMap (·.frame):=λz=>by have⟨_,ob,e,d⟩:=hl.mem z;rw[hx]at e;cases e;exact d _ rfl
 have hx1:g1.get? x=some {o with data:=.fields vs}:=(S1.2.1 x nx).trans hx;unfold EntryCells.newEntry newFields;refine aam (wpAny_newObj_type ?_ (gz.sizeOk5 _ _ _ _ _));have hx2:=aal (h:=g1) {cls:=.type "traceback",dict:=none,data:=.fields ([head,.ref L,.none,rawInt L,.none]++(if pl.isEmpty then List.replicate 6 Value.none else pl)).toArray} hx1;refine wpAny_setField hx2 rfl h1 (h _ ?_ ?_)
 ·have up1:∀b ob,b≠x->g1.get? b=some ob->((g1.push {cls:=.type "traceback",dict:=none,data:=.fields ([head,.ref L,.none,rawInt L,.none]++(if pl.isEmpty then List.replicate 6 Value.none else pl)).toArray}).update x (Obj.mapFields (·.setIfInBounds 1 (Value.ref g1.objs.size)))).get? b=some ob:=λb ob nb e=>
   (Heap.get?_update_other _ _ (Ne.symm nb)).trans (aal _ e)
  have neT:g1.objs.size≠x:=acz (aat hx1)
  refine⟨λb ob e=>up1 b ob (λz=>by rw[z,hn]at e;cases e) ((S1.2.1 b λz=>by rw[(hl.mem z).1]at e;cases e).trans (hB b ob e)),hn,hl.of_keeps λb ob e d=>?_,vs.setIfInBounds 1 (.ref g1.objs.size),g1.objs.size,_,_,Heap.get?_update_self _ hx2 rfl,by rw[Array.getElem?_setIfInBounds_ne @_];exact h2,by simp[h1],?_,neT,
   (Heap.get?_update_other _ _ (Ne.symm neT)).trans (aaS g1 rfl),rfl,?_⟩
  ·have⟨sl,q⟩:=S1.2.2 b ob e;exact⟨_,up1 b _ (λz=>by rw[z,hx]at e;cases e;exact d _ rfl) q,rfl⟩
  ·cases q:B.get? g1.objs.size with
   |none=>rfl
   |some ob=>
    have:=aat (hB _ _ q);rw[<-S1.1]at this;exact aaL this (abI _)
  ·first
    |(simp;done)
    |(rcases gz with rfl|⟨_,_,_,_,_,_,_,rfl⟩ <;> simp)
 ·intro b ob e d;have⟨sl,q⟩:=S1.2.2 b ob e;refine⟨sl,?_⟩;rw[Heap.get?_update_other _ _ (λz:x=b=>by rw[<-z,hx]at e;cases e;exact d _ rfl)];exact aal _ q
def Sg(XG:A.frames=some (env::outer))(hf:env.frame=some L)(R:LS B (env::outer) x o .none s.heap)
  (h:∀h',LS B (env::outer) x o (rawInt L) h'->s.heap.UpToSlots h'->Q Unit.unit {s with heap:=h'}):wpAny M A (noteFrame (.ref x) env) Q E s:=by
 have⟨hB,hn,hl,vs,T,oT,ts,hx,h2,h1,nT,V6,hT,dT,h3⟩:=R;unfold noteFrame;simp only[hf];refine aam (wpAny_field hx rfl h1 ?_);rw[if_pos (show(Value.ref T != Value.none)=true by simp)];refine aam (wpAny_field hT dT h3 ?_);rw[if_neg (show¬((Value.none==rawInt L)=true) by simp[rawInt])];refine aam (wpAny_setField hT dT (acb.mp h3).1 ?_);have Hb:∀b,b≠T->(s.heap.update T (Obj.mapFields (·.setIfInBounds 3 Value.none))).get? b=s.heap.get? b:=λb nb=>Heap.get?_update_other _ _ (Ne.symm nb);have u:=sU hT dT Hb;exact J1 XG hf (λb ob e=>(Hb b λz=>by rw[z,nT]at e;cases e).trans (hB b ob e)) hn (vY hl u) ((Hb x (Ne.symm V6)).trans hx) (acb.mp h1).1 h2 λh' F' u'=>h h' F' (u.trans u')
def L7{fl:Value}(R:LS B l x o fl s.heap)(h:∀h',LS B l x o .none h'->s.heap.UpToSlots h'->Q Unit.unit {s with heap:=h'}):wpAny M A (setFlight (.ref x) none) Q E s:=by have⟨hB,hn,hl,vs,T,oT,ts,hx,h2,h1,nT,V6,hT,dT,h3⟩:=R;unfold setFlight;refine aam (wpAny_field hx rfl h1 ?_);rw[if_pos (show(Value.ref T != Value.none)=true by simp)];have z3:=(acb.mp h3).1;have Hb:∀b,b≠T->(s.heap.update T (Obj.mapFields (·.setIfInBounds 3 ((none:Option Addr).elim Value.none λf=>rawInt f)))).get? b=s.heap.get? b:=λb nb=>Heap.get?_update_other _ _ (Ne.symm nb);have u:=sU hT dT Hb;refine wpAny_setField hT dT z3 (h _ ⟨λb ob e=>(Hb b λz=>by rw[z,nT]at e;cases e).trans (hB b ob e),hn,vY hl u,vs,T,_,_,(Hb x (Ne.symm V6)).trans hx,h2,h1,nT,V6,Heap.get?_update_self _ hT (Obj.isFreed_of_fields (Obj.data_mapFields dT _)),Obj.data_mapFields dT _,by simp[z3]⟩ u)
def OQ{fl:Value}{h:Heap}(R:LS B (env::outer) x o fl h):LS B outer x o fl h:=by have⟨hB,hn,⟨_,_,hl⟩,r⟩:=R;exact⟨hB,hn,hl,r⟩
end
structure Wk(P:Program)(w:World)(l:List Env)(H H':Hp)(h h' B:Heap)(x:Addr)(o:Obj):Prop where
 un:Un (qy l) [] H H' h h'
 ok:lD P w H' B
 Va:LS B l x o .none h'
 A1:∀b u,h.get? b=some u->H b=none->b∉qy l->B.get? b=some u
 Sx:∀b u,h.get? b=some u->b∉qy l->∃u',B.get? b=some u'
variable{l:List Env}{H H':Hp}{h h' VM B:Heap}{o:Obj}
end
def cC(P:Program)(w:World):A0:=λouter H s E e s'=>
 ∃x o H' B,e= .ref x/\s'.os=s.os/\AllBare s'.gens/\Wk P w outer H H' s.heap s'.heap B x o/\E o.cls o.dict H'
section
variable{σ:St}{H H':Hp}{VM B:Heap}{ox:Obj}
def Wk.leave(I:Inv X ζ σ H s)(hex:X.ex=[])(Qt:∀b∈qy X.outer,b∈qy X.stack)(ok:lD X.prog X.w H' B)(f:LS B X.outer x ox .none VM)(nx0:X.s₀.heap.get? x=none)
  (A1:∀b o,b≠x->s.heap.get? b=some o->H b=none->b∉qy X.stack->B.get? b=some o)
  (Sx:∀b o,b≠x->s.heap.get? b=some o->b∉qy X.stack->∃o',B.get? b=some o')
  (sl:∀b o,s.heap.get? b=some o->b∈qy X.stack->∃sl,VM.get? b=some {o with slots:=sl})
  (free:∀b o,s.heap.get? b=some o->H b=none->H' b=none)
  (qA:∀b xs,H b=some (.tup xs)->H' b=some (.tup xs)) (oJ:∀b o u,H b=some (.vC o u)->H' b=some (.vC o u))
  (qt:∀b ps,H b=some (.Nu ps)->∃more,H' b=some (.Nu (ps++more))):Wk X.prog X.w X.outer X.H₀ H' X.s₀.heap VM B x ox:=by
 have nX:∀b o,X.s₀.heap.get? b=some o->b≠x:=λb o e z=>by rw[z,nx0]at e;cases e
 have lS:∀b:Addr,b∉X.ex:=λb z=>by rw[hex]at z;cases z
 have nS:∀b o,X.s₀.heap.get? b=some o->b∉qy X.outer->b∉qy X.stack:=λb o e hb z=>
  (aaK.mp (I.wJ b z)).elim (λq=>aaT (aau (aat e) I.ok.above) q) hb
 refine⟨⟨λb o e n hb _=>?_,λb o e n hb _=>?_,λb o e n _=>?_,λb o e _=>?_,λb xs e=>qA b xs (I.base.qA b xs e),λb o u e=>oJ b o u (I.base.oJ b o u e),λb ps e=>?_⟩,ok,f,λb o e n hb=>?_,λb o e hb=>?_⟩
 ·exact f.1 b o (A1 b o (nX b o e) (I.base.keep b o e n hb (lS b)) (I.base.free b o e n (lS b)) (nS b o e hb))
 ·have⟨s1,e1⟩:=I.base.slot b o e n hb (lS b);have⟨s2,e2⟩:=sl b _ e1 (Qt b hb);exact⟨s2,e2⟩
 ·have⟨o',e1⟩:=I.base.there b o e (lS b);exact free b o' e1 (I.base.free b o e n (lS b))
 ·have⟨o',e1⟩:=I.base.there b o e (lS b);by_cases hb:b∈qy X.stack
  ·have⟨s2,e2⟩:=sl b _ e1 hb;exact⟨_,e2⟩
  ·have⟨o2,q⟩:=Sx b o' (nX b o e) e1 hb;exact⟨o2,f.1 _ _ q⟩
 ·have⟨m1,e1⟩:=I.base.qt b ps e;have⟨m2,e2⟩:=qt b _ e1;exact⟨m1++m2,by rw[e2,Array.append_assoc]⟩
 ·exact A1 b o (nX b o e) (I.base.keep b o e n hb (lS b)) (I.base.free b o e n (lS b)) (nS b o e hb)
 ·have⟨o',e1⟩:=I.base.there b o e (lS b);exact Sx b o' (nX b o e) e1 (nS b o e hb)
end
def d_(CX:A0)(X:Cx)(R:St->XK):Prop:=∀(ζ:List (Addr×Obj)) (σ:St) (H:Hp) (s:Shared) (e:Value) (s':Shared),Inv X ζ σ H s->CX X.stack H s (R σ) e s'->X.xe e s'
section
variable{K:fI}{cd:Value}{s₀:Shared}{H₀:Hp}{E:XK}
def L6:∀b∈qy outer,b∈qy (env::outer):=λb hb=>by have⟨en,he,hf⟩:=acr.mp hb;exact acr.mpr ⟨en,aad _ he,hf⟩
def ξ:d_ (cC P w) (xf (cC P w) P w K mg base N qual scope f cd A outer s₀ H₀ E) (λ_=>E):=by
 intro ζ σ H s e s' I hx;have⟨x,o,H',B,rfl,os,bare,F,hE⟩:=hx;show wpAny _ _ (do noteFrame (.ref x) _;setFlight (.ref x) none) _ _ s';refine aam (Sg (B:=B) I.ok.frames rfl F.Va λh4 f4 u4=>L7 f4 λh5 f5 u5=>?_);refine⟨x,o,H',B,rfl,os.trans I.os,bare,Wk.leave I rfl L6 F.ok (OQ f5) ?_ (λb o _=>F.A1 b o) (λb o _=>F.Sx b o) (λb o q hb=>?_) (λb o q n=>F.un.free b o q n (by simp)) F.un.qA F.un.oJ F.un.qt,hE⟩
 ·show s₀.heap.get? x=none;cases q:s₀.heap.get? x with
  |none=>rfl
  |some u=>
   have⟨u',e1⟩:=I.base.there x u q (λz=>nomatch z);by_cases hb:x∈qy (xf (cC P w) P w K mg base N qual scope f cd A outer s₀ H₀ E).stack
   ·have⟨vs,_,_,_,hxx,_⟩:=F.Va.2.2.2;have⟨_,o',Fu,hd⟩:=F.Va.2.2.1.mem hb;rw[hxx]at Fu;cases Fu;exact aaL rfl (hd _)
   ·have⟨u2,e2⟩:=F.Sx x u' e1 hb;rw[F.Va.2.1]at e2;cases e2
 ·have⟨sl,e1⟩:=F.un.slot b o q (I.x6 b hb) hb (by simp);have⟨_,o',Fu,hd⟩:=F.Va.2.2.1.mem hb;rw[e1]at Fu;cases Fu;have⟨Vz,e2⟩:=(u4.trans u5) b _ e1 hd;exact⟨Vz,e2⟩
end
def Rj(sp:Sp)(qU:List V)(R:St->XK)(t:TA):TE:=λσ H Q=>t σ H λvs H1=>sp (vs++qU) H1 Q (R σ)
section
variable{CX:A0}{k:Nat}{sp:Sp}{qU:List V}{ds:List Value}{R:St->XK}{x:Str}{p pos:Pos}{e:Expr}{es:List Expr}{t:TA}
def wa{σ:St}{H:Hp}{Q:VK}{us:List Value}{vs:List V}(F:av X.prog X.w X.K X.mg X.base CX k f fd ps sp)(hr:bT k X.A)(hb:jU X.K fd ps ds)(hd:aF qU ds)(hx:d_ CX X R)
  (I:Inv X ζ σ H s) (r:aF vs us) (h:sp (vs++qU) H Q (R σ)):wpAny (model X.prog X.w) X.A (call (.ref f) us) (EP X ζ σ Q) X.xe s:=by
 have r2:aF (vs++qU) (us++ds):=r.append hd;have hl:(us++ds).length=ps.length:=by rw[<-r2.length];exact F.len _ _ _ _ h
 refine wpAny_call (codeAny_mono (F.run X.A X.stack s H ⟨us,[]⟩ (us++ds) (vs++qU) Q (R σ) hr I.RY (hb s us I.qa hl) r2 h) λr s' hq=>?_);cases r with
 |error e=>exact hx ζ σ H s e s' I hq
 |ok fl=>
  cases fl with
  |ret u=>exact I.after hq
  |next=>exact False.elim hq
  |brk=>exact False.elim hq
  |cont=>exact False.elim hq
def JP(F:av X.prog X.w X.K X.mg X.base CX k f fd ps sp)(hr:bT k X.A)(hg:Gl X x)(hm:X.mg x=some (.ref f))(hk:PySem.W.keepIn X.K (.ref f)=true)(hb:jU X.K fd ps ds)(hd:aF qU ds)(hx:d_ CX X R)
  (ha:PA X (e::es) t) (oy:(x==("__debug__":Str))=false:=by decide) (he:starEach (e::es) X.env=(false,eval e X.env)::starEach es X.env:=by rfl) (gz:(backTo pos (starEach es X.env)).any (·.1)=false:=by rfl):
  PE X (.Call (.Name x p) (e::es) [] pos) (Rj sp qU R t):=by
 intro ζ s σ H Q I h;refine wpAny_Call_Name_kw (qG I hg hm ?_ oy);refine PySem.W.callWith_K (h₀:=X.base) I.ok.mod.UY hk (bJ (ha pos ζ s σ H _ I h) fun us s1 ⟨vs,H1,I1,r,q⟩=>⟨I1.qa,?_⟩) he gz;exact wa F hr hb hd hx I1 r q
end
def mf(env:Env):List (Str×NameKind)->List (Str×Addr)->List (Str×Addr)
 |[],Η=>Η
 |p::r,Η=>mf env r (if p.2== .free then (p.1,(env.cells.lookup p.1).getD 0)::Η else Η)
def se(h:∀p∈scope.names,p.2= .free->(env.cells.lookup p.1).isSome=true):closureFor scope env=pure (mf env scope.names []):=by
 have key:∀(l:List (Str×NameKind)) (Η:List (Str×Addr)),(∀p∈l,p.2= .free->(env.cells.lookup p.1).isSome=true)->
   (forIn l Η (λ(p:Str×NameKind) (r:List (Str×Addr))=>(if p.2== .free then (do let c<-cellOf env p.1;pure (ForInStep.yield ((p.1,c)::r))) else pure (ForInStep.yield r):Sem (ForInStep (List (Str×Addr))))))=(pure (mf env l Η):Sem (List (Str×Addr))):=by
  intro l
  induction l with
  |nil=>intro Η _;rfl
  |cons p r ih=>
   intro Η hp;rw[List.forIn_cons];have ih':=λa=>ih a λq hq=>hp q (aad _ hq);have⟨n,k⟩:=p;by_cases hk:k= .free
   ·subst hk;have hs:=hp (n,.free) aae rfl;cases hl:env.cells.lookup n with
    |none=>rw[show env.cells.lookup (n,NameKind.free).1=none from hl]at hs;cases hs
    |some c=>
     have e1:mf env ((n,.free)::r) Η=mf env r ((n,c)::Η):=by show mf env r (if (NameKind.free==NameKind.free)=true then (n,(env.cells.lookup n).getD 0)::Η else Η)=_;rw[aax @_,hl];rfl
     have e2:cellOf env n=pure c:=by unfold cellOf;rw[hl]
     rw[e1];have e3:(NameKind.free==NameKind.free)=true:=@_
     simp only[e3,if_true,e2,pure_bind];exact ih' _
   ·have hb:(k==NameKind.free)=false:=by simpa using hk
    have e1:mf env ((n,k)::r) Η=mf env r Η:=by show mf env r (if (k==NameKind.free)=true then (n,(env.cells.lookup n).getD 0)::Η else Η)=_;rw[hb,aaw @_]
    rw[e1];simp only[hb,Bool.false_eq_true,if_false,pure_bind];exact ih' _
 have:=key scope.names [] h;unfold closureFor
 first
  |exact this
  |(simp only[bind_pure];exact this)
  |(rw[bind_pure];exact this)
def uY{env:Env}{y:Str}{c:Addr}:∀(l:List (Str×NameKind)) (Η:List (Str×Addr)),(∀p∈l,p.2= .free->(env.cells.lookup p.1).isSome=true)->
  (Η.lookup y=some c->env.cells.lookup y=some c)->(mf env l Η).lookup y=some c->env.cells.lookup y=some c
 |[],Η,_,ha,h=>ha h
 |(n,k)::r,Η,hp,ha,h=>by
  refine uY r _ (λq hq=>hp q (aad _ hq)) (λe=>?_) h;split at e
  ·rename_i hk;rw[abv]at e;cases q:(y==n) with
   |true=>
    rw[q]at e;have e':(env.cells.lookup n).getD 0=c:=aar e;have hn:y=n:=by simpa using q
    subst hn;have hs:=hp (y,k) List.mem_cons_self (by simpa using hk);cases z:env.cells.lookup y with
    |none=>rw[show env.cells.lookup (y,k).1=none from z]at hs;cases hs
    |some d=>rw[z]at e';rw[<-e'];rfl
   |false=>rw[q]at e;exact ha e
  ·exact ha e
def sV{env:Env}{y:Str}:∀(l:List (Str×NameKind)) (Η:List (Str×Addr)),((y,NameKind.free)∈l\/(Η.lookup y).isSome=true)->((mf env l Η).lookup y).isSome=true
 |[],Η,h=>by
  rcases h with h|h
  ·cases h
  ·exact h
 |(n,k)::r,Η,h=>by
  refine sV r _ ?_;by_cases hy:y=n
  ·subst hy;by_cases hk:k= .free
   ·subst hk;right;show(List.lookup y (if (NameKind.free==NameKind.free)=true then (y,(env.cells.lookup y).getD 0)::Η else Η)).isSome=true;rw[aax @_,abv,beq_self_eq_true];rfl
   ·rcases h with h|h
    ·rcases aaK.mp h with z| z
     ·exact aaL (Prod.mk.inj z).2.symm hk
     ·exact .inl z
    ·right;rw[if_neg (by simpa using hk)];exact h
  ·rcases h with h|h
   ·rcases aaK.mp h with z| z
    ·exact aaL (Prod.mk.inj z).1 hy
    ·exact .inl z
   ·right;split
    ·rw[List.lookup_cons,show(y==n)=false by simpa using hy];exact h
    ·exact h
def Cx.comp(X:Cx)(Nc:List Str)(scope:Scope)(C:Addr)(s:Shared)(H:Hp)(fp:List Addr):Cx:={X with
 N:=Nc
 s₀:=s
 H₀:=H
 env:=compEnvC scope (mf X.env scope.names []) C X.env
 outer:=X.stack
 ex:=fp
 fn:=λ_=>false
 pn:=[]
 xe:=λ_ _=>False}
def Ε.of{P:List Str}{sc:Scope}(h:(sc.kind,sc.isCoroutine,sc.isGenerator)=(.function,false,false))(h2:N.Nodup/\N.take P.length=P/\(∀x∈P,sc.names.lookup x=some .local\/sc.names.lookup x=some .cell)/\(∀y∈sc.names,y.2≠ .free):=by decide+kernel):Ε N P sc:=by have⟨a,b,c,d⟩:=h2;exact⟨aa0 (·.1) h,aa0 (·.2.1) h,aa0 (·.2.2) h,a,b,c,d⟩
structure aL(X:Cx)(scope:Scope)(xs ys:List Str)(af:List Nat):Prop where
 kind:scope.kind= .function
 JH:∀p∈scope.names,p.2≠ .cell
 names:∀p∈scope.names,p.2= .local->scope.names.lookup p.1=some .local
 own:∀x∈xs,scope.names.lookup x=some .local
 free:∀p∈scope.names,p.2= .free->X.env.scope.names.lookup p.1=some .cell
 nd:(xs++ys).Nodup
 cap:∀q∈ys.zip af,X.N[q.2]? =some q.1/\X.env.scope.names.lookup q.1=some .cell/\scope.names.lookup q.1=some .free
 len:ys.length=af.length
def aL.of{sc:Scope}(_:Ε N ps sc)(hN:X.N=N)(hs:X.env.scope=sc)(k:scope.kind= .function)(h:(∀p∈scope.names,p.2≠ .cell)/\(∀p∈scope.names,p.2= .local->scope.names.lookup p.1=some .local)/\(∀x∈xs,scope.names.lookup x=some .local)/\(∀p∈scope.names,p.2= .free->sc.names.lookup p.1=some .cell)/\(xs++ys).Nodup/\(∀q∈ys.zip af,N[q.2]? =some q.1/\sc.names.lookup q.1=some .cell/\scope.names.lookup q.1=some .free)/\ys.length=af.length:=by decide+kernel):aL X scope xs ys af:=by subst hN hs;have⟨a,b,c,d,e,f,g⟩:=h;exact⟨k,a,b,c,d,e,f,g⟩
def K4{env:Env}{y:Str}:∀{l:List (Str×NameKind)},(∀p∈l,p.2≠ .cell)->
  ((l.map λ(n,k)=>if (k==NameKind.free&&env.scope.kind== .function&&env.kindOf n==some .cell) then (n,NameKind.cell) else (n,k)).lookup y=some .cell\/
   (l.map λ(n,k)=>if (k==NameKind.free&&env.scope.kind== .function&&env.kindOf n==some .cell) then (n,NameKind.cell) else (n,k)).lookup y=some .free)->(y,NameKind.free)∈l
 |[],_,h=>by rcases h with h|h <;> cases h
 |(n,k)::r,hc,h=>by
  have ih:=@K4 env y r (λp hp=>hc p (aad _ hp));rw[aaH]at h;by_cases q:(k==NameKind.free&&env.scope.kind== .function&&env.kindOf n==some .cell)=true
  ·have hk:k= .free:=by rw[aav,aav]at q;simpa using q.1.1
   subst hk;by_cases hy:y=n
   ·subst hy;exact aae
   ·refine aad _ (ih ?_);have hb:(y==n)=false:=by simpa using hy
    simp only[q,if_true,List.lookup_cons,hb]at h;exact h
  ·by_cases hy:y=n
   ·subst hy;have hb:(y==y)=true:=by simp
    simp only[q,Bool.false_eq_true,if_false,List.lookup_cons,hb]at h;rcases h with h|h
    ·exact aaL (aar h) (hc (y,k) aae)
    ·rw[<-aar h];exact aae
   ·refine aad _ (ih ?_);have hb:(y==n)=false:=by simpa using hy
    simp only[q,Bool.false_eq_true,if_false,List.lookup_cons,hb]at h;exact h
def z6{env:Env}{y:Str}(hk:env.scope.kind= .function)(hy:env.kindOf y=some .cell):∀{l:List (Str×NameKind)},l.lookup y=some .free->
  (l.map λ(n,k)=>if (k==NameKind.free&&env.scope.kind== .function&&env.kindOf n==some .cell) then (n,NameKind.cell) else (n,k)).lookup y=some .cell
 |[],h=>by cases h
 |(n,k)::r,h=>by
  have ih:=@z6 env y hk hy r;rw[aaH];rw[abv]at h;by_cases e:y=n
  ·subst e;have hb:(y==y)=true:=by simp
   rw[hb]at h;have:k= .free:=aar h;subst this;have q:(NameKind.free==NameKind.free&&env.scope.kind== .function&&env.kindOf y==some .cell)=true:=by rw[hk,hy];rfl
   simp only[q,if_true,List.lookup_cons,hb]
  ·have hb:(y==n)=false:=by simpa using e
   rw[hb]at h;by_cases q:(k==NameKind.free&&env.scope.kind== .function&&env.kindOf n==some .cell)=true
   ·simp only[q,if_true,List.lookup_cons,hb];exact ih h
   ·simp only[q,Bool.false_eq_true,if_false,List.lookup_cons,hb];exact ih h
def aL.has(S:aL X scope xs ys af)(ok:X.Ok):∀p∈scope.names,p.2= .free->(X.env.cells.lookup p.1).isSome=true:=λp hp hf=>by have⟨c,e⟩:=ok.has p.1 (.inl (S.free p hp hf));rw[e];rfl
def Iz{α β:Type}:∀{xs:List α}{ys:List β}{j:Nat}{x:α}{y:β},xs[j]? =some x->ys[j]? =some y->(x,y)∈xs.zip ys
 |x::xs,y::ys,0,_,_,h1,h2=>by cases h1;cases h2;exact aae
 |x::xs,y::ys,j+1,_,_,h1,h2=>aad _ (Iz (xs:=xs) (ys:=ys) (j:=j) h1 h2)
 |[],_,_,_,_,h1,_=>by simp at h1
 |_::_,[],_,_,_,_,h2=>by simp at h2
def oQ(af:List Nat)(σ:St):St:=af.map λi=>(σ[i]?).join
def v7(n:Nat)(gg:TG):Prop:=∀v (os cs:St) H (Q:St->Hp->Prop),os.length=n->gg v (os++cs) H Q->gg v (os++cs) H λσ' H'=>(∃VZ:St,VZ.length=n/\σ'=VZ++cs)/\Q σ' H'
def Cr(J:It)(n:Nat)(gg:TG)(tc:TT)(te:TE)(cs:St)(Q:VK)(H1:Hp)(D:Addr):Prop:=
 ∃W:Nat->Nat->List V->Hp->Prop,(∃m,W 0 m [] (upd H1 D (.lst [])))/\∀i m ys H2,W i m ys H2->H2 D=some (.lst ys)/\
  ((J.stop i H2/\Q (.ref D) H2)\/(J.go i H2/\∀x H3,J.TV i H2 x H3->∀os:St,os.length=n->gg x (os++cs) H3 λσ' H3'=>tc σ' H3' λb H4=>match b with
   |true=>te σ' H4 λy H5=>H5 D=some (.lst ys)/\ys.length<sizeLine/\∃m',m'<m/\W (i+1) m' (ys++[y]) (upd H5 D (.lst (ys++[y])))
   |false=>∃m',m'<m/\W (i+1) m' ys H4))
def Ka(wi:TI)(n:Nat)(gg:TG)(tc:TT)(te:TE)(af:List Nat):TE:=λσ H Q=>wi σ H λJ H1=>∀D,H1 D=none->Cr J n gg tc te (oQ af σ) Q H1 D
def ZH(cs:List Expr)(env:Env):Sem Bool:=match cs with
 |[]=>pure true
 |c::_=>isTrue c env (eval c env)
def Wd(X:Cx)(cs:List Expr)(t:TT):Prop:=
 (cs=[]\/∃c,cs=[c])/\∀(ζ:List (Addr×Obj)) (s:Shared) (σ:St) (H:Hp) (Q:Bool->Hp->Prop),Inv X ζ σ H s->t σ H Q->wpAny (model X.prog X.w) X.A (ZH cs X.env) (TP X ζ σ Q) X.xe s
def uW{elt target iter:Expr}{cs:List Expr}{scope:Scope}{pos:Pos}{it Η:Value}{env:Env}(h:cs=[]\/∃c,cs=[c]):
  compTurn (.ListComp elt [⟨target,iter,cs,0⟩] scope pos) 0 it Η env=(standAt iter.pos >>= λ_=>pyNext it >>= λr=>match r with
   |none=>pure (.done .next)
   |some v=>letOwnedTupleGo target it v >>= λ_=>assign target env v >>= λ_=>ZH cs env >>= λok=>
    (if ok=true then (eval elt env >>= λx=>call (.builtin "list.append") [Η,x] >>= λ_=>pure Unit.unit) >>= λ_=>again (.compLoop (.ListComp elt [⟨target,iter,cs,0⟩] scope pos) 0 it Η env)
     else again (.compLoop (.ListComp elt [⟨target,iter,cs,0⟩] scope pos) 0 it Η env))):=by
 rcases h with rfl| ⟨c,rfl⟩ <;> (unfold compTurn ZH;dsimp only[List.getElem?_cons_zero,List.getElem?_cons_succ,List.getElem?_nil];simp only[List.forIn_cons,List.forIn_nil,bind_assoc,pure_bind,if_true];rfl)
section
variable{elt iter tg:Expr}{cs:List Expr}{pos:Pos}{wi:TI}{gg:TG}{tc:TT}{te:TE}
def u6(S:aL X scope xs ys af)(hc:X.calm=true)(hg:∀C s H fp,PG (Cx.comp X (xs++ys) scope C s H fp) tg gg)(hk:v7 xs.length gg)(ht:∀C s H fp,Wd (Cx.comp X (xs++ys) scope C s H fp) cs tc)(he:∀C s H fp,PE (Cx.comp X (xs++ys) scope C s H fp) elt te)
   {σ:St} {H2:Hp} {s2:Shared} {it:Addr} {fp:List Addr} {tn:Nat->Heap->Prop} {J:It} {Q:V->Hp->Prop} {PQ:Value->Addr->Result->Shared->Prop} (I:Inv X ζ σ H2 s2) (T:Turn X.prog X.w X.K tg J fp it tn) (t0:tn 0 s2.heap) (f2:∀b∈fp,rY X ζ H2 b)
  (h:∀D,H2 D=none->Cr J xs.length gg tc te (oQ af σ) Q H2 D)
  (hPQ:∀D C s' H',Inv X ζ σ H' s'->Q (.ref D) H'->(∃m,s'.heap.Ns C m)->H' C=none->X.s₀.heap.objs.size<=C->C≠X.env.locals->(∀z c,X.env.cells.lookup z=some c->c≠C)->(∀p∈X.pn++ζ,p.1≠C)->PQ (.ref D) C (.ok .next) s'):
  wpAny (model X.prog X.w) X.A (newList []) (λΗ s3=>wpAny (model X.prog X.w) X.A (newFunctionEnv scope X.env.globals (mf X.env scope.names []) [] X.env.qual none .none (some X.env)) (λSy s4=>
   codeAny (model X.prog X.w) X.A (.compStart (.ListComp elt [⟨tg,iter,cs,0⟩] scope pos) 0 (.ref it) Η {Sy with scope:=relabel scope X.env}) (PQ Η Sy.locals) s4) X.xe s3) X.xe s2:=by
 have hD:H2 s2.heap.objs.size=none:=I.fresh;have⟨W,⟨m0,w0⟩,step⟩:=h _ hD;refine wpAny_newObj_type ?_;have I3:Inv X ζ σ (upd H2 s2.heap.objs.size (.lst [])) {s2 with heap:=s2.heap.push {cls:=.type "list",data:=.seq ([]:List Value).toArray}}:=Inv.PV (t':=s2.toks) I (ys:=[]) (its:=[]) .nil (ab9 _);generalize VA:upd H2 s2.heap.objs.size (.lst [])=H3 at I3 w0;generalize hs3:({s2 with heap:=s2.heap.push {cls:=.type "list",data:=.seq ([]:List Value).toArray}}:Shared)=s3 at I3;have WS:∀b∈fp,H3 b=none:=λb hb=>by have⟨o,e,_⟩:=T.obj _ _ t0 b hb;rw[<-VA,Μ (aaT (aat e))];exact(f2 b hb).1
 have t3:tn 0 s3.heap:=T.keep _ _ _ t0 λb hb o e=>by rw[<-hs3];exact aal _ e
 refine wpAny_newFunctionEnv S.JH (λy hy=>nomatch hy) (λh4 ns4 sb4=>?_) S.kind;have hC:H3 s3.heap.objs.size=none:=I3.fresh
 have kp:∀b o,s3.heap.get? b=some o->h4.get? b=some o:=λb o e=>
  (sb4.2 b (aaT (aat e))).trans (aal _ e)
 generalize Zd:({s3 with heap:=h4,toks:=s3.toks+([]:List (Str×Value)).length}:Shared)=s4;have e4:s4.heap=h4:=by rw[<-Zd]
 have NB:∀z c,X.env.cells.lookup z=some c->c≠s3.heap.objs.size:=λz c e q=>by have⟨v,w⟩:=I3.cell z c e;exact abI _ (q▸w.lt)
 have vj:∀z c,(mf X.env scope.names []).lookup z=some c->X.env.cells.lookup z=some c:=λz c e=>uY scope.names [] (S.has I.ok) (λq=>nomatch q) e;have Lne:s3.heap.objs.size≠X.env.locals:=acz I3.lt;have ok:(Cx.comp X (xs++ys) scope s3.heap.objs.size s3 H3 fp).Ok:=by
  refine⟨I3.ok.mod,S.kind,I3.ok.glob,I3.ok.blt,aan _,λz z' c e1 e2=>I3.ok.inj z z' c (vj z c e1) (vj z' c e2),λz hz=>?_,λz c hz=>(by cases hz),I3.ok.hd,I3.ok.frames,.inl rfl,λb hb=>⟨?_,λz c e=>?_⟩,I3.bs,?_,λb o e hb=>?_,λb hb hf=>?_,I3.stack,I3.x6⟩
  ·have:=sV (env:=X.env) scope.names [] (.inl (K4 S.JH hz));exact abz.mp this
  ·have⟨o,e,_⟩:=T.obj _ _ t3 b hb;exact aaT (aat e)
  ·exact(f2 b hb).2.2.2.2.1 z c (vj z c e)
  ·exact aaE I3.ok.x' I3.sz
  ·have⟨_,_,_,hy,_⟩:=f2 b hb;have e0:=(I3.ok.bs b o e).1;rcases hy with hy| hy
   ·exact I3.ok.QH b o e hy
   ·exact aaL (aau (aat e0) hy) (abI _)
  ·have⟨_,hl,hfs,_⟩:=f2 b hb;exact(aaK.mp (I3.wJ b hf)).elim hl hfs
 have hlen:((List.replicate xs.length (none:Option V))++oQ af σ).length=(xs++ys).length:=by rw[aah,aah,aa5,S.len];unfold oQ;rw[aac]
 have I4:Inv X ζ σ H3 s4:=by rw[<-Zd];exact I3.kept kp
 have Ic:Inv (Cx.comp X (xs++ys) scope s3.heap.objs.size s3 H3 fp) [] ((List.replicate xs.length (none:Option V))++oQ af σ) H3 s4:=by
  refine⟨ok,by rw[<-Zd];rfl,I4.bare,Un.kept (by rw[e4];exact kp),⟨_,by rw[e4];exact ns4,λi z v e1 e2 e3=>?_⟩,λz c e=>I4.cell z c (vj z c e),hC,λz c e=>I4.pW z c (vj z c e),(λp hp=>nomatch hp),I4.aS,hlen⟩;have e1:(xs++ys)[i]? =some z:=e1;by_cases hi:i<xs.length
  ·rw[aas (by rw[aa5];exact hi),ab3,aax hi]at e2;cases e2
  ·obtain⟨j,rfl⟩:∃j,i=xs.length+j:=⟨i-xs.length,()⟩;have e1:ys[j]? =some z:=by rw[aao (),abQ]at e1;exact e1
   have e2:(oQ af σ)[j]? =some (some v):=by rw[aao (by rw[aa5];omega),aa5,abQ]at e2;exact e2
   unfold oQ at e2;rw[aaq]at e2;cases hi:af[j]? with
   |none=>rw[hi]at e2;cases e2
   |some i=>
    rw[hi]at e2;have e2:(σ[i]?).join=some v:=aar e2;have e2:σ[i]? =some (some v):=by
     cases q:σ[i]? with
     |none=>rw[q]at e2;cases e2
     |some o=>rw[q]at e2;exact aa0 some e2
    have⟨c1,c2,c3⟩:=S.cap (z,i) (Iz e1 hi);have c4:=z6 (env:=X.env) I.ok.kind c2 c3;have c3:(z,NameKind.free)∈scope.names:=PySem.mem_of_lookup c3;have⟨m,hn,hl⟩:=I4.loc;have⟨u,r,lk⟩:=hl i z v c1 e2 (.inr (.inl c2));refine⟨u,r,.inr ⟨.inl c4,?_⟩⟩;rcases lk with ⟨k,_⟩| ⟨_,c,C2,z'⟩
    ·exact aaL ((show X.env.scope.names.lookup z=some .local from k).symm.trans c2) @_
    ·have⟨d,hd⟩:=abz.mp (sV (env:=X.env) scope.names [] (.inl c3));have:=vj z d hd;rw[C2]at this;cases this;exact⟨c,hd,z'⟩
 have loop:codeAny (model X.prog X.w) X.A (.compLoop (.ListComp elt [⟨tg,iter,cs,0⟩] scope pos) 0 (.ref it) (.ref s2.heap.objs.size) (compEnvC scope (mf X.env scope.names []) s3.heap.objs.size X.env)) (PQ (.ref s2.heap.objs.size) s3.heap.objs.size) s4:=by
  have YW:∀{H':Hp},(∀b∈fp,H' b=none)->∀b∈fp,rY (Cx.comp X (xs++ys) scope s3.heap.objs.size s3 H3 fp) [] H' b:=λhn b hb=>
   ⟨hn b hb,(ok.exf b hb).1,ok.PH b hb,.inl hb,(ok.exf b hb).2,(λp hp=>nomatch hp)⟩
  refine codeAny_loop rfl (λn s'=>∃(i:Nat) (zs:List V) (os:St) (H':Hp),os.length=xs.length/\Inv (Cx.comp X (xs++ys) scope s3.heap.objs.size s3 H3 fp) [] (os++oQ af σ) H' s'/\tn i s'.heap/\(∀b∈fp,H' b=none)/\W i n zs H') (λn s5 z=>?_) m0 ⟨0,[],List.replicate xs.length none,H3,by rw[aa5],Ic,T.keep _ _ _ t3 (λb hb o e=>by rw[e4];exact kp b o e),WS,w0⟩;have⟨i,zs,os,H5,l5,I5,t5,VD,w5⟩:=z;show wpAny _ _ ((compTurn _ 0 (.ref it) _ _).onRaise _) _ _ s5;refine wpAny_noted ?_;rw[uW (ht s3.heap.objs.size s3 H3 fp).1];refine aam (wpAny_standAt (aam ?_));obtain⟨Kx,stop| go⟩:=step i n zs H5 w5
  ·have⟨stop,q⟩:=stop;refine bJ (T.done (Cx.comp X (xs++ys) scope s3.heap.objs.size s3 H3 fp) rfl rfl rfl hc i [] s5 _ H5 _ I5 (YW VD) t5 stop) λr s6 xz=>?_;have⟨hr,I6⟩:=xz;subst hr;refine aaR (hPQ _ _ s6 H5 ?_ q ?_ I6.free ?_ Lne NB λp hp z=>?_)
   ·refine I3.Ui I6.os I6.base I6.aS I6.bare λb hb=>?_;have⟨_,g1,_,g3,g4,g5⟩:=f2 b hb;exact⟨g3,g1,g4,g5⟩
   ·have⟨m,hn,_⟩:=I6.loc;exact⟨m,hn⟩
   ·exact I3.sz
   ·exact aaT (aat (I3.pin p hp).1) z
  ·have⟨go,turn⟩:=go;refine bJ (T.item (Cx.comp X (xs++ys) scope s3.heap.objs.size s3 H3 fp) rfl rfl rfl hc i [] s5 _ H5 _ I5 (YW VD) t5 go) λr s6 xz=>?_;have⟨u,hr,h6⟩:=xz;subst hr;refine aam (bJ h6 λ_ s7 xz=>?_);have⟨y,H7,I7,r7,y7,t7,fr7⟩:=xz;have I7':=I7.pinned (YW fr7) (T.obj _ _ t7);refine aam (ab7 (hg _ _ _ _ _ s7 _ H7 y u _ I7' r7 (hk y os _ H7 _ l5 (turn y _ y7 os l5))) (λ_ s8 z8=>?_) λ_ _ f=>f.elim);have⟨σ8,H8,I8,⟨os8,l8,e8⟩,q8⟩:=z8;subst e8;refine aam (ab7 ((ht _ _ _ _).2 _ s8 _ _ _ I8 q8) (λb s9 z9=>?_) λ_ _ f=>f.elim);have⟨H9,I9,q9⟩:=z9;cases b with
   |false=>
    have⟨m9,hm9,w9⟩:=q9;refine aaR ⟨rfl,m9,hm9,i+1,zs,os8,_,l8,I9.kQ,T.keep _ _ _ t7 λb hb o e=>(I9.pin (b,o) (aaI _ (aaI _ (fE hb e)))).1,λb hb=>?_,w9⟩;have⟨o,e,_⟩:=T.obj _ _ t7 b hb;exact(I9.pin (b,o) (aaI _ (aaI _ (fE hb e)))).2.1
   |true=>
    refine aam (aam (ab7 (he _ _ _ _ _ s9 _ _ _ I9 q9) (λu10 s10 z10=>?_) λ_ _ f=>f.elim));have⟨v10,H10,I10,r10,X',l10,m10,Xw,w10⟩:=z10;refine aam (ab7 (vO (X:=Cx.comp X (xs++ys) scope s3.heap.objs.size s3 H3 fp) _ s10 _ H10 (.ref s2.heap.objs.size) [v10] _ [u10] (λ_ H'=>H'=upd H10 s2.heap.objs.size (.lst (zs++[v10]))) I10 rfl (.cons r10 .nil) ⟨_,zs,v10,rfl,rfl,X',l10,rfl⟩) (λ_ s11 z11=>?_) λ_ _ f=>f.elim);have⟨_,H11,Yj,_,e11⟩:=z11;subst e11;refine aaR (aaR ⟨rfl,m10,Xw,i+1,zs++[v10],os8,_,l8,Yj.kQ,T.keep _ _ _ t7 λb hb o e=>(Yj.pin (b,o) (aaI _ (aaI _ (fE hb e)))).1,λb hb=>?_,w10⟩);have⟨o,e,_⟩:=T.obj _ _ t7 b hb;exact(Yj.pin (b,o) (aaI _ (aaI _ (fE hb e)))).2.1
 exact codeAny_compStart_list loop (T.self X.A 0 _ _ _ (T.keep _ _ _ t3 (λb hb o e=>by rw[e4];exact kp b o e)) loop)
def zD(S:aL X scope xs ys af)(hc:X.calm=true)(hi:PI X tg iter wi)(hg:∀C s H fp,PG (Cx.comp X (xs++ys) scope C s H fp) tg gg)(hk:v7 xs.length gg)(ht:∀C s H fp,Wd (Cx.comp X (xs++ys) scope C s H fp) cs tc)(he:∀C s H fp,PE (Cx.comp X (xs++ys) scope C s H fp) elt te)(hs:∀x,foldedSetIterable iter X.env x=pure x:=by intro _;rfl):
  PE X (.ListComp elt [⟨tg,iter,cs,0⟩] scope pos) (Ka wi xs.length gg tc te af):=by
 intro ζ s σ H Q I h;rw[eval_ListComp];refine wpAny_comprehension_free (use:=none) rfl hs (se (S.has I.ok)) S.kind S.names (bJ (hi ζ s σ H _ I h) λv s1 h1=>bJ h1 λV5 s2 h2=>?_);have⟨it,fp,tn,J,H2,rfl,I2,T,t0,f2,q⟩:=h2;refine u6 S hc hg hk ht he (Q:=Q) I2 T t0 f2 q λD C s' H' I' q' n' hC hz hL Rv hp=>?_;have⟨m,n'⟩:=n';exact⟨m,n',λh' sb=>⟨.ref D,H',I'.turned (it:=C) (t':=s'.toks) (λb o hb e=>(sb.2 b hb).trans e) hC hL (.inr hz) Rv hp,rfl,q'⟩⟩
def AQ{i:Nat}{y:Str}{py zt:Pos}(hN:X.N.Nodup)(SG:X.N[i]? =some y)(hy:Loc X.env.scope y)(S:aL X scope xs ys af)(hc:X.calm=true)(hi:PI X tg iter wi)(hg:∀C s H fp,PG (Cx.comp X (xs++ys) scope C s H fp) tg gg)(hk:v7 xs.length gg)(ht:∀C s H fp,Wd (Cx.comp X (xs++ys) scope C s H fp) cs tc)(he:∀C s H fp,PE (Cx.comp X (xs++ys) scope C s H fp) elt te)
  (Su:swapsWith (.ListComp elt [⟨tg,iter,cs,0⟩] scope pos) (some (.Name y py)) zt.line X.env=pure true) (hs:∀x,foldedSetIterable iter X.env x=pure x)
  (hf:X.fn y=true\/X.env.scope.names.lookup y=some .local):
  PS X (.Assign [.Name y py] (.ListComp elt [⟨tg,iter,cs,0⟩] scope pos) zt) (λD σ H=>Ka wi xs.length gg tc te af σ H λv H1=>D.nx (σ.set i (some v)) H1):=by
 intro ζ s σ H D I h;rw[exec_Assign_Name_used _ _ _ _ Su];refine aam (wpAny_standAt (aam ?_));show wpAny _ _ (do let _<-comprehension (.ListComp elt [⟨tg,iter,cs,0⟩] scope pos) scope X.env _ (newList []) false (eval iter X.env) (some (assign (.Name y py) X.env))) _ _ s;refine aam (ab7 (wpAny_comprehension_free (use:=some (assign (.Name y py) X.env)) (Q:=λ_ s'=>SP X ζ D .next s') rfl hs (se (S.has I.ok)) S.kind S.names (bJ (hi ζ s σ H _ I h) λv s1 h1=>bJ h1 λV5 s2 h2=>?_)) (λ_ s' hq=>aaR (aaR hq)) λ_ _ e=>e);have⟨it,fp,tn,J,H2,rfl,I2,T,t0,f2,q⟩:=h2;refine u6 S hc hg hk ht he (Q:=λv H1=>D.nx (σ.set i (some v)) H1) I2 T t0 f2 q λDl C s' H' I' q' n' hC hz hL Rv hp=>?_;have⟨m,n'⟩:=n';show wpAny _ _ (assign (.Name y py) X.env (.ref Dl)) _ _ s';refine wpAny_assign_Name (vD I' hN SG hy (v:=.ref Dl) rfl (λs3 I3 Yw=>?_) hf);have⟨a,Yw,ha⟩:=Yw;have hCa:C≠a:=by
  rcases ha with rfl| ha
  ·exact hL
  ·exact(Rv _ _ ha).symm
 exact⟨m,n'.sameBut Yw hCa,λh' sb=>⟨_,H',I3.turned (it:=C) (t':=s3.toks) (λb o hb e=>(sb.2 b hb).trans e) hC hL (.inr hz) Rv hp,q'⟩⟩
end
section
variable{K:fI}
def cZ.okX{x:Str}{k:Nat}{sp:Sp}(F:cZ K x qual st f fd)(S:Ε N ps (ψ st))(len:∀vs H Q E,sp vs H Q E->vs.length=ps.length)
  (yK:∀(bz:Value) (A:Around) (outer:List Env) (s:Shared) (H:Hp) (vs:List V) (Q:VK) (E:XK),bT k (A.deeper (envOfC qual (ψ st) s.heap.objs.size f bz))->sp vs H Q E->
   ∃t,Hh (xf (cC P w) P w K mg base N qual (ψ st) f bz A outer s H E) (iC st) t/\t {nx:=λ_ H'=>Q .bj H',rt:=Q} (start N vs) H):av P w K mg base (cC P w) (k+1) f fd ps sp:=by
 have⟨oc,od,kV,doc,pm,an,bz,ct,JB,rfl,lk,K9⟩:=F.ex;exact Uj lk K9 S len λA outer s H vs Q E hr Og=>yK bz A outer s H vs Q E hr Og
end
def gy:d_ (cC P w) X (λ_=>E0):=by intro ζ σ H s e s' _ hx;have⟨_,_,_,_,_,_,_,_,hE⟩:=hx;exact hE.elim
def log2_lt{n:Nat}{k:Nat}(h:n<2^k)(hk:0<k):n.log2<k:=by
 by_cases h0:n=0
 ·rw[h0,show Nat.log2 0=0 from rfl];exact hk
 ·exact(Nat.log2_lt h0).mpr h
def dQ(i:Int):Prop:=i.natAbs<2^8000
def GB{i j:Int}(hi:dQ i)(hj:dQ j):IntMulOk i j:=by
 have b:∀{i:Int},dQ i->Builtin.Int.intBits i<=8000:=λ{i} h=>by
  unfold Builtin.Int.intBits;split
  ·exact ab9 _
  ·have:=log2_lt (k:=8000) h @_;omega
 have b1:=b hi;have b2:=b hj;have h3:Builtin.Int.intTooBig (Builtin.Int.intBits i+Builtin.Int.intBits j)=false:=by
  unfold Builtin.Int.intTooBig;refine aaJ ?_;have:(bitsLine:Int)=134217728:=@_
  omega
 unfold IntMulOk;rw[h3,Bool.and_false];exact aaF
section
def Lp:jo X (binaryOp .Mult) (rI (λi j=>dQ i/\dQ j) λi j=>.int (i*j)):=VR λ_ _ _ _ _ _ _ hc q=>mul_int q (GB hc.1 hc.2)
def Az:jo X (binaryOp .FloorDiv) (rI (λ_ j=>j≠0/\dQ j) λi j=>.int (i.fdiv j)):=VR λ_ _ _ _ _ _ _ hc q=>
 floordiv_int hc.1 q (.inl (PyProof.noPylong_of_log2 (aau (log2_lt (k:=8000) hc.2 @_) @_)))
end
def JV:V->Option Value
 |.ty T=>some (.type T)
 |.ref C=>some (.ref C)
 |_=>none
def Mf{c:V}{u t:Value}(r:aA c u)(h:JV c=some t):u=t:=by
 cases c with
 |ty T=>cases r;exact aar h
 |ref C=>cases r;exact aar h
 |_=>cases h
section
def pX:dU X (.builtin "isinstance") (λxs H Q=>∃x c t t' b,xs=[x,c]/\j2 X.K H x t/\JV c=some t'/\PySem.W.kitOne X.K t t'=some b/\Q (.bl b) H):=by intro ζ s σ H xs us Q I r h;have⟨x,c,t,t',b,rfl,ty,hc,hk,q⟩:=h;have⟨u,u',rfl,r1,r2⟩:=OM r;cases Mf r2 hc;exact Gq I r1 ty hk λtk=>⟨.bl b,H,I.tok tk,rfl,q⟩
end
def nJ:List V->List V->Bool
 |[],[]=>true
 |x::xs,y::ys=>qo x y&&nJ xs ys
 |_,_=>false
def mU:∀(xs ys:List V) (e:Nat->Bool),(∀j x y,xs[j]? =some x->ys[j]? =some y->e j=qo x y)->((List.range (min xs.length ys.length)).all e&&xs.length==ys.length)=nJ xs ys
 |[],[],e,_=>rfl
 |[],_::_,e,_=>by simp[nJ]
 |_::_,[],e,_=>by simp[nJ]
 |x::xs,y::ys,e,h=>by
  have ih:=mU xs ys (λj=>e (j+1)) λj x y h1 h2=>h (j+1) x y h1 h2;have h0:e 0=qo x y:=h 0 x y rfl rfl;show _=(qo x y&&nJ xs ys);rw[<-ih,<-h0];have e1:min (x::xs).length (y::ys).length=min xs.length ys.length+1:=by simp only[List.length_cons];omega
  rw[e1,abF,ab4,List.all_map];have e2:((x::xs).length==(y::ys).length)=(xs.length==ys.length):=by simp only[List.length_cons];rw[Bool.eq_iff_iff];simp
  rw[e2,Bool.and_assoc];rfl
def SF(K:fI):R2:=λx y H Q=>∃a b xs ys,x= .ref a/\y= .ref b/\nZ K H a xs/\nZ K H b ys/\xs.all dX=true/\ys.all dX=true/\Q (.bl (nJ xs ys)) H
def To(K:fI):R2:=λx y H Q=>∃a b xs ys,x= .ref a/\y= .ref b/\nZ K H a xs/\nZ K H b ys/\xs.all dX=true/\ys.all dX=true/\Q (.bl (!nJ xs ys)) H
def nQ:∀{xs:List V}{j:Nat}{x:V},xs.all dX=true->xs[j]? =some x->dX x=true
 |_::_,0,_,h,e=>by rw[ab4,aav]at h;cases e;exact h.1
 |_::_,j+1,_,h,e=>by rw[ab4,aav]at h;exact nQ h.2 e
section
def OW(hu:X.A.units<cLine):jo X (compareOp .NotEq) (To X.K):=by
 intro ζ s σ H x y v u Q I rx ry h;have⟨a,b,xs,ys,rfl,rfl,h1,h2,f1,f2,q⟩:=h;cases rx;cases ry;have⟨i1,v1,t1,_⟩:=I.tuple h1;have⟨i2,v2,t2,_⟩:=I.tuple h2;have l1:=v1.length;have l2:=v2.length;refine SeqAt.RcNeAt.tuples (e:=λj=>match xs[j]?,ys[j]? with| some x,some y=>qo x y| _,_=>true) (show s.heap.IsTuple a i1.toArray from t1) (show s.heap.IsTuple b i2.toArray from t2) hu (λj h1 h2=>?_) _ _ _ _ ?_
 ·have b1:j<i1.length:=by simpa using h1
  have b2:j<i2.length:=by simpa using h2
  have e1:xs[j]? =some (xs[j]'()):=aaa _;have e2:ys[j]? =some (ys[j]'()):=aaa _;have⟨u1,g1,r1⟩:=v1.get e1;have⟨u2,g2,r2⟩:=v2.get e2;rw[aaa b1]at g1;rw[aaa b2]at g2;have w1:i1.toArray[j]=u1:=by simpa using Option.some.inj g1
  have w2:i2.toArray[j]=u2:=by simpa using Option.some.inj g2
  rw[w1,w2];simp only[e1,e2];exact sE r1 r2 (nQ f1 e1) (nQ f2 e2)
 ·rw[List.size_toArray,List.size_toArray,<-l1,<-l2,mU xs ys _ (λj x y h1 h2=>by simp only[h1,h2])];exact⟨.bl (!nJ xs ys),H,I,rfl,q⟩
def KJ(hu:X.A.units<cLine):jo X (compareOp .Eq) (SF X.K):=by
 intro ζ s σ H x y v u Q I rx ry h;have⟨a,b,xs,ys,rfl,rfl,h1,h2,f1,f2,q⟩:=h;cases rx;cases ry;have⟨i1,v1,t1,_⟩:=I.tuple h1;have⟨i2,v2,t2,_⟩:=I.tuple h2;have l1:=v1.length;have l2:=v2.length;refine SeqAt.eq_tupleAt (e:=λj=>match xs[j]?,ys[j]? with| some x,some y=>qo x y| _,_=>true) (show s.heap.IsTuple a i1.toArray from t1) (show s.heap.IsTuple b i2.toArray from t2) hu (λj h1 h2=>?_) ?_
 ·have b1:j<i1.length:=by simpa using h1
  have b2:j<i2.length:=by simpa using h2
  have e1:xs[j]? =some (xs[j]'()):=aaa _;have e2:ys[j]? =some (ys[j]'()):=aaa _;have⟨u1,g1,r1⟩:=v1.get e1;have⟨u2,g2,r2⟩:=v2.get e2;rw[aaa b1]at g1;rw[aaa b2]at g2;have w1:i1.toArray[j]=u1:=by simpa using Option.some.inj g1
  have w2:i2.toArray[j]=u2:=by simpa using Option.some.inj g2
  rw[w1,w2];simp only[e1,e2];exact sE r1 r2 (nQ f1 e1) (nQ f2 e2)
 ·rw[List.size_toArray,List.size_toArray,<-l1,<-l2,mU xs ys _ (λj x y h1 h2=>by simp only[h1,h2])];exact⟨.bl (nJ xs ys),H,I,rfl,q⟩
end
def GZ(bs:List Bool):(List.range bs.length).any (λi=>bs.getD i false)=bs.any id:=by
 induction bs with
 |nil=>rfl
 |cons b bs ih=>
  rw[aaB,abF,ab5,List.any_map,ab5,<-ih];rfl
def wF:∀{bs:List Bool}{us:List Value},aF (bs.map V.bl) us->us=bs.map Value.bool
 |[],_,r=>by cases r;rfl
 |b::bs,_,r=>by
  cases r with
  |cons h t=>
   cases h;rw[wF t];rfl
def zg{prog:Program}{bs:List Bool}:TruthOf prog w A (λi v=>(bs.map Value.bool).toArray[i]? =some v) (λi=>bs.getD i false):=by
 intro i v s Q E h q;have h':(bs.map Value.bool)[i]? =some v:=by simpa using h
 rw[aaq]at h';cases e:bs[i]? with
 |none=>rw[e]at h';cases h'
 |some b=>
  rw[e]at h';cases h';have q':Q b s:=by
   have eb:bs.getD i false=b:=by rw[aab,e];rfl
   exact eb▸q
  exact wpAny_truthy_bool q'
def Sb(K:fI):List V->Hp->VK->Prop:=λxs H Q=>∃(p:Addr) (bs:List Bool),xs=[.ref p]/\gK K H p (bs.map V.bl)/\Q (.bl (bs.any id)) H
section
def IP (hc : X.calm = true) : dU X (.builtin "any") (Sb X.K) :=by
  intro ζ s σ H xs us Q I r h;obtain⟨p,bs,rfl,hq,q⟩ :=h;obtain⟨u,rfl,r1⟩ :=kU r;cases r1;obtain⟨its,rv,pl,hz⟩ :=I.list hq;have PD :=wF rv;subst PD;refine call_any_walk (wpAny_pyIter_list pl.isList ?_);have lp : p<s.heap.objs.size :=by obtain⟨o,e,_⟩ :=pl.isList;exact aat e
  refine⟨s.heap.objs.size,_,_,_,_,_,λi =>bs.getD i false,rfl,Walks.list (show X.A.in1.handled = none from I.ok.hd hc) s.heap.objs.size p (aaT lp) (bs.map Value.bool).toArray,⟨⟨_,aaS _ rfl,rfl,rfl⟩,pl.isList.at λo e =>aal _ e⟩,zg,λh' tk hk =>?_⟩;refine⟨.bl (bs.any id),H,I.kept λb o e =>hk b o (λz =>by have : b = s.heap.objs.size :=(by simpa using z);exact Nat.lt_irrefl _ (this ▸ Heap.lt_size e)) (Heap.get?_push_of_some _ e),?_,q⟩;rw[aay,aac,GZ];rfl
end
end L2
namespace PySem
open Sem (wp)
end PySem
namespace PySem.W
open PySem PySem.Builtin PySem.Builtin.ObjectAttr
end PySem.W
namespace PySem
open Sem (wp)
end PySem
namespace L2
open PySem PySem.Spec PyProof.Rows
def xO(a C:Addr)(od:Option Addr):HO:=.ext λh=>∃ob vs,h.get? a=some ob/\ob.cls= .ref C/\ob.dict=od/\ob.data= .fields vs
inductive Dt where
 |bj
 |bl (b:Bool)
 |int (i:Int)
 |str (x:Str)
 |tup (xs:List Dt)
 |lst (xs:List Dt)
 |obj (C:Addr) (ns:List Str) (xs:List Dt)
 |loc (k:Nat)
 |ref (a:Addr)
 |ty (n:String)
 |iA (ns:List Int)
 |kt (xs:List Dt)
 |exc (C:Addr) (ns:List Str) (xs:List Dt)
 |RT (x C:Addr) (od:Option Addr) (ns:List Str) (xs:List Dt)
inductive MO where
 |lst (xs:List Dt)
 |ins (C:Addr) (ns:List Str) (xs:List Dt)
 |bX (ks:List Key) (xs:List Dt)
 |raw (u:Addr->HO)
abbrev Ms:=List MO
abbrev En:=List (Option Dt)
mutual
def Den(K:fI)(G:Hp)(L:List Addr):Dt->V->Prop
 |.bj,v=>v= .bj
 |.bl b,v=>v= .bl b
 |.int i,v=>v= .int i
 |.str x,v=>v= .str x
 |.tup ds,v=>∃a vs,v= .ref a/\G a=some (.tup vs)/\Ψ K G L ds vs
 |.lst ds,v=>∃a vs,v= .ref a/\G a=some (.lst vs)/\Ψ K G L ds vs
 |.obj C ns ds,v=>∃a dx vs,v= .ref a/\G a=some (.ins C dx (ns.zip vs))/\ns.length=ds.length/\Ψ K G L ds vs
 |.loc k,v=>∃a,v= .ref a/\L[k]? =some a
 |.ref a,v=>v= .ref a
 |.ty n,v=>v= .ty n
 |.iA ns,v=>∃a,v= .ref a/\gK K G a (ns.map V.int)
 |.kt ds,v=>∃a vs,v= .ref a/\nZ K G a vs/\Ψ K G L ds vs
 |.exc C ns ds,v=>∃a od vs,v= .ref a/\G a=some (xO a C od)/\((ns=[]/\od=none)\/∃dx,od=some dx/\G dx=some (.xd (ns.zip vs)))/\ns.length=ds.length/\Ψ K G L ds vs
 |.RT x _ od ns ds,v=>∃vs,v= .ref x/\((ns=[]/\od=none)\/∃dx,od=some dx/\G dx=some (.xd (ns.zip vs)))/\ns.length=ds.length/\Ψ K G L ds vs
def Ψ(K:fI)(G:Hp)(L:List Addr):List Dt->List V->Prop
 |[],vs=>vs=[]
 |d::ds,vs=>∃v r,vs=v::r/\Den K G L d v/\Ψ K G L ds r
end
def Pre(L L':List Addr):Prop:=∃t,L'=L++t
def Pre.refl(L:List Addr):Pre L L:=⟨[],by simp⟩
def Pre.trans{a b c:List Addr}(h:Pre a b)(h':Pre b c):Pre a c:=by have⟨t,rfl⟩:=h;have⟨u,rfl⟩:=h';exact⟨t++u,by simp⟩
def Pre.get{a b:List Addr}(h:Pre a b){k:Nat}{x:Addr}(e:a[k]? =some x):b[k]? =some x:=by have⟨t,rfl⟩:=h;have hk:k<a.length:=(aaf.mp e).1;rw[aas hk];exact e
def eD.rd{H H':Hp}{a:Addr}{u:HO}(e:eD H H')(h:Rd H a u):Rd H' a u:=by
 rcases h with h| ⟨o,h⟩
 ·exact .inl (e _ _ h)
 ·exact .inr ⟨o,e _ _ h⟩
def eD.So{K:fI}{H H':Hp}{a:Addr}{xs:List V}(e:eD H H')(h:nZ K H a xs):nZ K H' a xs:=by
 rcases h with h|h
 ·exact .inl (e.rd h)
 ·exact .inr h
section
variable{K:fI}{G G':Hp}{L L':List Addr}
mutual
def Den.mono(g:eD G G')(l:Pre L L'):∀(d:Dt) (v:V),Den K G L d v->Den K G' L' d v
 |.bj,_,h=>h
 |.bl _,_,h=>h
 |.int _,_,h=>h
 |.str _,_,h=>h
 |.tup ds,_,⟨a,vs,e,h1,h2⟩=>⟨a,vs,e,g _ _ h1,Ψ.mono g l ds vs h2⟩
 |.lst ds,_,⟨a,vs,e,h1,h2⟩=>⟨a,vs,e,g _ _ h1,Ψ.mono g l ds vs h2⟩
 |.obj C ns ds,_,⟨a,dx,vs,e,h1,hn,h2⟩=>⟨a,dx,vs,e,g _ _ h1,hn,Ψ.mono g l ds vs h2⟩
 |.loc k,_,⟨a,e,h1⟩=>⟨a,e,l.get h1⟩
 |.ref _,_,h=>h
 |.ty _,_,h=>h
 |.iA _,_,⟨a,e,h1⟩=>⟨a,e,g.seq h1⟩
 |.kt ds,_,⟨a,vs,e,h1,h2⟩=>⟨a,vs,e,g.So h1,Ψ.mono g l ds vs h2⟩
 |.exc _ _ ds,_,⟨a,od,vs,e,h1,h2,h3,h4⟩=>⟨a,od,vs,e,g _ _ h1,h2.imp (λz=>z) (λ⟨dx,z1,z2⟩=>⟨dx,z1,g _ _ z2⟩),h3,Ψ.mono g l ds vs h4⟩
 |.RT _ _ _ _ ds,_,⟨vs,e,h2,h3,h4⟩=>⟨vs,e,h2.imp (λz=>z) (λ⟨dx,z1,z2⟩=>⟨dx,z1,g _ _ z2⟩),h3,Ψ.mono g l ds vs h4⟩
def Ψ.mono(g:eD G G')(l:Pre L L'):∀(ds:List Dt) (vs:List V),Ψ K G L ds vs->Ψ K G' L' ds vs
 |[],_,h=>h
 |d::ds,_,⟨v,r,e,h1,h2⟩=>⟨v,r,e,Den.mono g l d v h1,Ψ.mono g l ds r h2⟩
end
def Ψ.pair:∀{ds:List Dt}{vs:List V},Ψ K G L ds vs->Paired (Den K G L) ds vs
 |[],_,h=>by have h:_=_:=h;subst h;exact .nil
 |d::ds,_,⟨v,r,e,h1,h2⟩=>by subst e;exact .cons h1 (Ψ.pair h2)
def Ψ.of:∀{ds:List Dt}{vs:List V},Paired (Den K G L) ds vs->Ψ K G L ds vs
 |_,_,.nil=>rfl
 |_,_,.cons h t=>⟨_,_,rfl,h,Ψ.of t⟩
end
section
variable{α β:Type}{F:α->β->Prop}
def Dz:∀{xs:List α}{us:List β}{i:Nat}{x:α},Paired F xs us->xs[i]? =some x->∃u,us[i]? =some u/\F x u
 |_,_,_,_,.nil,e=>by simp at e
 |_,_,0,_,.cons r _,e=>by simp at e;subst e;exact⟨_,rfl,r⟩
 |_,_,i+1,x,.cons _ t,e=>by have⟨u,h1,h2⟩:=Dz (i:=i) (x:=x) t (by simpa using e);exact⟨u,by simpa using h1,h2⟩
def EG{x:α}{u:β}(r:F x u):∀{xs:List α}{us:List β}(i:Nat),Paired F xs us->Paired F (xs.set i x) (us.set i u)
 |_,_,_,.nil=>.nil
 |_,_,0,.cons _ t=>.cons r t
 |_,_,i+1,.cons q t=>.cons q (EG r i t)
def wM:∀{xs ys:List α}{us ws:List β},Paired F xs us->Paired F ys ws->Paired F (xs++ys) (us++ws)
 |_,_,_,_,.nil,s=>s
 |_,_,_,_,.cons r t,s=>.cons r (wM t s)
def tZ:∀{xs:List α}{us:List β}(n:Nat),Paired F xs us->Paired F (xs.take n) (us.take n)
 |_,_,0,_=>.nil
 |_,_,_+1,.nil=>.nil
 |_,_,n+1,.cons r t=>.cons r (tZ n t)
def rW:∀{xs:List α}{us:List β}(n:Nat),Paired F xs us->Paired F (xs.drop n) (us.drop n)
 |_,_,0,r=>r
 |_,_,_+1,.nil=>.nil
 |_,_,n+1,.cons _ t=>rW n t
def xK{xs:List α}{us:List β}(h:Paired F xs us):∀k:Nat,Paired F (List.replicate k xs).flatten (List.replicate k us).flatten
 |0=>.nil
 |k+1=>by rw[abo,abo,abH,abH];exact wM h (xK h k)
end
section
variable{K:fI}{G:Hp}{L:List Addr}
def Ψ.length{ds:List Dt}{vs:List V}(h:Ψ K G L ds vs):ds.length=vs.length:=Paired.length h.pair
def Ψ.get{ds:List Dt}{vs:List V}{i:Nat}{d:Dt}(h:Ψ K G L ds vs)(e:ds[i]? =some d):∃v,vs[i]? =some v/\Den K G L d v:=Dz h.pair e
def Ψ.app{ds es:List Dt}{vs us:List V}(h:Ψ K G L ds vs)(h':Ψ K G L es us):Ψ K G L (ds++es) (vs++us):=.of (wM h.pair h'.pair)
def i_:∀{ns:List Int},Ψ K G L (ns.map Dt.int) (ns.map V.int)
 |[]=>rfl
 |n::ns=>⟨_,_,rfl,rfl,i_⟩
def bF{d:Dt}{vs:List V}(h:Ψ K G L [d] vs):∃v,vs=[v]/\Den K G L d v:=by have⟨v,r,rfl,h1,h2⟩:=h;have h2:r=[]:=h2;subst h2;exact⟨v,rfl,h1⟩
def fW{d e:Dt}{vs:List V}(h:Ψ K G L [d,e] vs):∃v u,vs=[v,u]/\Den K G L d v/\Den K G L e u:=by have⟨v,r,rfl,h1,h2⟩:=h;have⟨u,rfl,h3⟩:=bF h2;exact⟨v,u,rfl,h1,h3⟩
end
def G_(K:fI)(G:Hp)(L:List Addr)(H:Hp)(a:Addr):MO->Prop
 |.lst ds=>∃vs,H a=some (.lst vs)/\Ψ K G L ds vs
 |.ins C ns ds=>∃dx vs,H a=some (.ins C dx (ns.zip vs))/\ns.length=ds.length/\Ψ K G L ds vs
 |.bX ks ds=>∃vs,H a=some (.dK (ks.zip vs))/\ks.length=ds.length/\Ψ K G L ds vs
 |.raw u=>H a=some (u a)
structure Rl(K:fI)(G:Hp)(L:List Addr)(M:Ms)(H:Hp):Prop where
 sub:eD G H
 len:L.length=M.length
 nd:L.Nodup
 eP:∀(k:Nat) (a:Addr) (m:MO),L[k]? =some a->M[k]? =some m->G a=none/\G_ K G L H a m
structure Ex(G:Hp)(L:List Addr)(H:Hp)(G':Hp)(L':List Addr)(H':Hp):Prop where
 g:eD G G'
 l:Pre L L'
 fr:∀b,G b=none->H b≠none->G' b=none
 out:∀b o,H b=some o->b∉L->H' b=some o
 new:∀b∈L',b∈L\/H b=none
 Dc:∀b,H b≠none->H' b≠none
def Ex.refl(G:Hp)(L:List Addr)(H:Hp):Ex G L H G L H:=⟨.refl _,.refl _,λ_ h _=>h,λ_ _ h _=>h,λ_ h=>.inl h,λ_ h=>h⟩
def Ex.trans{G:Hp}{L:List Addr}{H G1:Hp}{L1:List Addr}{H1 G2:Hp}{L2:List Addr}{H2:Hp}(a:Ex G L H G1 L1 H1)(b:Ex G1 L1 H1 G2 L2 H2):Ex G L H G2 L2 H2 where
 g:=a.g.trans b.g
 l:=a.l.trans b.l
 fr:=λx h1 h2=>b.fr x (a.fr x h1 h2) (a.Dc x h2)
 out:=λx o h1 h2=>b.out x o (a.out x o h1 h2) λz=>(a.new x z).elim h2 λq=>by rw[h1]at q;cases q
 new:=λx h=>by
  rcases b.new x h with z| z
  ·exact a.new x z
  ·right;cases q:H x with
   |none=>rfl
   |some o=>exact absurd z (a.Dc x (by rw[q];simp))
 Dc:=λx h=>b.Dc x (a.Dc x h)
def G_.there{K:fI}{G:Hp}{L:List Addr}{H:Hp}{a:Addr}{m:MO}(h:G_ K G L H a m):H a≠none:=by
 cases m with
 |lst ds=>have⟨vs,e,_⟩:=h;rw[e];simp
 |ins C ns ds=>have⟨dx,vs,e,_⟩:=h;rw[e];simp
 |bX ks ds=>have⟨vs,e,_⟩:=h;rw[e];simp
 |raw u=>have h:H a=some (u a):=h;rw[h];simp
def G_.mono{K:fI}{G G':Hp}{L L':List Addr}{H H':Hp}{a:Addr}{m:MO}(g:eD G G')(l:Pre L L')(e:H' a=H a)(h:G_ K G L H a m):G_ K G' L' H' a m:=by
 cases m with
 |lst ds=>have⟨vs,e1,h⟩:=h;exact⟨vs,e.trans e1,Ψ.mono g l _ _ h⟩
 |ins C ns ds=>have⟨dx,vs,e1,h0,h⟩:=h;exact⟨dx,vs,e.trans e1,h0,Ψ.mono g l _ _ h⟩
 |bX ks ds=>have⟨vs,e1,h0,h⟩:=h;exact⟨vs,e.trans e1,h0,Ψ.mono g l _ _ h⟩
 |raw u=>exact e.trans h
section
variable{K:fI}{G:Hp}{L:List Addr}{M:Ms}{H:Hp}{p:Addr}{o:HO}
def Rl.xw(r:Rl K G L M H){a:Addr}(h:a∈L):∃(k:Nat) (m:MO),L[k]? =some a/\M[k]? =some m/\G a=none/\G_ K G L H a m:=by
 have⟨k,hk,e⟩:=abl h;have e1:L[k]? =some a:=by rw[aaa hk,e]
 have e2:M[k]? =some (M[k]'(by rw[<-r.len];exact hk)):=aaa _;exact⟨k,_,e1,e2,r.eP k a _ e1 e2⟩
def Rl.Lz(r:Rl K G L M H)(hp:H p=none):p∉L:=λz=>by have⟨k,m,_,_,_,h⟩:=r.xw z;exact h.there hp
def Rl.LG(r:Rl K G L M H)(hp:H p=none):Rl K (upd G p o) L M (upd H p o) where
 sub:=λb u e=>by
  by_cases hb:b=p
  ·subst hb;rw[Ω]at e⊢;exact e
  ·rw[Μ hb]at e⊢;exact r.sub b u e
 len:=r.len
 nd:=r.nd
 eP:=λk a m h1 h2=>by have⟨q1,q2⟩:=r.eP k a m h1 h2;have hb:a≠p:=λz=>q2.there (by rw[z];exact hp);exact⟨by rw[Μ hb];exact q1,q2.mono (λb u e=>by rw[Μ (λz=>by rw[z,r.sub.free hp]at e;cases e)];exact e) (.refl _) (Μ hb)⟩
def Rl.RH(r:Rl K G L M H)(hp:H p=none):Ex G L H (upd G p o) L (upd H p o) where
 g:=λb u e=>by rw[Μ (λz=>by rw[z,r.sub.free hp]at e;cases e)];exact e
 l:=.refl _
 fr:=λb h1 h2=>by rw[Μ (λz=>h2 (by rw[z];exact hp))];exact h1
 out:=λb u h1 _=>by rw[Μ (λz=>by rw[z,hp]at h1;cases h1)];exact h1
 new:=λb h=>.inl h
 Dc:=λb h=>by rw[Μ (λz=>h (by rw[z];exact hp))];exact h
def Rl.M7{m:MO}(r:Rl K G L M H)(hp:H p=none)(hm:G_ K G (L++[p]) (upd H p o) p m):Rl K G (L++[p]) (M++[m]) (upd H p o) where
 sub:=λb u e=>by rw[Μ (λz=>by rw[z,r.sub.free hp]at e;cases e)];exact r.sub b u e
 len:=by rw[aah,aah,r.len];rfl
 nd:=List.nodup_append.mpr ⟨r.nd,by simp,λa ha b hb=>by
  have e:b=p:=by simpa using hb
  rw[e];exactλz=>r.Lz hp (z▸ha)⟩
 eP:=λk a m' h1 h2=>by
  by_cases hk:k<L.length
  ·rw[aas hk]at h1;rw[aas (by rw[<-r.len];exact hk)]at h2;have⟨q1,q2⟩:=r.eP k a m' h1 h2;exact⟨q1,q2.mono (.refl _) ⟨[p],rfl⟩ (Μ λz=>q2.there (by rw[z];exact hp))⟩
  ·have e:k=L.length:=by have:=(aaf.mp h1).1;rw[aah]at this;simp at this;omega
   rw[e,aao (aan _)]at h1;rw[e,r.len,aao (aan _)]at h2;simp at h1 h2;subst h1 h2;exact⟨r.sub.free hp,hm⟩
def Rl.VN(r:Rl K G L M H)(hp:H p=none):Ex G L H G (L++[p]) (upd H p o) where
 g:=.refl _
 l:=⟨[p],rfl⟩
 fr:=λb h1 _=>h1
 out:=λb u h1 _=>by rw[Μ (λz=>by rw[z,hp]at h1;cases h1)];exact h1
 new:=λb h=>by
  rcases aaV.mp h with z| z
  ·exact .inl z
  ·have e:b=p:=by simpa using z
   right;rw[e];exact hp
 Dc:=λb h=>by rw[Μ (λz=>h (by rw[z];exact hp))];exact h
def Rl.setM{k:Nat}{a:Addr}{m:MO}(r:Rl K G L M H)(hk:L[k]? =some a)(hm:G_ K G L (upd H a o) a m):Rl K G L (M.set k m) (upd H a o) where
 sub:=λb u e=>by have⟨k',m',e1,e2,q1,_⟩:=r.xw (aag hk);rw[Μ (λz=>by rw[z,q1]at e;cases e)];exact r.sub b u e
 len:=by rw[abn];exact r.len
 nd:=r.nd
 eP:=λk' a' m' h1 h2=>by
  by_cases e:k'=k
  ·subst e;rw[hk]at h1;cases h1;have hl:k'<M.length:=by rw[<-r.len];exact(aaf.mp hk).1
   rw[aa3 hl]at h2;cases h2;have⟨_,_,_,_,q1,_⟩:=r.xw (aag hk);exact⟨q1,hm⟩
  ·rw[aa9 (λz=>e z.symm)]at h2;have⟨q1,q2⟩:=r.eP k' a' m' h1 h2;have ne:a'≠a:=λz=>by subst z;exact e ((List.getElem?_inj (aaf.mp h1).1 r.nd).mp (h1.trans hk.symm))
   exact⟨q1,q2.mono (.refl _) (.refl _) (Μ ne)⟩
def Rl.EW{k:Nat}{a:Addr}(r:Rl K G L M H)(hk:L[k]? =some a):Ex G L H G L (upd H a o) where
 g:=.refl _
 l:=.refl _
 fr:=λb h1 _=>h1
 out:=λb u h1 h2=>by rw[Μ (λz=>h2 (by rw[z];exact aag hk))];exact h1
 new:=λb h=>.inl h
 Dc:=λb h=>by
  by_cases e:b=a
  ·rw[e,Ω];simp
  ·rw[Μ e];exact h
end
structure lN(K:fI)(G:Hp)(L:List Addr)(ρ:En)(σ:St):Prop where
 len:ρ.length=σ.length
 eP:∀(i:Nat) (d:Dt),ρ[i]? =some (some d)->∃v,σ[i]? =some (some v)/\Den K G L d v
section
variable{K:fI}{G G':Hp}{L L':List Addr}{H H':Hp}{ρ:En}{σ:St}
def lN.mono(h:lN K G L ρ σ)(e:Ex G L H G' L' H'):lN K G' L' ρ σ:=⟨h.len,λi d q=>let ⟨v,a,b⟩:=h.eP i d q;⟨v,a,Den.mono e.g e.l d v b⟩⟩
def lN.set(h:lN K G L ρ σ)(i:Nat){d:Dt}{v:V}(q:Den K G L d v):lN K G L (ρ.set i (some d)) (σ.set i (some v)):=by
 refine⟨by rw[abn,abn];exact h.len,λj d' e=>?_⟩;by_cases hj:i=j
 ·subst hj;have hl:i<ρ.length:=by have:=(aaf.mp e).1;rwa[abn]at this
  rw[aa3 hl]at e;cases e;exact⟨v,aa3 (by rw[<-h.len];exact hl),q⟩
 ·rw[aa9 hj]at e;have⟨u,a,b⟩:=h.eP j d' e;exact⟨u,by rw[aa9 hj];exact a,b⟩
end
abbrev DQ:=Dt->Ms->Prop
abbrev DX:=En->Addr->List (Str×Dt)->Ms->Prop
def SJ(K:fI)(G:Hp)(L:List Addr)(H:Hp)(fs:List (Str×Dt))(od:Option Addr):Prop:=
 (fs=[]/\od=none)\/fs≠[]/\∃dx vs,od=some dx/\G dx=some (.xd ((fs.map (·.1)).zip vs))/\Ψ K G L (fs.map (·.2)) vs
def uI(K:fI)(G:Hp)(L:List Addr)(H:Hp)(R:St->XK)(x:DX):Prop:=
 ∀σ ρ C fs M' G' L' H' od,x ρ C fs M'->Ex G L H G' L' H'->Rl K G' L' M' H'->lN K G' L' ρ σ->SJ K G' L' H' fs od->R σ (.ref C) od H'
def uI.on{K:fI}{G:Hp}{L:List Addr}{H G1:Hp}{L1:List Addr}{H1:Hp}{R:St->XK}{x:DX}(h:uI K G L H R x)(e:Ex G L H G1 L1 H1):uI K G1 L1 H1 R x:=
 λσ ρ C fs M' G' L' H' od q e' r n y=>h σ ρ C fs M' G' L' H' od q (e.trans e') r n y
def lS:DX:=λ_ _ _ _=>False
def Js{K:fI}{G:Hp}{L:List Addr}{H:Hp}{R:St->XK}:uI K G L H R lS:=λ_ _ _ _ _ _ _ _ _ q=>q.elim
abbrev DE:=En->Ms->DQ->DX->Prop
abbrev DT:=En->Ms->(Bool->Ms->Prop)->DX->Prop
abbrev DA:=En->Ms->(List Dt->Ms->Prop)->DX->Prop
structure lL where
 nx:En->Ms->Prop
 rt:DQ
 bk:En->Ms->Prop:=λ_ _=>False
 ct:En->Ms->Prop:=λ_ _=>False
 x:DX:=lS
abbrev DS:=lL->En->Ms->Prop
inductive Fin(K:fI)(G0:Hp)(L0:List Addr)(H0:Hp)(q:DQ)(v:V)(H:Hp):Prop
 |mk (d:Dt) (G:Hp) (L:List Addr) (M:Ms) (e:Ex G0 L0 H0 G L H) (r:Rl K G L M H) (n:Den K G L d v) (h:q d M)
inductive uM(K:fI)(G0:Hp)(L0:List Addr)(H0:Hp)(q:Bool->Ms->Prop)(b:Bool)(H:Hp):Prop
 |mk (G:Hp) (L:List Addr) (M:Ms) (e:Ex G0 L0 H0 G L H) (r:Rl K G L M H) (h:q b M)
inductive NK(K:fI)(G0:Hp)(L0:List Addr)(H0:Hp)(q:List Dt->Ms->Prop)(vs:List V)(H:Hp):Prop
 |mk (ds:List Dt) (G:Hp) (L:List Addr) (M:Ms) (e:Ex G0 L0 H0 G L H) (r:Rl K G L M H) (n:Ψ K G L ds vs) (h:q ds M)
inductive fb(K:fI)(G0:Hp)(L0:List Addr)(H0:Hp)(q:En->Ms->Prop)(σ:St)(H:Hp):Prop
 |mk (ρ:En) (G:Hp) (L:List Addr) (M:Ms) (e:Ex G0 L0 H0 G L H) (r:Rl K G L M H) (n:lN K G L ρ σ) (h:q ρ M)
def uV(K:fI)(G0:Hp)(L0:List Addr)(H0:Hp)(Dn:lL):yz:=⟨fb K G0 L0 H0 Dn.nx,Fin K G0 L0 H0 Dn.rt,fb K G0 L0 H0 Dn.bk,fb K G0 L0 H0 Dn.ct⟩
inductive yv(K:fI)(R:St->XK)(t:DE)(σ:St)(H:Hp)(Q:VK):Prop
 |mk (G:Hp) (L:List Addr) (ρ:En) (M:Ms) (q:DQ) (x:DX) (r:Rl K G L M H) (n:lN K G L ρ σ) (h:t ρ M q x) (hx:uI K G L H R x) (hQ:∀v H1,Fin K G L H q v H1->Q v H1)
inductive BG(K:fI)(R:St->XK)(t:DT)(σ:St)(H:Hp)(Q:Bool->Hp->Prop):Prop
 |mk (G:Hp) (L:List Addr) (ρ:En) (M:Ms) (q:Bool->Ms->Prop) (x:DX) (r:Rl K G L M H) (n:lN K G L ρ σ) (h:t ρ M q x) (hx:uI K G L H R x) (hQ:∀b H1,uM K G L H q b H1->Q b H1)
inductive R7(K:fI)(R:St->XK)(t:DA)(σ:St)(H:Hp)(Q:List V->Hp->Prop):Prop
 |mk (G:Hp) (L:List Addr) (ρ:En) (M:Ms) (q:List Dt->Ms->Prop) (x:DX) (r:Rl K G L M H) (n:lN K G L ρ σ) (h:t ρ M q x) (hx:uI K G L H R x) (hQ:∀vs H1,NK K G L H q vs H1->Q vs H1)
structure QS(A B:yz):Prop where
 nx:∀σ H,A.nx σ H->B.nx σ H
 rt:∀v H,A.rt v H->B.rt v H
 bk:∀σ H,A.bk σ H->B.bk σ H
 ct:∀σ H,A.ct σ H->B.ct σ H
inductive SW(K:fI)(R:St->XK)(t:DS)(De:yz)(σ:St)(H:Hp):Prop
 |mk (G:Hp) (L:List Addr) (ρ:En) (M:Ms) (Dn:lL) (r:Rl K G L M H) (n:lN K G L ρ σ) (h:t Dn ρ M) (hx:uI K G L H R Dn.x) (hQ:QS (uV K G L H Dn) De)
def JE(X:Cx)(R:St->XK)(e:Expr)(t:DE):Prop:=PE X e (yv X.K R t)
def JT(X:Cx)(R:St->XK)(e:Expr)(t:DT):Prop:=PT X e (BG X.K R t)
def JW(X:Cx)(R:St->XK)(e:Expr)(t:DT):Prop:=PW X e (BG X.K R t)
def JA(X:Cx)(R:St->XK)(es:List Expr)(t:DA):Prop:=PA X es (R7 X.K R t)
def JS(X:Cx)(R:St->XK)(st:Stmt)(t:DS):Prop:=PS X st (SW X.K R t)
def DP(X:Cx)(R:St->XK)(st:List Stmt)(t:DS):Prop:=Hh X st (SW X.K R t)
section
variable{K:fI}{G0:Hp}{L0:List Addr}{H0 G1:Hp}{L1:List Addr}{H1:Hp}
def Fin.back{q:DQ}(e:Ex G0 L0 H0 G1 L1 H1){v:V}{H:Hp}(h:Fin K G1 L1 H1 q v H):Fin K G0 L0 H0 q v H:=let ⟨d,G,L,M,a,b,c,f⟩:=h;⟨d,G,L,M,e.trans a,b,c,f⟩
def fb.back{q:En->Ms->Prop}(e:Ex G0 L0 H0 G1 L1 H1){v:St}{H:Hp}(h:fb K G1 L1 H1 q v H):fb K G0 L0 H0 q v H:=let ⟨d,G,L,M,a,b,c,f⟩:=h;⟨d,G,L,M,e.trans a,b,c,f⟩
def uM.back{q:Bool->Ms->Prop}(e:Ex G0 L0 H0 G1 L1 H1){v:Bool}{H:Hp}(h:uM K G1 L1 H1 q v H):uM K G0 L0 H0 q v H:=let ⟨G,L,M,a,b,f⟩:=h;⟨G,L,M,e.trans a,b,f⟩
def uV.back{Dn:lL}(e:Ex G0 L0 H0 G1 L1 H1):QS (uV K G1 L1 H1 Dn) (uV K G0 L0 H0 Dn):=⟨λ_ _ h=>fb.back e h,λ_ _ h=>Fin.back e h,λ_ _ h=>fb.back e h,λ_ _ h=>fb.back e h⟩
def SP.imp{X:Cx}{ζ:List (Addr×Obj)}{A B:yz}(e:QS A B){f:Flow}{s:Shared}(h:SP X ζ A f s):SP X ζ B f s:=by
 cases f with
 |next=>have⟨a,b,I,q⟩:=h;exact⟨a,b,I,e.nx _ _ q⟩
 |brk=>have⟨a,b,I,q⟩:=h;exact⟨a,b,I,e.bk _ _ q⟩
 |cont=>have⟨a,b,I,q⟩:=h;exact⟨a,b,I,e.ct _ _ q⟩
 |ret u=>have⟨v,a,b,I,r,q⟩:=h;exact⟨v,a,b,I,r,e.rt _ _ q⟩
end
section
variable{X:Cx}{R:St->XK}{e:Expr}
def JE.of{te:TE}{t:DE}(h:PE X e te)(hw:∀σ H G L ρ M q x,Rl X.K G L M H->lN X.K G L ρ σ->t ρ M q x->uI X.K G L H R x->te σ H (Fin X.K G L H q)):JE X R e t:=by intro ζ s σ H Q I ⟨G,L,ρ,M,q,x,r,n,ht,hx,hQ⟩;refine bJ (h ζ s σ H _ I (hw σ H G L ρ M q x r n ht hx)) λu s1 ⟨v,H1,I1,rv,f⟩=>⟨v,H1,I1,rv,hQ v H1 f⟩
def JT.of{te:TT}{t:DT}(h:PT X e te)(hw:∀σ H G L ρ M q x,Rl X.K G L M H->lN X.K G L ρ σ->t ρ M q x->uI X.K G L H R x->te σ H (uM X.K G L H q)):JT X R e t:=by intro ζ s σ H Q I ⟨G,L,ρ,M,q,x,r,n,ht,hx,hQ⟩;refine bJ (h ζ s σ H _ I (hw σ H G L ρ M q x r n ht hx)) λu s1 ⟨H1,I1,f⟩=>⟨H1,I1,hQ u H1 f⟩
def JW.of{te:TT}{t:DT}(h:PW X e te)(hw:∀σ H G L ρ M q x,Rl X.K G L M H->lN X.K G L ρ σ->t ρ M q x->uI X.K G L H R x->te σ H (uM X.K G L H q)):JW X R e t:=by intro wh ζ s σ H Q I ⟨G,L,ρ,M,q,x,r,n,ht,hx,hQ⟩;refine bJ (h wh ζ s σ H _ I (hw σ H G L ρ M q x r n ht hx)) λu s1 ⟨H1,I1,f⟩=>⟨H1,I1,hQ u H1 f⟩
def JA.of{es:List Expr}{te:TA}{t:DA}(h:PA X es te)(hw:∀σ H G L ρ M q x,Rl X.K G L M H->lN X.K G L ρ σ->t ρ M q x->uI X.K G L H R x->te σ H (NK X.K G L H q)):JA X R es t:=by intro pos ζ s σ H Q I ⟨G,L,ρ,M,q,x,r,n,ht,hx,hQ⟩;refine bJ (h pos ζ s σ H _ I (hw σ H G L ρ M q x r n ht hx)) λu s1 ⟨v,H1,I1,rv,f⟩=>⟨v,H1,I1,rv,hQ v H1 f⟩
def JS.of{st:Stmt}{te:TS}{t:DS}(h:PS X st te)(hw:∀σ H G L ρ M Dn,Rl X.K G L M H->lN X.K G L ρ σ->t Dn ρ M->uI X.K G L H R Dn.x->te (uV X.K G L H Dn) σ H):JS X R st t:=by intro ζ s σ H De I ⟨G,L,ρ,M,Dn,r,n,ht,hx,hQ⟩;exact bJ (h ζ s σ H _ I (hw σ H G L ρ M Dn r n ht hx)) λu s1 f=>SP.imp hQ f
def DP.of{st:List Stmt}{te:TS}{t:DS}(h:Hh X st te)(hw:∀σ H G L ρ M Dn,Rl X.K G L M H->lN X.K G L ρ σ->t Dn ρ M->uI X.K G L H R Dn.x->te (uV X.K G L H Dn) σ H):DP X R st t:=by intro ζ s σ H De I ⟨G,L,ρ,M,Dn,r,n,ht,hx,hQ⟩;exact bJ (h ζ s σ H _ I (hw σ H G L ρ M Dn r n ht hx)) λu s1 f=>SP.imp hQ f
end
def C1(i:Nat):DE:=λρ M q _=>match ρ[i]? with
 |some (some d)=>q d M
 |_=>False
def dC(d:Dt):DE:=λ_ M q _=>q d M
def jO(f:Dt->Dt->Ms->DQ->Prop)(a b:DE):DE:=λρ M q x=>a ρ M (λd1 M1=>b ρ M1 (λd2 M2=>f d1 d2 M2 q) x) x
def VC(f:Dt->Ms->DQ->Prop)(a:DE):DE:=λρ M q x=>a ρ M (λd1 M1=>f d1 M1 q) x
def PM:DA:=λ_ M q _=>q [] M
def Ke(a:DE)(r:DA):DA:=λρ M q x=>a ρ M (λd M1=>r ρ M1 (λds M2=>q (d::ds) M2) x) x
def A6(f:List Dt->Ms->DQ->Prop)(a:DA):DE:=λρ M q x=>a ρ M (λds M1=>f ds M1 q) x
def nh(K:fI)(r:R2)(f:Dt->Dt->Ms->DQ->Prop):Prop:=
 ∀G0 L0 H0 G L M H v1 v2 d1 d2 q,Ex G0 L0 H0 G L H->Rl K G L M H->Den K G L d1 v1->Den K G L d2 v2->f d1 d2 M q->r v1 v2 H (Fin K G0 L0 H0 q)
def XY(K:fI)(r:V->Hp->VK->Prop)(f:Dt->Ms->DQ->Prop):Prop:=
 ∀G0 L0 H0 G L M H v1 d1 q,Ex G0 L0 H0 G L H->Rl K G L M H->Den K G L d1 v1->f d1 M q->r v1 H (Fin K G0 L0 H0 q)
def B4(K:fI)(r:List V->Hp->VK->Prop)(f:List Dt->Ms->DQ->Prop):Prop:=
 ∀G0 L0 H0 G L M H vs ds q,Ex G0 L0 H0 G L H->Rl K G L M H->Ψ K G L ds vs->f ds M q->r vs H (Fin K G0 L0 H0 q)
section
variable{K:fI}{R:St->XK}{ta tb:DE}{tc:DA}{σ:St}{H G:Hp}{L:List Addr}{ρ:En}{M:Ms}{q:DQ}{x:DX}
def CD{r:R2}{f:Dt->Dt->Ms->DQ->Prop}(od:nh K r f)(rl:Rl K G L M H)(n:lN K G L ρ σ)(h:jO f ta tb ρ M q x)(hx:uI K G L H R x):Vl r (yv K R ta) (yv K R tb) σ H (Fin K G L H q):=by refine⟨G,L,ρ,M,_,x,rl,n,h,hx,λv H1 xz=>?_⟩;have⟨d1,G1,L1,M1,e1,r1,n1,h1⟩:=xz;refine⟨G1,L1,ρ,M1,_,x,r1,n.mono e1,h1,hx.on e1,λv2 H2 xz=>?_⟩;have⟨d2,G2,L2,M2,e2,r2,n2,h2⟩:=xz;exact od G L H G2 L2 M2 H2 v v2 d1 d2 q (e1.trans e2) r2 (Den.mono e2.g e2.l _ _ n1) n2 h2
def TY{r:V->Hp->VK->Prop}{f:Dt->Ms->DQ->Prop}(od:XY K r f)(rl:Rl K G L M H)(n:lN K G L ρ σ)(h:VC f ta ρ M q x)(hx:uI K G L H R x):tUn r (yv K R ta) σ H (Fin K G L H q):=by refine⟨G,L,ρ,M,_,x,rl,n,h,hx,λv H1 xz=>?_⟩;have⟨d1,G1,L1,M1,e1,r1,n1,h1⟩:=xz;exact od G L H G1 L1 M1 H1 v d1 q e1 r1 n1 h1
def NU{r:List V->Hp->VK->Prop}{f:List Dt->Ms->DQ->Prop}(od:B4 K r f)(rl:Rl K G L M H)(n:lN K G L ρ σ)(h:A6 f tc ρ M q x)(hx:uI K G L H R x):Yo r (R7 K R tc) σ H (Fin K G L H q):=by refine⟨G,L,ρ,M,_,x,rl,n,h,hx,λv H1 xz=>?_⟩;have⟨d1,G1,L1,M1,e1,r1,n1,h1⟩:=xz;exact od G L H G1 L1 M1 H1 v d1 q e1 r1 n1 h1
end
section
variable{X:Cx}{R:St->XK}{a b c:Expr}{ta tb:DE}{pos:Pos}
def jv(i:Nat){x:Str}{pos:Pos}(hN:X.N[i]? =some x:=by rfl)(hv:Zt X.env.scope x:=by first| exact Or.inl rfl| exact Or.inr (Or.inl rfl)| exact Or.inr (Or.inr rfl))(hd:(x==("__debug__":Str))=false:=by decide)
  (K9:(x==("__classdict__":Str))=false:=by decide):JE X R (.Name x pos) (C1 i):=.of (Pj hN hv hd K9) λσ H G L ρ M q x r n h hx=>by
 unfold C1 at h;split at h
 ·rename_i d e;have⟨v,e1,h1⟩:=n.eP i d e;exact⟨v,e1,d,G,L,M,.refl _ _ _,r,h1,h⟩
 ·exact h.elim
def OX{d:Dt}{v:V}{e:Expr}(h:PE X e (tC v))(hd:∀G L,Den X.K G L d v):JE X R e (dC d):=.of h λσ H G L ρ M q x r n h hx=>⟨d,G,L,M,.refl _ _ _,r,hd G L,h⟩
def ο{i j pos}:JE X R (.Constant (.int i) j pos) (dC (.int i)):=OX Rz λ_ _=>rfl
def BF{b j pos}:JE X R (.Constant (.bool b) j pos) (dC (.bl b)):=OX Ud λ_ _=>rfl
def MG{j pos}:JE X R (.Constant .none j pos) (dC .bj):=OX Pz λ_ _=>rfl
def ia{x j pos}:JE X R (.Constant (.str x) j pos) (dC (.str x)):=OX HG λ_ _=>rfl
def wb{op:Operator}{r:R2}{f:Dt->Dt->Ms->DQ->Prop}(ho:jo X (binaryOp op) r)(od:nh X.K r f)(ja:JE X R a ta)(jb:JE X R b tb):JE X R (.BinOp a op b pos) (jO f ta tb):=
 .of (Th ho ja jb) λσ H G L ρ M q x r n h hx=>CD od r n h hx
def Yt{op:UnaryOp}{r:V->Hp->VK->Prop}{f:Dt->Ms->DQ->Prop}(ho:VX X (unaryOp op) r)(od:XY X.K r f)(ja:JE X R a ta):JE X R (.UnaryOp op a pos) (VC f ta):=
 .of (UK ho ja) λσ H G L ρ M q x r n h hx=>TY od r n h hx
def vk{op:CmpOp}{r:R2}{f:Dt->Dt->Ms->DQ->Prop}(ho:jo X (compareOp op) r)(od:nh X.K r f)(ja:JE X R a ta)(jb:JE X R b tb)(hm:behindInMarks op b=false):JE X R (.Compare a [op] [b] pos) (jO f ta tb):=
 .of (Np ho ja jb hm) λσ H G L ρ M q x r n h hx=>CD od r n h hx
def Vn{r:R2}{f:Dt->Dt->Ms->DQ->Prop}(hr:Ll X r)(od:nh X.K r f)(ja:JE X R a ta)(jb:JE X R b tb)(hs:wD b):JE X R (.Subscript a b pos) (jO f ta tb):=
 .of (Sa hr ja jb hs) λσ H G L ρ M q x r n h hx=>CD od r n h hx
def da{env:Env}{es:List Expr}{c j p}:starEach (.Constant c j p::es) env=(false,eval (.Constant c j p) env)::starEach es env:=rfl
def N_{env:Env}{es:List Expr}{c p}:starEach (.Name c p::es) env=(false,eval (.Name c p) env)::starEach es env:=rfl
def bL{env:Env}{es:List Expr}{a o b p}:starEach (.BinOp a o b p::es) env=(false,eval (.BinOp a o b p) env)::starEach es env:=rfl
def aY{env:Env}{es:List Expr}{a b c p}:starEach (.Call a b c p::es) env=(false,eval (.Call a b c p) env)::starEach es env:=rfl
def aZ{env:Env}{es:List Expr}{a b p}:starEach (.Subscript a b p::es) env=(false,eval (.Subscript a b p) env)::starEach es env:=rfl
def Ek{env:Env}{es:List Expr}{a b p}:starEach (.Tuple a b p::es) env=(false,eval (.Tuple a b p) env)::starEach es env:=rfl
def DY{env:Env}{es:List Expr}{a o b p}:starEach (.Compare a o b p::es) env=(false,eval (.Compare a o b p) env)::starEach es env:=rfl
def θ:JA X R [] PM:=.of Pt λσ H G L ρ M q x r n h hx=>⟨[],G,L,M,.refl _ _ _,r,rfl,h⟩
def ι{e:Expr}{es:List Expr}{te:DE}{t:DA}(ha:JE X R e te)(hr:JA X R es t)(hs:starEach (e::es) X.env=(false,eval e X.env)::starEach es X.env:=by first| exact da| exact N_| exact bL| exact aY| exact aZ| exact Ek| exact DY| exact aai| rfl):JA X R (e::es) (Ke te t):=
 .of (Lo ha hr hs) λσ H G L ρ M q x rl n h hx=>by refine⟨G,L,ρ,M,_,x,rl,n,h,hx,λv H1 xz=>?_⟩;have⟨d1,G1,L1,M1,e1,r1,n1,h1⟩:=xz;refine⟨G1,L1,ρ,M1,_,x,r1,n.mono e1,h1,hx.on e1,λv2 H2 xz=>?_⟩;have⟨d2,G2,L2,M2,e2,r2,n2,h2⟩:=xz;exact⟨d1::d2,G2,L2,M2,e1.trans e2,r2,⟨_,_,rfl,Den.mono e2.g e2.l _ _ n1,n2⟩,h2⟩
def Ρ{c:Str}{p:Pos}{es:List Expr}{te:DE}{t:DA}(ha:JE X R (.Name c p) te)(hr:JA X R es t):JA X R (.Name c p::es) (Ke te t):=ι ha hr N_
def UP(t:DA):DE:=λρ M q x=>t ρ M (λds M1=>ds.length<=sizeLine/\q (.tup ds) M1) x
def U'(t:DA):DE:=λρ M q x=>t ρ M (λds M1=>ds.length<=sizeLine/\q (.lst ds) M1) x
def Oe(t:DA):DE:=λρ M q x=>t ρ M (λds M1=>ds.length<=sizeLine/\q (.loc M1.length) (M1++[.lst ds])) x
def kW{K:fI}{G0:Hp}{L0:List Addr}{H0 G:Hp}{L:List Addr}{M:Ms}{H:Hp}{p:Addr}{o:HO}{d:Dt}{q:DQ}(e:Ex G0 L0 H0 G L H)(r:Rl K G L M H)(hp:H p=none)(hd:Den K (upd G p o) L d (.ref p))(h:q d M):Fin K G0 L0 H0 q (.ref p) (upd H p o):=
 ⟨d,upd G p o,L,M,e.trans (r.RH hp),r.LG hp,hd,h⟩
def qL{K:fI}{G:Hp}{L:List Addr}{M:Ms}{H:Hp}{p:Addr}{ds:List Dt}{vs:List V}(r:Rl K G L M H)(hp:H p=none)(h:Ψ K G L ds vs):Den K (upd G p (.tup vs)) L (.tup ds) (.ref p):=
 ⟨p,vs,rfl,Ω,Ψ.mono (r.RH hp).g (.refl _) _ _ h⟩
def qM{K:fI}{G:Hp}{L:List Addr}{M:Ms}{H:Hp}{p:Addr}{ds:List Dt}{vs:List V}(r:Rl K G L M H)(hp:H p=none)(h:Ψ K G L ds vs):Den K (upd G p (.lst vs)) L (.lst ds) (.ref p):=
 ⟨p,vs,rfl,Ω,Ψ.mono (r.RH hp).g (.refl _) _ _ h⟩
def jH{K:fI}{G0:Hp}{L0:List Addr}{H0 G:Hp}{L:List Addr}{M:Ms}{H:Hp}{p:Addr}{q:DQ}{ds:List Dt}{vs:List V}(e:Ex G0 L0 H0 G L H)(r:Rl K G L M H)(hp:H p=none)(hd:Ψ K G L ds vs)(h:q (.loc M.length) (M++[.lst ds])):Fin K G0 L0 H0 q (.ref p) (upd H p (.lst vs)):=
 ⟨.loc M.length,G,L++[p],M++[.lst ds],e.trans (r.VN hp),r.M7 (m:=.lst ds) hp ⟨vs,Ω,Ψ.mono (.refl _) ⟨[p],rfl⟩ _ _ hd⟩,⟨p,rfl,by rw[<-r.len,List.getElem?_append_right (Nat.le_refl _)];simp⟩,h⟩
variable{es:List Expr}{t:DA}
def eI{x1}(h:JA X R es t):JE X R (.Tuple es x1 pos) (UP t):=.of (QA h) λσ H G L ρ M q x rl n h hx=>by refine⟨G,L,ρ,M,_,x,rl,n,h,hx,fun v H1 ⟨d1,G1,L1,M1,e1,r1,n1,h1⟩=>⟨by rw[<-n1.length];exact h1.1,λp hp=>?_⟩⟩;exact kW e1 r1 hp (qL r1 hp n1) h1.2
def lQ(h:JA X R es t):JE X R (.List es pos) (U' t):=.of (KU h) λσ H G L ρ M q x rl n h hx=>by refine⟨G,L,ρ,M,_,x,rl,n,h,hx,fun v H1 ⟨d1,G1,L1,M1,e1,r1,n1,h1⟩=>⟨by rw[<-n1.length];exact h1.1,λp hp=>?_⟩⟩;exact kW e1 r1 hp (qM r1 hp n1) h1.2
def j3(h:JA X R es t):JE X R (.List es pos) (Oe t):=.of (KU h) λσ H G L ρ M q x rl n h hx=>by refine⟨G,L,ρ,M,_,x,rl,n,h,hx,fun v H1 ⟨d1,G1,L1,M1,e1,r1,n1,h1⟩=>⟨by rw[<-n1.length];exact h1.1,λp hp=>?_⟩⟩;exact jH e1 r1 hp n1 h1.2
def kn(t:DE):DT:=λρ M q x=>t ρ M (λd M1=>match d with
 |.bl b=>q b M1
 |_=>False) x
def T5(t u:DT):DT:=λρ M q x=>t ρ M (λc M1=>(c=true->u ρ M1 q x)/\(c=false->q false M1)) x
def orT(t u:DT):DT:=λρ M q x=>t ρ M (λc M1=>(c=true->q true M1)/\(c=false->u ρ M1 q x)) x
def TN(t:DT):DT:=λρ M q x=>t ρ M (λc M1=>q (!c) M1) x
def Q2{K:fI}{t:DE}{σ:St}{H G:Hp}{L:List Addr}{ρ:En}{M:Ms}{q:Bool->Ms->Prop}{x:DX}(rl:Rl K G L M H)(n:lN K G L ρ σ)(h:kn t ρ M q x)(hx:uI K G L H R x):tB (yv K R t) σ H (uM K G L H q):=by
 refine⟨G,L,ρ,M,_,x,rl,n,h,hx,λv H1 xz=>?_⟩;have⟨d1,G1,L1,M1,e1,r1,n1,h1⟩:=xz
 (try dsimp only at h1)
 split at h1
 ·rename_i b;exact⟨b,n1,G1,L1,M1,e1,r1,h1⟩
 ·exact h1.elim
def bH{e:Expr}{t:DE}(h:JE X R e t)(he:∀whole,isTrue e X.env whole=(do let v<-whole;standAt e.pos;holding [v] (truthy v)):=by intro _;rfl):JT X R e (kn t):=
 .of (Q7 h he) λσ H G L ρ M q x rl n h hx=>Q2 rl n h hx
def fC{op:CmpOp}{r:R2}{f:Dt->Dt->Ms->DQ->Prop}(ho:jo X (compareOp op) r)(od:nh X.K r f)(ja:JE X R a ta)(jb:JE X R b tb)(hm:behindInMarks op b=false):JT X R (.Compare a [op] [b] pos) (kn (jO f ta tb)):=
 .of (LK ho ja jb hm) λσ H G L ρ M q x rl n h hx=>by
  have h:jO f ta tb ρ M (λd M1=>match d with| .bl b=>q b M1| _=>False) x:=h;refine⟨G,L,ρ,M,_,x,rl,n,h,hx,λv H1 xz=>?_⟩;have⟨d1,G1,L1,M1,e1,r1,n1,h1⟩:=xz;refine⟨G1,L1,ρ,M1,_,x,r1,n.mono e1,h1,hx.on e1,λv2 H2 xz=>?_⟩;have⟨d2,G2,L2,M2,e2,r2,n2,h2⟩:=xz;have:=od G L H G2 L2 M2 H2 v v2 d1 d2 _ (e1.trans e2) r2 (Den.mono e2.g e2.l _ _ n1) n2 h2;have e:(λx H'=>∃k,x=V.bl k/\uM X.K G L H q k H')=Fin X.K G L H (λd M1=>match d with| .bl b=>q b M1| _=>False):=by
   funext y H'
   apply propext;constructor
   ·rintro⟨k,rfl,G3,L3,M3,e3,r3,h3⟩;exact⟨.bl k,G3,L3,M3,e3,r3,rfl,h3⟩
   ·rintro⟨d,G3,L3,M3,e3,r3,n3,h3⟩;split at h3
    ·rename_i k;exact⟨k,n3,G3,L3,M3,e3,r3,h3⟩
    ·exact h3.elim
  rw[e];exact this
def JW.jt{e:Expr}{t:DT}(h:JW X R e t):JT X R e t:=h _
variable{t1 t2:DT}{rest:List Expr}
def Em(ha:JT X R a t1):JW X R (.BoolOp .And [a] pos) t1:=pw_and1 ha
def gR(ha:JT X R a t1):JW X R (.BoolOp .Or [a] pos) t1:=pw_or1 ha
def Hu(ha:JT X R a t1)(hb:JW X R (.BoolOp .And (b::rest) pos) t2):JW X R (.BoolOp .And (a::b::rest) pos) (T5 t1 t2):=.of (pw_and ha hb) λσ H G L ρ M q x rl n h hx=>by
 refine⟨G,L,ρ,M,_,x,rl,n,h,hx,λc H1 xz=>?_⟩;have⟨G1,L1,M1,e1,r1,h1⟩:=xz;cases c with
 |true=>exact FI ⟨G1,L1,ρ,M1,_,x,r1,n.mono e1,h1.1 rfl,hx.on e1,λb H2 f=>uM.back e1 f⟩
 |false=>exact EX ⟨G1,L1,M1,e1,r1,h1.2 rfl⟩
def gw(ha:JT X R a t1)(hb:JW X R (.BoolOp .Or (b::rest) pos) t2):JW X R (.BoolOp .Or (a::b::rest) pos) (orT t1 t2):=.of (pw_or ha hb) λσ H G L ρ M q x rl n h hx=>by
 refine⟨G,L,ρ,M,_,x,rl,n,h,hx,λc H1 xz=>?_⟩;have⟨G1,L1,M1,e1,r1,h1⟩:=xz;cases c with
 |true=>exact FI ⟨G1,L1,M1,e1,r1,h1.1 rfl⟩
 |false=>exact EX ⟨G1,L1,ρ,M1,_,x,r1,n.mono e1,h1.2 rfl,hx.on e1,λb H2 f=>uM.back e1 f⟩
def eU(ha:JT X R a t1):JT X R (.UnaryOp .Not a pos) (TN t1):=.of (PR ha) λσ H G L ρ M q x rl n h hx=>
 ⟨G,L,ρ,M,_,x,rl,n,h,hx,λ_ _ ⟨G,L,M,e,r,h⟩=>⟨G,L,M,e,r,h⟩⟩
def UJ(t u:DE):DE:=λρ M q x=>t ρ M (λd M1=>match d with
 |.bl c=>(c=true->u ρ M1 q x)/\(c=false->q (.bl false) M1)
 |_=>False) x
def T4(t:DE):DE:=λρ M q x=>t ρ M (λd M1=>match d with
 |.bl c=>q (.bl (!c)) M1
 |_=>False) x
def Z7(t:DT)(u v:DE):DE:=λρ M q x=>t ρ M (λc M1=>(c=true->u ρ M1 q x)/\(c=false->v ρ M1 q x)) x
def kG{op}{t:DE}(h:JE X R a t):JE X R (.BoolOp op [a] pos) t:=OZ h
def gc(ha:JE X R a ta)(hb:JE X R (.BoolOp .And (b::rest) pos) tb):JE X R (.BoolOp .And (a::b::rest) pos) (UJ ta tb):=.of (Qx ha hb) λσ H G L ρ M q x rl n h hx=>by
 refine⟨G,L,ρ,M,_,x,rl,n,h,hx,λv H1 xz=>?_⟩;have⟨d1,G1,L1,M1,e1,r1,n1,h1⟩:=xz
 (try dsimp only at h1)
 split at h1
 ·rename_i c;refine⟨c,n1,?_⟩;cases c with
  |true=>exact FI ⟨G1,L1,ρ,M1,_,x,r1,n.mono e1,h1.1 rfl,hx.on e1,λb H2 f=>Fin.back e1 f⟩
  |false=>exact EX ⟨.bl false,G1,L1,M1,e1,r1,rfl,h1.2 rfl⟩
 ·exact h1.elim
def Rf(ha:JE X R a ta):JE X R (.UnaryOp .Not a pos) (T4 ta):=.of (Qr ha) λσ H G L ρ M q x rl n h hx=>by
 refine⟨G,L,ρ,M,_,x,rl,n,h,hx,λv H1 xz=>?_⟩;have⟨d1,G1,L1,M1,e1,r1,n1,h1⟩:=xz
 (try dsimp only at h1)
 split at h1
 ·rename_i c;exact⟨c,n1,.bl (!c),G1,L1,M1,e1,r1,rfl,h1⟩
 ·exact h1.elim
def uX{c:Expr}(hc:JT X R c t1)(ha:JE X R a ta)(hb:JE X R b tb):JE X R (.IfExp c a b pos) (Z7 t1 ta tb):=.of (KZ hc ha hb) λσ H G L ρ M q x rl n h hx=>by
 refine⟨G,L,ρ,M,_,x,rl,n,h,hx,λc H1 xz=>?_⟩;have⟨G1,L1,M1,e1,r1,h1⟩:=xz;cases c with
 |true=>exact FI ⟨G1,L1,ρ,M1,_,x,r1,n.mono e1,h1.1 rfl,hx.on e1,λb H2 f=>Fin.back e1 f⟩
 |false=>exact EX ⟨G1,L1,ρ,M1,_,x,r1,n.mono e1,h1.2 rfl,hx.on e1,λb H2 f=>Fin.back e1 f⟩
end
def Ob:DS:=λDn ρ M=>Dn.nx ρ M
def SV(t u:DS):DS:=λDn ρ M=>t {Dn with nx:=u Dn} ρ M
def Z3(c:DT)(t u:DS):DS:=λDn ρ M=>c ρ M (λb M1=>(b=true->t Dn ρ M1)/\(b=false->u Dn ρ M1)) Dn.x
def UB(t:DE):DS:=λDn ρ M=>t ρ M Dn.rt Dn.x
def MQ(i:Nat)(t:DE):DS:=λDn ρ M=>t ρ M (λd M1=>Dn.nx (ρ.set i (some d)) M1) Dn.x
def KP(t:DE):DS:=λDn ρ M=>t ρ M (λ_ M1=>Dn.nx ρ M1) Dn.x
def Xu(t:DS):DS:=λDn ρ M=>∃J:En->Ms->Prop,t {Dn with nx:=J} ρ M/\∀ρ' M',J ρ' M'->Dn.nx ρ' M'
section
variable{X:Cx}{R:St->XK}{st:Stmt}{rest:List Stmt}{t u:DS}{e:Expr}{te:DE}{pos:Pos}
def Ο:DP X R [] Ob:=.of LY λσ H G L ρ M Dn rl n h hx=>⟨ρ,G,L,M,.refl _ _ _,rl,n,h⟩
def μ(h1:JS X R st t):DP X R [st] t:=Ny h1
def η(h1:JS X R st t)(h2:DP X R rest u):DP X R (st::rest) (SV t u):=.of (Hk h1 h2) λσ H G L ρ M Dn rl n h hx=>by refine⟨G,L,ρ,M,_,rl,n,h,hx,⟨λσ1 H1 xz=>?_,λ_ _ f=>f,λ_ _ f=>f,λ_ _ f=>f⟩⟩;have⟨ρ1,G1,L1,M1,e1,r1,n1,h1⟩:=xz;exact⟨G1,L1,ρ1,M1,Dn,r1,n1,h1,hx.on e1,uV.back e1⟩
def qg:JS X R (.Continue pos) (λDn ρ M=>Dn.ct ρ M):=.of zx λσ H G L ρ M Dn rl n h hx=>⟨ρ,G,L,M,.refl _ _ _,rl,n,h⟩
def Γ(he:JE X R e te):JS X R (.Return (some e) pos) (UB te):=.of (P8 he) λσ H G L ρ M Dn rl n h hx=>⟨G,L,ρ,M,_,_,rl,n,h,hx,λ_ _ f=>f⟩
def eT(he:JE X R e te)(hs:swapsWith e none pos.line X.env=pure false:=by rfl):JS X R (.Expr e pos) (KP te):=.of (Mj he hs) λσ H G L ρ M Dn rl n h hx=>by refine⟨G,L,ρ,M,_,_,rl,n,h,hx,λv H1 ⟨d1,G1,L1,M1,e1,r1,n1,h1⟩=>⟨ρ,G1,L1,M1,e1,r1,n.mono e1,h1⟩⟩
def ax{c:Expr}{a b:List Stmt}{tc:DT}(hc:JT X R c tc)(ha:DP X R a t)(hb:DP X R b u):JS X R (.If c a b pos) (Z3 tc t u):=.of (UG hc ha hb) λσ H G L ρ M Dn rl n h hx=>by
 refine⟨G,L,ρ,M,_,_,rl,n,h,hx,λc H1 xz=>?_⟩;have⟨G1,L1,M1,e1,r1,h1⟩:=xz;cases c with
 |true=>exact FI ⟨G1,L1,ρ,M1,Dn,r1,n.mono e1,h1.1 rfl,hx.on e1,uV.back e1⟩
 |false=>exact EX ⟨G1,L1,ρ,M1,Dn,r1,n.mono e1,h1.2 rfl,hx.on e1,uV.back e1⟩
def ω(i:Nat){x:Str}{pos':Pos}(hN:X.N.Nodup)(he:JE X R e te)(hi:X.N[i]? =some x:=by rfl)(hx:Loc X.env.scope x:=by first| exact .inl rfl| exact .inr rfl)(hs:swapsWith e (some (.Name x pos')) pos.line X.env=pure false:=by rfl)(hf:X.fn x=true\/X.env.scope.names.lookup x=some .local:=by first| exact .inl rfl| exact .inr rfl| assumption):
  JS X R (.Assign [.Name x pos'] e pos) (MQ i te):=.of (Ph hN hi hx he hs hf) λσ H G L ρ M Dn rl n h hx=>by
 refine⟨G,L,ρ,M,_,_,rl,n,h,hx,λv H1 ⟨d1,G1,L1,M1,e1,r1,n1,h1⟩=>⟨_,G1,L1,M1,e1,r1,(n.mono e1).set i n1,h1⟩⟩
def iN(h:JS X R st t):JS X R st (Xu t):=.of h λσ H G L ρ M Dn rl n h hx=>by have⟨J,h1,h2⟩:=h;refine⟨G,L,ρ,M,_,rl,n,h1,hx,⟨λσ1 H1 ⟨ρ1,G1,L1,M1,e1,r1,n1,h1⟩=>⟨ρ1,G1,L1,M1,e1,r1,n1,h2 _ _ h1⟩,λ_ _ f=>f,λ_ _ f=>f,λ_ _ f=>f⟩⟩
end
abbrev DXF:=Addr->List (Str×Dt)->Ms->Prop
abbrev DF:=List Dt->Ms->DQ->DXF->Prop
inductive cW(K:fI)(T:DF)(vs:List V)(H:Hp)(Q:VK)(E:XK):Prop
 |mk (G:Hp) (L:List Addr) (ds:List Dt) (M:Ms) (q:DQ) (x:DXF) (r:Rl K G L M H) (n:Ψ K G L ds vs) (h:T ds M q x) (hQ:∀v H1,Fin K G L H q v H1->Q v H1) (hE:∀C fs M1 G1 L1 H1 od,x C fs M1->Ex G L H G1 L1 H1->Rl K G1 L1 M1 H1->SJ K G1 L1 H1 fs od->E (.ref C) od H1)
def oY(N:List Str)(ds:List Dt):En:=ds.map some++List.replicate (N.length-ds.length) none
def Ji{K:fI}{G:Hp}{L:List Addr}{N:List Str}{ds:List Dt}{vs:List V}(h:Ψ K G L ds vs):lN K G L (oY N ds) (start N vs):=by
 have hl:=h.length;refine⟨by unfold oY start;simp[hl],λi d e=>?_⟩;unfold oY at e;unfold start;by_cases hi:i<ds.length
 ·rw[List.getElem?_append_left (by simpa using hi),List.getElem?_map]at e;rw[List.getElem?_append_left (by simpa [<-hl] using hi),List.getElem?_map];cases q:ds[i]? with
  |none=>rw[q]at e;cases e
  |some d'=>
   rw[q]at e;cases e;have⟨v,e1,h1⟩:=h.get q;exact⟨v,by rw[e1];rfl,h1⟩
 ·rw[List.getElem?_append_right (by simpa using Nat.le_of_not_lt hi),List.getElem?_replicate]at e;split at e <;> cases e
section
variable{P:Program}{w:World}{K:fI}{mg:Str->Option Value}{base:Heap}
def cZ.dR{x qual:Str}{st:Stmt}{f:Addr}{fd:FuncData}{N ps:List Str}{k:Nat}{T:DF}(F:cZ K x qual st f fd)(S:Ε N ps (ψ st))(len:∀ds M q x,T ds M q x->ds.length=ps.length)
  (yK:∀(bz:Value) (A:Around) (outer:List Env) (s:Shared) (H:Hp) (E:XK),bT k (A.deeper (envOfC qual (ψ st) s.heap.objs.size f bz))->
   ∃t,DP (xf (cC P w) P w K mg base N qual (ψ st) f bz A outer s H E) (λ_=>E) (iC st) t/\∀ds M q x,T ds M q x->t {nx:=λ_ M'=>q .bj M',rt:=q,x:=λ_=>x} (oY N ds) M):
  av P w K mg base (cC P w) (k+1) f fd ps (cW K T):=by
 refine F.okX S (λvs H Q E h=>?_) (λbz A outer s H vs Q E hr h=>?_)
 ·have⟨G,L,ds,M,q,x,rl,n,hT,_⟩:=h;rw[<-n.length];exact len _ _ _ _ hT
 ·have⟨t,j,ht⟩:=yK bz A outer s H E hr;have⟨G,L,ds,M,q,x,rl,n,hT,hQ,hE⟩:=h;refine⟨_,j,G,L,oY N ds,M,_,rl,Ji n,ht ds M q x hT,λσ ρ C fs M' G' L' H' od hx e r _ y=>hE C fs M' G' L' H' od hx e r y,⟨λσ' H' ⟨ρ',G',L',M',e,r,_,h⟩=>hQ _ _ ⟨.bj,G',L',M',e,r,rfl,h⟩,λv H' f=>hQ v H' f,λ_ _ ⟨_,_,_,_,_,_,_,h⟩=>h.elim,λ_ _ ⟨_,_,_,_,_,_,_,h⟩=>h.elim⟩⟩
structure aw(P:Program)(w:World)(K:fI)(mg:Str->Option Value)(base:Heap)(k:Nat)(x:Str)(ps:List Str)(T:DF)(f:Addr)(fd:FuncData):Prop where
 ok:av P w K mg base (cC P w) k f fd ps (cW K T)
 b:jU K fd ps []
 m:mg x=some (.ref f)
 kp:PySem.W.keepIn K (.ref f)=true
end
def N3(T:DF)(t:DA):DE:=λρ M q x=>t ρ M (λds M1=>T ds M1 q (λC fs M'=>x ρ C fs M')) x
section
variable{X:Cx}{R:St->XK}{T:DF}{k k':Nat}{f:Addr}{fd:FuncData}{ps:List Str}{x:Str}{p pos:Pos}{e:Expr}{es:List Expr}{t:DA}
def aa(C:aw X.prog X.w X.K X.mg X.base k x ps T f fd)(hr:bT k' X.A)(hx:d_ (cC X.prog X.w) X R)(ha:JA X R (e::es) t)(hk:k<=k':=by decide)(hg:Gl X x:=by rfl)(oy:(x==("__debug__":Str))=false:=by decide)
  (he:starEach (e::es) X.env=(false,eval e X.env)::starEach es X.env:=by rfl) (gz:(backTo pos (starEach es X.env)).any (·.1)=false:=by rfl):JE X R (.Call (.Name x p) (e::es) [] pos) (N3 T t):=
 .of (JP C.ok (hr.mono hk) hg C.m C.kp C.b .nil hx ha oy he gz) λσ H G L ρ M q x rl n h hx=>by refine⟨G,L,ρ,M,_,x,rl,n,h,hx,λvs H1 xz=>?_⟩;have⟨ds,G1,L1,M1,e1,r1,n1,h1⟩:=xz;show cW X.K T (vs++[]) H1 _ _;rw[aa7];exact⟨G1,L1,ds,M1,q,_,r1,n1,h1,λv H' f=>Fin.back e1 f,λC fs M' G' L' H' od hq e' r' y=>hx σ ρ C fs M' G' L' H' od hq (e1.trans e') r' (n.mono (e1.trans e')) y⟩
end
structure Yl(K:fI)(J:It)(xs:List Dt)(G0:Hp)(L0:List Addr):Prop where
 go:∀(i:Nat) G L M H (d:Dt),eD G0 G->Pre L0 L->Rl K G L M H->xs[i]? =some d->J.go i H/\∀v H',J.TV i H v H'->∃G',Ex G L H G' L H'/\Rl K G' L M H'/\Den K G' L d v
 stop:∀(i:Nat) G L M H,eD G0 G->Pre L0 L->Rl K G L M H->xs.length<=i->J.stop i H
inductive Tq(K:fI)(G0:Hp)(L0:List Addr)(H0:Hp)(q:List Dt->Ms->Prop)(J:It)(H:Hp):Prop
 |mk (xs:List Dt) (G:Hp) (L:List Addr) (M:Ms) (e:Ex G0 L0 H0 G L H) (r:Rl K G L M H) (y:Yl K J xs G L) (h:q xs M)
inductive Yy(K:fI)(R:St->XK)(t:DA)(σ:St)(H:Hp)(Q:It->Hp->Prop):Prop
 |mk (G:Hp) (L:List Addr) (ρ:En) (M:Ms) (q:List Dt->Ms->Prop) (x:DX) (r:Rl K G L M H) (n:lN K G L ρ σ) (h:t ρ M q x) (hx:uI K G L H R x) (hQ:∀J H1,Tq K G L H q J H1->Q J H1)
def JI(X:Cx)(R:St->XK)(tg iter:Expr)(t:DA):Prop:=PI X tg iter (Yy X.K R t)
def Le.imp{X:Cx}{ζ:List (Addr×Obj)}{σ:St}{tg:Expr}{R R':It->Hp->Prop}(hR:∀J H,R J H->R' J H){v:Value}{s:Shared}(h:Le X ζ σ tg R v s):Le X ζ σ tg R' v s:=by have⟨it,fp,tn,J,H',a,b,c,d,e,f⟩:=h;exact⟨it,fp,tn,J,H',a,b,c,d,e,hR J H' f⟩
def Ef{K:fI}{G:Hp}{L:List Addr}{a:Addr}{ds:List Dt}{vs:List V}(h:∀G':Hp,eD G G'->gK K G' a vs)(n:Ψ K G L ds vs):Yl K (VS K a) ds G L where
 go:=λi G1 L1 M1 H1 d g l r e=>by
  have⟨v,e1,n1⟩:=n.get e;have hs:=h H1 (g.trans r.sub)
  exact⟨⟨vs,v,hs,e1⟩,fun v' H' ⟨eH,y⟩=>by
   subst eH;have e2:=y vs hs;rw[e1]at e2;cases e2
   exact⟨G1,.refl _ _ _,r,Den.mono g l _ _ n1⟩⟩
 stop:=λi G1 L1 M1 H1 g l r e=>⟨vs,h H1 (g.trans r.sub),by rw[<-n.length];exact e⟩
def J_{K:fI}{G:Hp}{L:List Addr}{a:Addr}{ds:List Dt}{vs:List V}(h:∀G':Hp,eD G G'->nZ K G' a vs)(n:Ψ K G L ds vs):Yl K (YD K a) ds G L where
 go:=λi G1 L1 M1 H1 d g l r e=>by
  have⟨v,e1,n1⟩:=n.get e;have hs:=h H1 (g.trans r.sub)
  exact⟨⟨vs,v,hs,e1⟩,fun v' H' ⟨eH,y⟩=>by
   subst eH;have e2:=y vs hs;rw[e1]at e2;cases e2
   exact⟨G1,.refl _ _ _,r,Den.mono g l _ _ n1⟩⟩
 stop:=λi G1 L1 M1 H1 g l r e=>⟨vs,h H1 (g.trans r.sub),by rw[<-n.length];exact e⟩
def dN(lo:Int)(n:Nat):List Dt:=(List.range n).map λk:Nat=>Dt.int (lo+(k:Int))
def K1{K:fI}{G:Hp}{L:List Addr}{lo:Int}{n:Nat}:Yl K (TM lo n) (dN lo n) G L where
 go :=λi G1 L1 M1 H1 d g l r e=>by
  unfold dN at e;rw[aaq]at e;have hi:i<n:=by
   cases q:(List.range n)[i]? with
   |none=>rw[q]at e;cases e
   |some j=>
    have:=(aaf.mp q).1;rwa[abc]at this
  rw[aaY hi]at e;cases e;exact⟨hi,λv' H' ⟨eH,y⟩=>by subst eH y;exact⟨G1,.refl _ _ _,r,rfl⟩⟩
 stop:=λi G1 L1 M1 H1 g l r e=>by show n<=i;unfold dN at e;simpa using e
section
variable{X:Cx}{R:St->XK}{tg iter:Expr}
def JI.of{wi:TI}{t:DA}(h:PI X tg iter wi)(hw:∀σ H G L ρ M q x,Rl X.K G L M H->lN X.K G L ρ σ->t ρ M q x->uI X.K G L H R x->wi σ H (Tq X.K G L H q)):JI X R tg iter t:=by intro ζ s σ H Q I ⟨G,L,ρ,M,q,x,r,n,ht,hx,hQ⟩;exact bJ (h ζ s σ H _ I (hw σ H G L ρ M q x r n ht hx)) λu s1 f=>bJ f λu2 s2 f2=>Le.imp hQ f2
def T9(t:DA):DA:=λρ M q x=>t ρ M (λds M1=>match ds with
 |[.int j]=>(-(2^62)<=j/\j<2^62)/\q (dN 0 j.toNat) M1
 |_=>False) x
def bY{a:Expr}{t:DA}{p pos:Pos}(hm:X.mg "range"=none)(ha:JA X R [a] t)(hg:Gl X "range":=by rfl)(hs:starEach [a] X.env=[(false,eval a X.env)]:=by rfl):JI X R tg (.Call (.Name "range" p) [a] [] pos) (T9 t):=
 .of (EV hg hm ha hs) λσ H G L ρ M q x rl n h hx=>by
  refine⟨G,L,ρ,M,_,x,rl,n,h,hx,λvs H1 xz=>?_⟩;have⟨ds,G1,L1,M1,e1,r1,n1,h1⟩:=xz
  (try dsimp only at h1)
  split at h1
  ·rename_i j;have⟨v,rfl,n2⟩:=bF n1;have n2:v= .int j:=n2;subst n2;exact⟨j,rfl,h1.1.1,h1.1.2,_,G1,L1,M1,e1,r1,K1,h1.2⟩
  ·exact h1.elim
def HW(t:DA):DA:=λρ M q x=>t ρ M (λds M1=>match ds with
 |[.int i,.int j]=>(-(2^62)<=i/\i<2^62/\ -(2^62)<=j/\j<2^62)/\q (dN i (j-i).toNat) M1
 |_=>False) x
def E4{a b:Expr}{t:DA}{p pos:Pos}(hm:X.mg "range"=none)(ha:JA X R [a,b] t)(hg:Gl X "range":=by rfl)(hs:starEach [a,b] X.env=[(false,eval a X.env),(false,eval b X.env)]:=by rfl)(Pu:starEach [b] X.env=[(false,eval b X.env)]:=by rfl):
  JI X R tg (.Call (.Name "range" p) [a,b] [] pos) (HW t):=
 .of (Fv hg hm ha hs Pu) λσ H G L ρ M q x rl n h hx=>by
  refine⟨G,L,ρ,M,_,x,rl,n,h,hx,λvs H1 xz=>?_⟩;have⟨ds,G1,L1,M1,e1,r1,n1,h1⟩:=xz
  (try dsimp only at h1)
  split at h1
  ·rename_i i j;have⟨v,u,rfl,n3,n2⟩:=fW n1;have n3:v= .int i:=n3;have n2:u= .int j:=n2;subst n3 n2;exact⟨i,j,rfl,h1.1,_,G1,L1,M1,e1,r1,K1,h1.2⟩
  ·exact h1.elim
end
def GD(K:fI)(gg:TG)(g:Dt->En->(En->Prop)->Prop):Prop:=
 ∀G L M H d v ρ σ (k:En->Prop) (Q:St->Hp->Prop),Rl K G L M H->Den K G L d v->lN K G L ρ σ->g d ρ k->(∀ρ' σ',lN K G L ρ' σ'->k ρ'->Q σ' H)->gg v σ H Q
def gN(i:Nat):Dt->En->(En->Prop)->Prop:=λd ρ k=>k (ρ.set i (some d))
def aI{K:fI}{i:Nat}:GD K (jd i) (gN i):=λG L M H d v ρ σ k Q rl n en h hQ=>hQ _ _ (en.set i n) h
def g2(i j:Nat):Dt->En->(En->Prop)->Prop:=λd ρ k=>match d with
 |.tup [a,b]=>k ((ρ.set i (some a)).set j (some b))
 |_=>False
def oX{K:fI}{i j:Nat}:GD K (Kg K 2 (nO (jd i) (nO (jd j) KR))) (g2 i j):=λG L M H d v ρ σ k Q rl n en h hQ=>by
 unfold g2 at h;split at h
 ·rename_i a b;have⟨p,vs,rfl,e,n⟩:=n;have⟨v1,v2,rfl,n1,n2⟩:=fW n;exact⟨p,_,rfl,.inl (.inl (rl.sub _ _ e)),rfl,v1,_,rfl,v2,_,rfl,rfl,hQ _ _ ((en.set i n1).set j n2) h⟩
 ·exact h.elim
def xv(g:Dt->En->(En->Prop)->Prop)(tb:DS)(Dn:lL):List Dt->En->Ms->Prop
 |[],ρ,M=>Dn.nx ρ M
 |x::xs,ρ,M=>g x ρ λρ'=>tb {Dn with nx:=xv g tb Dn xs,ct:=xv g tb Dn xs,bk:=Dn.nx} ρ' M
def UI(ti:DA)(g:Dt->En->(En->Prop)->Prop)(tb:DS):DS:=λDn ρ M=>ti ρ M (λxs M1=>xv g tb Dn xs ρ M1) Dn.x
section
variable{X:Cx}{R:St->XK}{tg iter:Expr}{body:List Stmt}{ti:DA}{gg:TG}{g:Dt->En->(En->Prop)->Prop}{tb:DS}{pos:Pos}
def gf(hi:JI X R tg iter ti)(hg:PG X tg gg)(gd:GD X.K gg g)(hb:DP X R body tb)(hp:PassesOwn (model X.prog X.w) X.A X.env X.xe:=by first| exact PassesOwn.never| exact PassesOwn.leaving)(hc:X.calm=true:=by rfl)(hs:∀x,foldedSetIterable iter X.env x=pure x:=by intro _;rfl):
  JS X R (.For tg iter body [] pos) (UI ti g tb):=.of (Bl hp hc hi hg hb hs) λσ H G L ρ M Dn rl n h hx=>by
 refine⟨G,L,ρ,M,_,_,rl,n,h,hx,λJ H1 xz=>?_⟩;have⟨xs,G1,L1,M1,e1,r1,y,h1⟩:=xz;refine⟨λi m σ' H'=>m+i=xs.length/\fb X.K G1 L1 H1 (λρ' M'=>xv g tb Dn (xs.drop i) ρ' M') σ' H',⟨xs.length,rfl,ρ,G1,L1,M1,.refl _ _ _,r1,n.mono e1,by rw[acy];exact h1⟩,?_⟩;rintro i m σ' H' ⟨hm,ρ',G',L',M',e',r',n',h'⟩;by_cases hi:i<xs.length
 ·right;have hd:xs[i]? =some xs[i]:=aaa hi;have⟨go,yl⟩:=y.go i G' L' M' H' _ e'.g e'.l r' hd;rw[abt hi]at h';refine⟨go,fb X.K G1 L1 H1 (λρ' M'=>xv g tb Dn (xs.drop (i+1)) ρ' M'),λσ2 H2 f=>⟨m-1,(),(),f⟩,λv H2 hy=>?_⟩;have⟨G2,e2,r2,n2⟩:=yl v H2 hy;refine gd G2 L' M' H2 _ v ρ' σ' _ _ r2 n2 (n'.mono e2) h' λρ3 σ3 n3 h3=>?_;refine⟨G2,L',ρ3,M',_,r2,n3,h3,hx.on (e1.trans (e'.trans e2)),⟨λ_ _ f=>fb.back (e'.trans e2) f,λ_ _ f=>Fin.back (e1.trans (e'.trans e2)) f,λ_ _ f=>fb.back (e1.trans (e'.trans e2)) f,λ_ _ f=>fb.back (e'.trans e2) f⟩⟩
 ·left;refine⟨y.stop i G' L' M' H' e'.g e'.l r' (),ρ',G',L',M',e1.trans e',r',n',?_⟩;rw[ab8 ()]at h';exact h'
end
abbrev DK:=En->Ms->(List Dt->(Ms->Prop)->Ms->Prop)->DX->Prop
structure N4(K:fI)(J:It)(xs:List Dt)(ok:Ms->Prop)(G0:Hp)(L0:List Addr):Prop where
 go:∀(i:Nat) G L M H (d:Dt),eD G0 G->Pre L0 L->Rl K G L M H->ok M->xs[i]? =some d->J.go i H/\∀v H',J.TV i H v H'->∃G',Ex G L H G' L H'/\Rl K G' L M H'/\Den K G' L d v
 stop:∀(i:Nat) G L M H,eD G0 G->Pre L0 L->Rl K G L M H->ok M->xs.length<=i->J.stop i H
inductive XT(K:fI)(G0:Hp)(L0:List Addr)(H0:Hp)(q:List Dt->(Ms->Prop)->Ms->Prop)(J:It)(H:Hp):Prop
 |mk (xs:List Dt) (ok:Ms->Prop) (G:Hp) (L:List Addr) (M:Ms) (e:Ex G0 L0 H0 G L H) (r:Rl K G L M H) (y:N4 K J xs ok G L) (h:q xs ok M)
inductive WA(K:fI)(R:St->XK)(t:DK)(σ:St)(H:Hp)(Q:It->Hp->Prop):Prop
 |mk (G:Hp) (L:List Addr) (ρ:En) (M:Ms) (q:List Dt->(Ms->Prop)->Ms->Prop) (x:DX) (r:Rl K G L M H) (n:lN K G L ρ σ) (h:t ρ M q x) (hx:uI K G L H R x) (hQ:∀J H1,XT K G L H q J H1->Q J H1)
def JK(X:Cx)(R:St->XK)(tg iter:Expr)(t:DK):Prop:=PI X tg iter (WA X.K R t)
def kOf(t:DA):DK:=λρ M q x=>t ρ M (λxs M1=>q xs (λ_=>True) M1) x
def Ou{X:Cx}{R:St->XK}{tg iter:Expr}{t:DA}(h:JI X R tg iter t):JK X R tg iter (kOf t):=by intro ζ s σ H Q I ⟨G,L,ρ,M,q,x,r,n,ht,hx,hQ⟩;refine h ζ s σ H Q I ⟨G,L,ρ,M,_,x,r,n,ht,hx,λJ H1 ⟨xs,G1,L1,M1,e1,r1,y,hq⟩=>hQ J H1 ⟨xs,_,G1,L1,M1,e1,r1,⟨λi G L M H d g l r _ e=>y.go i G L M H d g l r e,λi G L M H g l r _ e=>y.stop i G L M H g l r e⟩,hq⟩⟩
def oZ(af:List Nat)(ρ:En):En:=af.map λi=>(ρ[i]?).join
def jh(g:Dt->En->(En->Prop)->Prop)(tc:DT)(te:DE)(ρ0:En)(ok:Ms->Prop):List Dt->List Dt->Ms->(List Dt->Ms->Prop)->Prop
 |[],Η,M,k=>ok M/\k Η M
 |x::xs,Η,M,k=>ok M/\g x ρ0 λρ'=>tc ρ' M (λb M1=>match b with
  |true=>te ρ' M1 (λd M2=>jh g tc te ρ0 ok xs (Η++[d]) M2 k) lS
  |false=>jh g tc te ρ0 ok xs Η M1 k) lS
def w4(n:Nat)(ti:DK)(g:Dt->En->(En->Prop)->Prop)(tc:DT)(te:DE)(af:List Nat):DE:=λρ M q x=>ti ρ M (λxs ok M1=>xs.length<=sizeLine/\jh g tc te (List.replicate n none++oZ af ρ) ok xs [] M1 (λys M2=>q (.lst ys) M2)) x
def Mm{K:fI}{G:Hp}{L:List Addr}{ρ:En}{σ os:St}{n:Nat}(h:lN K G L ρ σ)(af:List Nat)(hl:os.length=n):lN K G L (List.replicate n none++oZ af ρ) (os++oQ af σ):=by
 have lc:(oZ af ρ).length=(oQ af σ).length:=by unfold oZ oQ;simp
 refine⟨by rw[aah,aah,aa5,hl,lc],λi d' e=>?_⟩;by_cases hi:i<n
 ·rw[aas (by rw[aa5];exact hi),ab3,aax hi]at e;cases e
 ·rw[aao (by rw[aa5];omega),aa5]at e;rw[aao (),hl];unfold oZ at e;unfold oQ;rw[aaq]at e⊢;cases q:af[i-n]? with
  |none=>rw[q]at e;cases e
  |some j=>
   rw[q]at e;have e:(ρ[j]?).join=some d':=aar e;have e:ρ[j]? =some (some d'):=by
    cases z:ρ[j]? with
    |none=>rw[z]at e;cases e
    |some o=>rw[z]at e;exact aa0 some e
   have⟨v,hv,dn⟩:=h.eP j d' e;exact⟨v,by show some ((σ[j]?).join)=_;rw[hv];rfl,dn⟩
def rT{K:fI}{J:It}{gg:TG}{g:Dt->En->(En->Prop)->Prop}{tc:DT}{te:DE}{af:List Nat}{nn:Nat}{ρ:En}{σ:St}{G1:Hp}{L1:List Addr}{M1:Ms}{H1:Hp}{xs:List Dt}{ok:Ms->Prop}{Dl:Addr}{Q:VK}{k:List Dt->Ms->Prop}(gd:GD K gg g)(r1:Rl K G1 L1 M1 H1)(n:lN K G1 L1 ρ σ)(y:N4 K J xs ok G1 L1)(hD:H1 Dl=none)(hz:xs.length<=sizeLine)
  (h:jh g tc te (List.replicate nn none++oZ af ρ) ok xs [] M1 k)
  (fin:∀G2 L2 M2 H2 ds vs,Ex G1 L1 H1 G2 L2 H2->Rl K G2 L2 M2 H2->G2 Dl=none->Dl∉L2->H2 Dl=some (.lst vs)->Ψ K G2 L2 ds vs->k ds M2->Q (.ref Dl) H2):
  Cr J nn gg (BG K (λ_=>E0) tc) (yv K (λ_=>E0) te) (oQ af σ) Q H1 Dl:=by
 refine⟨λi m ys H2=>m+i=xs.length/\H2 Dl=some (.lst ys)/\∃Η G2 L2 M2,Ex G1 L1 H1 G2 L2 H2/\Rl K G2 L2 M2 H2/\G2 Dl=none/\Dl∉L2/\Ψ K G2 L2 Η ys/\Η.length<=i/\jh g tc te (List.replicate nn none++oZ af ρ) ok (xs.drop i) Η M2 k,⟨xs.length,rfl,Ω,[],G1,L1,M1,?_⟩,?_⟩
 ·have gn:G1 Dl=none:=r1.sub.free hD;refine⟨⟨.refl _,.refl _,λ_ h _=>h,λb u h1 _=>by rw[Μ (λz=>by rw[z,hD]at h1;cases h1)];exact h1,λ_ h=>.inl h,λb h=>by rw[Μ (λz=>h (by rw[z];exact hD))];exact h⟩,⟨λb u e=>by rw[Μ (λz=>by rw[z,gn]at e;cases e)];exact r1.sub b u e,r1.len,r1.nd,λi a m h1 h2=>?_⟩,gn,r1.Lz hD,rfl,aan _,by rw[acy];exact h⟩;have⟨q1,q2⟩:=r1.eP i a m h1 h2;exact⟨q1,q2.mono (.refl _) (.refl _) (Μ λz=>q2.there (by rw[z];exact hD))⟩
 ·rintro i m ys H2 ⟨hm,Kx,Η,G2,L2,M2,e2,r2,g2,l2,n2,la,h2⟩;refine⟨Kx,?_⟩;have ne1:∀{b:Addr} {u:HO},H1 b=some u->b≠Dl:=λe z=>by rw[z,hD]at e;cases e
  by_cases hi:i<xs.length
  ·right;have hd:xs[i]? =some xs[i]:=aaa hi;rw[abt hi]at h2;have⟨aS,h2⟩:=h2;have⟨go,yl⟩:=y.go i G2 L2 M2 H2 _ e2.g e2.l r2 aS hd;refine⟨go,λv H3 hy os hos=>?_⟩;have⟨G3,e3,r3,n3⟩:=yl v H3 hy;have h3:H3 Dl=some (.lst ys):=e3.out _ _ Kx l2;have g3:G3 Dl=none:=e3.fr _ g2 (by rw[Kx];simp);refine gd G3 L2 M2 H3 _ v _ _ _ _ r3 n3 (Mm ((n.mono e2).mono e3) af hos) h2 λρ' σ' n' h'=>?_;refine⟨G3,L2,ρ',M2,_,lS,r3,n',h',Js,λb H4 xz=>?_⟩;have⟨G4,L4,M4,e4,r4,h4⟩:=xz;have V3:H4 Dl=some (.lst ys):=e4.out _ _ h3 l2;have g4:G4 Dl=none:=e4.fr _ g3 (by rw[h3];simp);have l4:Dl∉L4:=λz=>(e4.new _ z).elim l2 λq=>by rw[h3]at q;cases q
   have Pn:=e3.trans e4;cases b with
   |false=>
    exact⟨m-1,(),(),V3,Η,G4,L4,M4,e2.trans Pn,r4,g4,l4,Ψ.mono Pn.g Pn.l _ _ n2,(),h4⟩
   |true=>
    refine⟨G4,L4,ρ',M4,_,lS,r4,n'.mono e4,h4,Js,λv5 H5 xz=>?_⟩;have⟨d5,G5,L5,M5,e5,r5,n5,h5⟩:=xz;have h5':H5 Dl=some (.lst ys):=e5.out _ _ V3 l4;have g5:G5 Dl=none:=e5.fr _ g4 (by rw[V3];simp);have l5:Dl∉L5:=λz=>(e5.new _ z).elim l4 λq=>by rw[V3]at q;cases q
    have X1:=Pn.trans e5;have aaA:ys.length=Η.length:=by rw[<-n2.length]
    refine⟨h5',(),m-1,(),(),Ω,Η++[d5],G5,L5,M5,?_,?_,g5,l5,(Ψ.mono X1.g X1.l _ _ n2).app ⟨_,_,rfl,n5,rfl⟩,by rw[aah];show Η.length+1<=i+1;omega,h5⟩
    ·have RC:=e2.trans X1
     exact⟨RC.g,RC.l,RC.fr,λb u h1 h2=>by rw[Μ (ne1 h1)];exact RC.out b u h1 h2,RC.new,λb h=>by
      by_cases hb:b=Dl
      ·rw[hb,Ω];simp
      ·rw[Μ hb];exact RC.Dc b h⟩
    ·refine⟨λb u e=>by rw[Μ (λz=>by rw[z,g5]at e;cases e)];exact r5.sub b u e,r5.len,r5.nd,λi a m h1 h2=>?_⟩;have⟨q1,q2⟩:=r5.eP i a m h1 h2;exact⟨q1,q2.mono (.refl _) (.refl _) (Μ λz=>l5 (by rw[<-z];exact aag h1))⟩
  ·left;rw[ab8 ()]at h2;exact⟨y.stop i G2 L2 M2 H2 e2.g e2.l r2 h2.1 (),fin G2 L2 M2 H2 Η ys e2 r2 g2 l2 Kx n2 h2.2⟩
section
variable{K:fI}{G1:Hp}{L1:List Addr}{H1 G:Hp}{L:List Addr}{M:Ms}{H:Hp}{p:Addr}{ds:List Dt}{vs:List V}{q:DQ}
def Dx(e:Ex G1 L1 H1 G L H)(r:Rl K G L M H)(Hg:H1 p=none)(hg:G p=none)(hl:p∉L)(h:H p=some (.lst vs))(n:Ψ K G L ds vs)(k:q (.lst ds) M):Fin K G1 L1 H1 q (.ref p) H:=by
 have g1:eD G (upd G p (.lst vs)):=λb u e=>by rw[Μ (λz=>by rw[z,hg]at e;cases e)];exact e
 refine⟨.lst ds,upd G p (.lst vs),L,M,⟨e.g.trans g1,e.l,λb h1 h2=>?_,e.out,e.new,e.Dc⟩,⟨λb u e=>?_,r.len,r.nd,λk a m h1 h2=>?_⟩,⟨p,vs,rfl,Ω,Ψ.mono g1 (.refl _) _ _ n⟩,k⟩
 ·rw[Μ (λz=>h2 (by rw[z];exact Hg))];exact e.fr b h1 h2
 ·by_cases hb:b=p
  ·rw[hb,Ω]at e;rw[hb];cases e;exact h
  ·rw[Μ hb]at e;exact r.sub b u e
 ·have⟨q1,q2⟩:=r.eP k a m h1 h2;have hb:a≠p:=λz=>hl (by rw[<-z];exact aag h1);exact⟨by rw[Μ hb];exact q1,q2.mono g1 (.refl _) rfl⟩
def Nf(e:Ex G1 L1 H1 G L H)(r:Rl K G L M H)(Hg:H1 p=none)(hg:G p=none)(hl:p∉L)(h:H p=some (.lst vs))(n:Ψ K G L ds vs)(k:q (.loc M.length) (M++[.lst ds])):Fin K G1 L1 H1 q (.ref p) H:=by
 refine⟨.loc M.length,G,L++[p],M++[.lst ds],⟨e.g,e.l.trans ⟨[p],rfl⟩,e.fr,e.out,λb hb=>?_,e.Dc⟩,⟨r.sub,by rw[List.length_append,List.length_append,r.len];rfl,List.nodup_append.mpr ⟨r.nd,by simp,λa ha b hb=>?_⟩,λk a m h1 h2=>?_⟩,⟨p,rfl,by rw[<-r.len,List.getElem?_append_right (Nat.le_refl _)];simp⟩,k⟩
 ·rcases aaV.mp hb with z| z
  ·exact e.new b z
  ·have e:b=p:=by simpa using z
   right;rw[e];exact Hg
 ·have e:b=p:=by simpa using hb
  rw[e];exactλz=>hl (z▸ha)
 ·by_cases hk:k<L.length
  ·rw[aas hk]at h1;rw[aas (by rw[<-r.len];exact hk)]at h2;have⟨q1,q2⟩:=r.eP k a m h1 h2;exact⟨q1,q2.mono (.refl _) ⟨[p],rfl⟩ rfl⟩
  ·have e:k=L.length:=by have:=(aaf.mp h1).1;rw[aah]at this;simp at this;omega
   rw[e,aao (aan _)]at h1;rw[e,r.len,aao (aan _)]at h2;simp at h1 h2;subst h1 h2;exact⟨hg,vs,h,Ψ.mono (.refl _) ⟨[p],rfl⟩ _ _ n⟩
def Vy(b:Bool)(q:DQ)(ys:List Dt)(M:Ms):Prop:=match b with
 |false=>q (.lst ys) M
 |true=>q (.loc M.length) (M++[.lst ys])
def EO{b:Bool}(e:Ex G1 L1 H1 G L H)(r:Rl K G L M H)(Hg:H1 p=none)(hg:G p=none)(hl:p∉L)(h:H p=some (.lst vs))(n:Ψ K G L ds vs)(k:Vy b q ds M):Fin K G1 L1 H1 q (.ref p) H:=by
 cases b
 ·exact Dx e r Hg hg hl h n k
 ·exact Nf e r Hg hg hl h n k
end
def gQ{n i:Nat}(h:i<n):v7 n (jd i):=λv os cs H Q hl hq=>⟨⟨os.set i (some v),by rw[abn];exact hl,ab0 _ _ ()⟩,hq⟩
def vU{K:fI}{n i j:Nat}(h:i<n)(h':j<n):v7 n (Kg K 2 (nO (jd i) (nO (jd j) KR))):=
 fun v os cs H Q hl ⟨a,xs,e,s,l,v1,r,e1,v2,r2,e2,e3,q⟩=>⟨a,xs,e,s,l,v1,r,e1,v2,r2,e2,e3,⟨(os.set i (some v1)).set j (some v2),by simp[hl],by
  rw[ab0 _ _ (),ab0 _ _ (by rw[abn];omega)]⟩,q⟩
section
variable{X:Cx}{elt iter tg:Expr}{xs:List Str}{scope:Scope}{pos:Pos}{ys:List Str}{af:List Nat}
def hW{i:Nat}{x:Str}{px:Pos}(S:aL X scope xs ys af)(h:xs[i]? =some x)(C:Addr)(s:Shared)(H:Hp)(fp:List Addr):PG (Cx.comp X (xs++ys) scope C s H fp) (.Name x px) (jd i):=by
 have hm:x∈xs:=aag h;have hi:(xs++ys)[i]? =some x:=by rw[aas (aaf.mp h).1];exact h
 exact ai S.nd hi (.inl (lookup_relabel_local (S.own x hm))) (.inr (lookup_relabel_local (S.own x hm)))
def DV{x y:Str}{px py:Pos}{k:Nat}(hc:X.calm=true)(S:aL X scope [x,y] ys af)(C:Addr)(s:Shared)(H:Hp)(fp:List Addr):PG (Cx.comp X ([x,y]++ys) scope C s H fp) (.Tuple [.Name x px,.Name y py] k pos) (Kg X.K 2 (nO (jd 0) (nO (jd 1) KR))):=
 mQ (X:=Cx.comp X ([x,y]++ys) scope C s H fp) hc (b8 (hW S (i:=0) rfl C s H fp) (b8 (hW S (i:=1) rfl C s H fp) jJ))
end
def p_:DT:=λ_ M q _=>q true M
def XW(X:Cx)(cs:List Expr)(t:DT):Prop:=Wd X cs (BG X.K (λ_=>E0) t)
def ni{X:Cx}:XW X [] p_:=⟨.inl rfl,λζ s σ H Q I ⟨G,L,ρ,M,q,x,r,n,h,hx,hQ⟩=>aaR ⟨H,I,hQ true H ⟨G,L,M,.refl _ _ _,r,h⟩⟩⟩
def D_{X:Cx}{c:Expr}{t:DT}(h:JT X (λ_=>E0) c t):XW X [c] t:=⟨.inr ⟨c,rfl⟩,h⟩
def Od(b:Bool)(g:Dt->En->(En->Prop)->Prop)(tc:DT)(te:DE)(cs:En)(q:DQ):List Dt->(Ms->Prop)->Ms->Prop:=λzs ok M1=>zs.length<=sizeLine/\jh g tc te cs ok zs [] M1 (Vy b q)
section
variable{X:Cx}{R:St->XK}{elt iter tg:Expr}{cs:List Expr}{xs:List Str}{scope:Scope}{pos:Pos}{gg:TG}{g:Dt->En->(En->Prop)->Prop}{ti:DK}{tc:DT}{te:DE}{ys:List Str}{af:List Nat}(b:Bool)(S:aL X scope xs ys af)(hi:JK X R tg iter ti)(hg:∀C s H fp,PG (Cx.comp X (xs++ys) scope C s H fp) tg gg)(gd:GD X.K gg g)(hk:v7 xs.length gg)(ht:∀C s H fp,XW (Cx.comp X (xs++ys) scope C s H fp) cs tc)(he:∀C s H fp,JE (Cx.comp X (xs++ys) scope C s H fp) (λ_=>E0) elt te)(hc:X.calm=true)(hs:∀x,foldedSetIterable iter X.env x=pure x)
include S hi hg gd hk ht he hc hs
def Up{t:DE}(e:∀ρ M q x,t ρ M q x->ti ρ M (Od b g tc te (List.replicate xs.length none++oZ af ρ) q) x):JE X R (.ListComp elt [⟨tg,iter,cs,0⟩] scope pos) t:=
 .of (zD (tc:=BG X.K (λ_=>E0) tc) (te:=yv X.K (λ_=>E0) te) S hc hi hg hk ht he hs) λσ H G L ρ M q x rl n h hx=>⟨G,L,ρ,M,_,x,rl,n,e _ _ _ _ h,hx,λJ H1 ⟨xs,ok,G1,L1,M1,e1,r1,y,hz,h1⟩ D hD=>rT gd r1 (n.mono e1) y hD hz h1 λG2 L2 M2 H2 ds vs e2 r2 g2 l2 h2 n2 k=>Fin.back e1 (EO e2 r2 hD g2 l2 h2 n2 k)⟩
def jcS{i:Nat}{y:Str}{py zt:Pos}(hN:X.N.Nodup)(SG:X.N[i]? =some y)(hy:Loc X.env.scope y)(Su:swapsWith (.ListComp elt [⟨tg,iter,cs,0⟩] scope pos) (some (.Name y py)) zt.line X.env=pure true)(hf:X.fn y=true\/X.env.scope.names.lookup y=some .local){t:DE}(e:∀ρ M q x,t ρ M q x->ti ρ M (Od b g tc te (List.replicate xs.length none++oZ af ρ) q) x):
  JS X R (.Assign [.Name y py] (.ListComp elt [⟨tg,iter,cs,0⟩] scope pos) zt) (MQ i t):=.of (AQ (tc:=BG X.K (λ_=>E0) tc) (te:=yv X.K (λ_=>E0) te) hN SG hy S hc hi hg hk ht he Su hs hf) λσ H G L ρ M Dn rl n h hx=>by
 refine⟨G,L,ρ,M,_,_,rl,n,e _ _ _ _ h,hx,fun J H1 ⟨xs,ok,G1,L1,M1,e1,r1,y,hz,h1⟩ D hD=>rT gd r1 (n.mono e1) y hD hz h1 λG2 L2 M2 H2 ds vs e2 r2 g2 l2 h2 n2 k=>?_⟩;have⟨d,G3,L3,M3,e3,r3,n3,h3⟩:=EO (q:=λd M=>Dn.nx (ρ.set i (some d)) M) e2 r2 hD g2 l2 h2 n2 k;exact⟨_,G3,L3,M3,e1.trans e3,r3,((n.mono e1).mono e3).set i n3,h3⟩
end
def yJ(te:DE)(cs:En):List Dt->List Dt->Ms->(List Dt->Ms->Prop)->Prop
 |[],Η,M,k=>k Η M
 |x::xs,Η,M,k=>te (some x::cs) M (λd M1=>yJ te cs xs (Η++[d]) M1 k) lS
def K'(ti:DA)(te:DE)(af:List Nat):DE:=λρ M q x=>ti ρ M (λxs M1=>xs.length<=sizeLine/\yJ te (oZ af ρ) xs [] M1 (λys M2=>q (.lst ys) M2)) x
def Ei{te:DE}{cs:En}:∀xs,yJ te cs xs=jh (gN 0) p_ te (none::cs) (λ_=>True) xs
 |[]=>funext λΗ=>funext λM=>funext λk=>(true_and _).symm
 |x::xs=>funext λΗ=>funext λM=>funext λk=>by show te (some x::cs) M (λd M1=>yJ te cs xs (Η++[d]) M1 k) lS=(True/\te (some x::cs) M (λd M1=>jh (gN 0) p_ te (none::cs) (λ_=>True) xs (Η++[d]) M1 k) lS);rw[Ei xs,true_and]
section
variable{X:Cx}{R:St->XK}{elt iter:Expr}{x:Str}{px:Pos}{scope:Scope}{pos:Pos}{ti:DA}{te:DE}{ys:List Str}{af:List Nat}
def Hz(S:aL X scope [x] ys af)(hi:JI X R (.Name x px) iter ti)(he:∀C s H fp,JE (Cx.comp X (x::ys) scope C s H fp) (λ_=>E0) elt te)(hc:X.calm=true:=by rfl)(hs:∀x,foldedSetIterable iter X.env x=pure x:=by intro _;rfl):JE X R (.ListComp elt [⟨.Name x px,iter,[],0⟩] scope pos) (K' ti te af):=Up false S (Ou hi) (hW S (i:=0) rfl) aI (gQ (Nat.zero_lt_succ 0)) (λ_ _ _ _=>ni) he hc hs λρ M q x h=>by unfold K' at h;simp only[Ei]at h;exact h
end
def fin_same{K:fI}{G0:Hp}{L0:List Addr}{H0 G:Hp}{L:List Addr}{M:Ms}{H:Hp}{d:Dt}{v:V}{q:DQ}(e:Ex G0 L0 H0 G L H)(r:Rl K G L M H)(n:Den K G L d v)(h:q d M):Fin K G0 L0 H0 q v H:=⟨d,G,L,M,e,r,n,h⟩
def bB{K:fI}{G0:Hp}{L0:List Addr}{H0 G:Hp}{L:List Addr}{M:Ms}{H:Hp}{d:Dt}{v:V}{q:DQ}(e:Ex G0 L0 H0 G L H)(r:Rl K G L M H)(h:q d M)(n:Den K G L d v:=by rfl):Fin K G0 L0 H0 q v H:=⟨d,G,L,M,e,r,n,h⟩
def qx:Dt->Dt->Ms->DQ->Prop
 |.int i,.int j,M,q=>q (.int (i+j)) M
 |.str a,.str b,M,q=>a.length+b.length<=sizeLine/\q (.str (a++b)) M
 |.lst a,.lst b,M,q=>a.length+b.length<=sizeLine/\q (.lst (a++b)) M
 |.tup a,.tup b,M,q=>(a≠[]/\a.length+b.length<=sizeLine)/\q (.tup (a++b)) M
 |_,_,_,_=>False
def xS:Dt->Dt->Ms->DQ->Prop
 |.int i,.int j,M,q=>q (.int (i-j)) M
 |_,_,_,_=>False
def Kk:Dt->Dt->Ms->DQ->Prop
 |.int i,.int j,M,q=>(dQ i/\dQ j)/\q (.int (i*j)) M
 |.lst a,.int k,M,q=>(-(2^63)<=k/\k<2^63/\a.length*k.toNat<=sizeLine)/\q (.lst (List.replicate k.toNat a).flatten) M
 |_,_,_,_=>False
def Qn:Dt->Dt->Ms->DQ->Prop
 |.int i,.int j,M,q=>(0<j/\dQ j)/\q (.int (i/j)) M
 |_,_,_,_=>False
def Dv:Dt->Dt->Ms->DQ->Prop
 |.int i,.int j,M,q=>(j≠0/\dQ j)/\q (.int (i.fdiv j)) M
 |_,_,_,_=>False
def Mo:Dt->Dt->Ms->DQ->Prop
 |.int i,.int j,M,q=>0<j/\q (.int (i%j)) M
 |_,_,_,_=>False
def Rm:Dt->Dt->Ms->DQ->Prop
 |.int i,.int j,M,q=>AV i j/\q (.int (i^j.toNat)) M
 |_,_,_,_=>False
def Nd:Dt->Ms->DQ->Prop
 |.int i,M,q=>q (.int (-i)) M
 |_,_,_=>False
section
variable{K:fI}
def ZP:nh K (λx y H Q=>(∃i j,x=V.int i/\y= .int j/\Q (.int (i+j)) H)\/(∃i j,x=V.str i/\y= .str j/\i.length+j.length<=sizeLine/\Q (.str (i++j)) H)\/Q6 x y H Q\/OG K x y H Q) qx:=by
 intro G0 L0 H0 G L M H v1 v2 d1 d2 q e r n1 n2 h;unfold qx at h;split at h
 ·rename_i i j;exact .inl ⟨i,j,n1,n2,bB e r h⟩
 ·rename_i a b;exact .inr (.inl ⟨a,b,n1,n2,h.1,bB e r h.2⟩)
 ·rename_i a b;have⟨p1,w1,rfl,e1,m1⟩:=n1;have⟨p2,w2,rfl,e2,m2⟩:=n2;refine .inr (.inr (.inl ⟨p1,p2,w1,w2,rfl,rfl,r.sub _ _ e1,r.sub _ _ e2,by rw[<-m1.length,<-m2.length];exact h.1,λp hp=>?_⟩));exact kW e r hp (qM r hp (m1.app m2)) h.2
 ·rename_i a b;have⟨p1,w1,rfl,e1,m1⟩:=n1;have⟨p2,w2,rfl,e2,m2⟩:=n2;have ne:w1≠[]:=λz=>h.1.1 (by have:=m1.length;rw[z]at this;exact List.eq_nil_of_length_eq_zero this);refine .inr (.inr (.inr ⟨p1,p2,w1,w2,rfl,rfl,.inl (.inl (r.sub _ _ e1)),.inl (.inl (r.sub _ _ e2)),ne,by rw[<-m1.length,<-m2.length];exact h.1.2,λz=>?_,λ_ p hp=>?_⟩))
  ·have hb:b=[]:=by have:=m2.length;rw[z]at this;exact List.eq_nil_of_length_eq_zero this
   subst hb;rw[aa7]at h;exact fin_same (d:=.tup a) e r ⟨p1,w1,rfl,e1,m1⟩ h.2
  ·exact kW e r hp (qL r hp (m1.app m2)) h.2
 ·exact h.elim
def ZR:nh K (Ff λi j=>.int (i-j)) xS:=by
 intro G0 L0 H0 G L M H v1 v2 d1 d2 q e r n1 n2 h;unfold xS at h;split at h
 ·exact⟨_,_,n1,n2,bB e r h⟩
 ·exact h.elim
def YG:nh K (λx y H Q=>(rI (λi j=>dQ i/\dQ j) λi j=>.int (i*j)) x y H Q\/QP x y H Q) Kk:=by
 intro G0 L0 H0 G L M H v1 v2 d1 d2 q e r n1 n2 h;unfold Kk at h;split at h
 ·exact .inl ⟨_,_,n1,n2,h.1,bB e r h.2⟩
 ·rename_i a k;have⟨p1,w1,rfl,e1,m1⟩:=n1;refine .inr ⟨p1,k,w1,rfl,n2,r.sub _ _ e1,h.1.1,h.1.2.1,by rw[<-m1.length];exact h.1.2.2,λp hp=>?_⟩;exact kW e r hp (qM r hp (.of (xK m1.pair k.toNat))) h.2
 ·exact h.elim
def Yg:nh K (rI (λ_ j=>j≠0/\dQ j) λi j=>.int (i.fdiv j)) Qn:=by
 intro G0 L0 H0 G L M H v1 v2 d1 d2 q e r n1 n2 h;unfold Qn at h;split at h
 ·rename_i i j;have h0:=h.1.1;refine⟨_,_,n1,n2,⟨(),h.1.2⟩,fin_same (d:=.int (i.fdiv j)) e r rfl ?_⟩;rw[acd i (aak h0)];exact h.2
 ·exact h.elim
def Tz:nh K (rI (λ_ j=>j≠0/\dQ j) λi j=>.int (i.fdiv j)) Dv:=by
 intro G0 L0 H0 G L M H v1 v2 d1 d2 q e r n1 n2 h;unfold Dv at h;split at h
 ·exact⟨_,_,n1,n2,h.1,bB e r h.2⟩
 ·exact h.elim
def Y0:nh K (rI (λ_ j=>0<j) λi j=>.int (i%j)) Mo:=by
 intro G0 L0 H0 G L M H v1 v2 d1 d2 q e r n1 n2 h;unfold Mo at h;split at h
 ·exact⟨_,_,n1,n2,h.1,bB e r h.2⟩
 ·exact h.elim
def ZC:nh K (rI AV λi j=>.int (i^j.toNat)) Rm:=by
 intro G0 L0 H0 G L M H v1 v2 d1 d2 q e r n1 n2 h;unfold Rm at h;split at h
 ·exact⟨_,_,n1,n2,h.1,bB e r h.2⟩
 ·exact h.elim
def WW:XY K (rU λi=>.int (-i)) Nd:=by
 intro G0 L0 H0 G L M H v1 d1 q e r n1 h;unfold Nd at h;split at h
 ·exact⟨_,n1,bB e r h⟩
 ·exact h.elim
end
section
variable{X:Cx}{R:St->XK}{a b c:Expr}{ta tb:DE}{pos:Pos}
def ck(ja:JE X R a ta)(jb:JE X R b tb):JE X R (.BinOp a .Add b pos) (jO qx ta tb):=wb (QQ.or (BN.or (HQ.or Lm))) ZP ja jb
def sP(ja:JE X R a ta)(jb:JE X R b tb):JE X R (.BinOp a .Sub b pos) (jO xS ta tb):=wb PZ ZR ja jb
def au(ja:JE X R a ta)(jb:JE X R b tb):JE X R (.BinOp a .Mult b pos) (jO Kk ta tb):=wb (Lp.or HC) YG ja jb
def jN(ja:JE X R a ta)(jb:JE X R b tb):JE X R (.BinOp a .FloorDiv b pos) (jO Qn ta tb):=wb Az Yg ja jb
def CG(ja:JE X R a ta)(jb:JE X R b tb):JE X R (.BinOp a .FloorDiv b pos) (jO Dv ta tb):=wb Az Tz ja jb
def bu(ja:JE X R a ta)(jb:JE X R b tb):JE X R (.BinOp a .Mod b pos) (jO Mo ta tb):=wb PK Y0 ja jb
def jf(ja:JE X R a ta)(jb:JE X R b tb):JE X R (.BinOp a .Pow b pos) (jO Rm ta tb):=wb Po ZC ja jb
def OE(ja:JE X R a ta):JE X R (.UnaryOp .USub a pos) (VC Nd ta):=Yt RA WW ja
end
def VT:Dt->Dt->Ms->DQ->Prop
 |.int i,.int j,M,q=>q (.bl (decide (i<j))) M
 |_,_,_,_=>False
def Yv:Dt->Dt->Ms->DQ->Prop
 |.int i,.int j,M,q=>q (.bl (decide (i<=j))) M
 |_,_,_,_=>False
def Y':Dt->Dt->Ms->DQ->Prop
 |.int i,.int j,M,q=>q (.bl (decide (j<i))) M
 |_,_,_,_=>False
def VE:Dt->Dt->Ms->DQ->Prop
 |.int i,.int j,M,q=>q (.bl (decide (j<=i))) M
 |_,_,_,_=>False
def pV:Dt->Option V
 |.bj=>some .bj
 |.bl b=>some (.bl b)
 |.int i=>some (.int i)
 |.str x=>some (.str x)
 |_=>none
def g9:List Dt->Option (List V)
 |[]=>some []
 |d::ds=>match pV d,g9 ds with
  |some v,some vs=>some (v::vs)
  |_,_=>none
section
variable{K:fI}{G:Hp}{L:List Addr}
def gT{d:Dt}{v u:V}(h:pV d=some u)(n:Den K G L d v):v=u/\dX u=true:=by cases d <;> first| (cases h;exact⟨n,rfl⟩)| cases h
def fo:∀{ds:List Dt}{vs us:List V},g9 ds=some us->Ψ K G L ds vs->vs=us/\us.all dX=true
 |[],vs,us,h,n=>by cases h;exact⟨n,rfl⟩
 |d::ds,_,us,h,⟨v,r,e,n1,n2⟩=>by
  subst e;unfold g9 at h;split at h
  ·rename_i u1 u2 h1 h2;cases h;have⟨a1,a2⟩:=gT h1 n1;have⟨b1,b2⟩:=fo h2 n2;subst a1 b1;exact⟨rfl,by rw[ab4,a2,b2];rfl⟩
  ·cases h
end
def BB:Dt->Dt->Ms->DQ->Prop
 |.int i,.int j,M,q=>q (.bl (decide (i=j))) M
 |.str i,.str j,M,q=>q (.bl (decide (i=j))) M
 |.bl i,.bl j,M,q=>q (.bl (decide (i=j))) M
 |.tup a,.tup b,M,q=>match g9 a,g9 b with
  |some us,some vs=>q (.bl (nJ us vs)) M
  |_,_=>False
 |_,_,_,_=>False
def MX:Dt->Dt->Ms->DQ->Prop
 |.int i,.int j,M,q=>q (.bl (!decide (i=j))) M
 |.str i,.str j,M,q=>q (.bl (!decide (i=j))) M
 |.bl i,.bl j,M,q=>q (.bl (!decide (i=j))) M
 |.tup a,.tup b,M,q=>match g9 a,g9 b with
  |some us,some vs=>q (.bl (!nJ us vs)) M
  |_,_=>False
 |_,_,_,_=>False
def Qc:Dt->Dt->Ms->DQ->Prop
 |.bj,.bj,M,q=>q (.bl true) M
 |.bl _,.bj,M,q=>q (.bl false) M
 |.int _,.bj,M,q=>q (.bl false) M
 |.str _,.bj,M,q=>q (.bl false) M
 |.tup _,.bj,M,q=>q (.bl false) M
 |.lst _,.bj,M,q=>q (.bl false) M
 |_,_,_,_=>False
section
variable{K:fI}
def ltD:nh K (Ff λi j=>.bl (decide (i<j))) VT:=by
 intro G0 L0 H0 G L M H v1 v2 d1 d2 q e r n1 n2 h;unfold VT at h;split at h
 ·exact⟨_,_,n1,n2,bB e r h⟩
 ·exact h.elim
def leD:nh K (Ff λi j=>.bl (decide (i<=j))) Yv:=by
 intro G0 L0 H0 G L M H v1 v2 d1 d2 q e r n1 n2 h;unfold Yv at h;split at h
 ·exact⟨_,_,n1,n2,bB e r h⟩
 ·exact h.elim
def gtD:nh K (Ff λi j=>.bl (decide (j<i))) Y':=by
 intro G0 L0 H0 G L M H v1 v2 d1 d2 q e r n1 n2 h;unfold Y' at h;split at h
 ·exact⟨_,_,n1,n2,bB e r h⟩
 ·exact h.elim
def Z6:nh K (Ff λi j=>.bl (decide (j<=i))) VE:=by
 intro G0 L0 H0 G L M H v1 v2 d1 d2 q e r n1 n2 h;unfold VE at h;split at h
 ·exact⟨_,_,n1,n2,bB e r h⟩
 ·exact h.elim
def kY{p q:Prop} [Decidable p] [Decidable q](h:p↔q):decide p=decide q:=decide_eq_decide.mpr h
def Vm:nh K (λx y H Q=>rEq x y H Q\/SF K x y H Q) BB:=by
 intro G0 L0 H0 G L M H v1 v2 d1 d2 q e r n1 n2 h;unfold BB at h;split at h
 ·rename_i i j;cases n1;cases n2;exact .inl ⟨rfl,fin_same (d:=.bl _) e r (by show V.bl _=V.bl _;rw[kY (p:=V.int i=V.int j) (q:=i=j) ⟨λz=>V.int.inj z,λz=>by rw[z]⟩]) h⟩
 ·rename_i i j;cases n1;cases n2;exact .inl ⟨rfl,fin_same (d:=.bl _) e r (by show V.bl _=V.bl _;rw[kY (p:=V.str i=V.str j) (q:=i=j) ⟨λz=>V.str.inj z,λz=>by rw[z]⟩]) h⟩
 ·rename_i i j;cases n1;cases n2;exact .inl ⟨rfl,fin_same (d:=.bl _) e r (by show V.bl _=V.bl _;rw[kY (p:=V.bl i=V.bl j) (q:=i=j) ⟨λz=>V.bl.inj z,λz=>by rw[z]⟩]) h⟩
 ·rename_i a b;have⟨p1,w1,rfl,e1,m1⟩:=n1;have⟨p2,w2,rfl,e2,m2⟩:=n2;split at h
  ·rename_i us vs h1 h2;have⟨rfl,a2⟩:=fo h1 m1;have⟨rfl,b2⟩:=fo h2 m2;exact .inr ⟨p1,p2,_,_,rfl,rfl,.inl (.inl (r.sub _ _ e1)),.inl (.inl (r.sub _ _ e2)),a2,b2,bB e r h⟩
  ·exact h.elim
 ·exact h.elim
def YT:nh K (λx y H Q=>rNe x y H Q\/To K x y H Q) MX:=by
 intro G0 L0 H0 G L M H v1 v2 d1 d2 q e r n1 n2 h;unfold MX at h;split at h
 ·rename_i i j;cases n1;cases n2;exact .inl ⟨rfl,fin_same (d:=.bl _) e r (by show V.bl _=V.bl _;rw[kY (p:=V.int i=V.int j) (q:=i=j) ⟨λz=>V.int.inj z,λz=>by rw[z]⟩]) h⟩
 ·rename_i i j;cases n1;cases n2;exact .inl ⟨rfl,fin_same (d:=.bl _) e r (by show V.bl _=V.bl _;rw[kY (p:=V.str i=V.str j) (q:=i=j) ⟨λz=>V.str.inj z,λz=>by rw[z]⟩]) h⟩
 ·rename_i i j;cases n1;cases n2;exact .inl ⟨rfl,fin_same (d:=.bl _) e r (by show V.bl _=V.bl _;rw[kY (p:=V.bl i=V.bl j) (q:=i=j) ⟨λz=>V.bl.inj z,λz=>by rw[z]⟩]) h⟩
 ·rename_i a b;have⟨p1,w1,rfl,e1,m1⟩:=n1;have⟨p2,w2,rfl,e2,m2⟩:=n2;split at h
  ·rename_i us vs h1 h2;have⟨rfl,a2⟩:=fo h1 m1;have⟨rfl,b2⟩:=fo h2 m2;exact .inr ⟨p1,p2,_,_,rfl,rfl,.inl (.inl (r.sub _ _ e1)),.inl (.inl (r.sub _ _ e2)),a2,b2,bB e r h⟩
  ·exact h.elim
 ·exact h.elim
def Zv:nh K (λx y H Q=>y= .bj/\Q (.bl (decide (x= .bj))) H) Qc:=by
 intro G0 L0 H0 G L M H v1 v2 d1 d2 q e r n1 n2 h;unfold Qc at h;split at h
 ·cases n1;exact⟨n2,fin_same (d:=.bl true) e r (by show V.bl _=V.bl _;rw[aaD rfl]) h⟩
 ·cases n1;exact⟨n2,fin_same (d:=.bl false) e r (by show V.bl _=V.bl _;rw[aaJ (λz=>nomatch z)]) h⟩
 ·cases n1;exact⟨n2,fin_same (d:=.bl false) e r (by show V.bl _=V.bl _;rw[aaJ (λz=>nomatch z)]) h⟩
 ·cases n1;exact⟨n2,fin_same (d:=.bl false) e r (by show V.bl _=V.bl _;rw[aaJ (λz=>nomatch z)]) h⟩
 ·have⟨p1,w1,rfl,_⟩:=n1;exact⟨n2,fin_same (d:=.bl false) e r (by show V.bl _=V.bl _;rw[aaJ (λz=>nomatch z)]) h⟩
 ·have⟨p1,w1,rfl,_⟩:=n1;exact⟨n2,fin_same (d:=.bl false) e r (by show V.bl _=V.bl _;rw[aaJ (λz=>nomatch z)]) h⟩
 ·exact h.elim
end
section
variable{X:Cx}{R:St->XK}{a b c:Expr}{ta tb:DE}{pos:Pos}
def JL(ja:JE X R a ta)(jb:JE X R b tb):JE X R (.Compare a [.Lt] [b] pos) (jO VT ta tb):=vk N8 ltD ja jb (hJ _)
def yY(ja:JE X R a ta)(jb:JE X R b tb):JE X R (.Compare a [.LtE] [b] pos) (jO Yv ta tb):=vk R3 leD ja jb (hJ _)
def Yh(ja:JE X R a ta)(jb:JE X R b tb):JE X R (.Compare a [.GtE] [b] pos) (jO VE ta tb):=vk OA Z6 ja jb (hJ _)
def LQ{k:Nat}(hr:bT k X.A)(ja:JE X R a ta)(jb:JE X R b tb):JE X R (.Compare a [.Eq] [b] pos) (jO BB ta tb):=vk (N5.or (KJ hr.CS)) Vm ja jb (hJ _)
def tq(ja:JE X R a ta)(jb:JE X R b tb):JT X R (.Compare a [.Lt] [b] pos) (kn (jO VT ta tb)):=fC N8 ltD ja jb (hJ _)
def D0(ja:JE X R a ta)(jb:JE X R b tb):JT X R (.Compare a [.Gt] [b] pos) (kn (jO Y' ta tb)):=fC Vp gtD ja jb (hJ _)
def RZ(ja:JE X R a ta)(jb:JE X R b tb):JT X R (.Compare a [.GtE] [b] pos) (kn (jO VE ta tb)):=fC OA Z6 ja jb (hJ _)
def cQ{k:Nat}(hr:bT k X.A)(ja:JE X R a ta)(jb:JE X R b tb):JT X R (.Compare a [.Eq] [b] pos) (kn (jO BB ta tb)):=fC (N5.or (KJ hr.CS)) Vm ja jb (hJ _)
def lJ{k:Nat}(hr:bT k X.A)(ja:JE X R a ta)(jb:JE X R b tb):JT X R (.Compare a [.NotEq] [b] pos) (kn (jO MX ta tb)):=fC (Sk.or (OW hr.CS)) YT ja jb (hJ _)
def Qf(ja:JE X R a ta)(jb:JE X R b tb):JT X R (.Compare a [.Is] [b] pos) (kn (jO Qc ta tb)):=fC OV Zv ja jb (hJ _)
end
def f_(M:Ms):Dt->Option (List Dt)
 |.lst xs=>some xs
 |.tup xs=>some xs
 |.iA ns=>some (ns.map .int)
 |.kt xs=>some xs
 |.loc k=>match M[k]? with
  |some (.lst xs)=>some xs
  |_=>none
 |_=>none
def n_{K:fI}{G:Hp}{L:List Addr}{M:Ms}{H:Hp}{d:Dt}{v:V}{xs:List Dt}(r:Rl K G L M H)(n:Den K G L d v)(h:f_ M d=some xs):∃a vs,v= .ref a/\(gK K H a vs\/nZ K H a vs)/\Ψ K G L xs vs:=by
 cases d with
 |lst ds=>cases h;have⟨a,vs,rfl,e,m⟩:=n;exact⟨a,vs,rfl,.inl (.of (r.sub _ _ e)),m⟩
 |tup ds=>cases h;have⟨a,vs,rfl,e,m⟩:=n;exact⟨a,vs,rfl,.inr (.of (r.sub _ _ e)),m⟩
 |kt ds=>cases h;have⟨a,vs,rfl,e,m⟩:=n;exact⟨a,vs,rfl,.inr (r.sub.So e),m⟩
 |iA ns=>cases h;have⟨a,rfl,e⟩:=n;exact⟨a,_,rfl,.inl (r.sub.seq e),i_⟩
 |loc k=>
  have⟨a,rfl,e⟩:=n;have h:(match M[k]? with| some (.lst xs)=>some xs| _=>none)=some xs:=h;split at h
  ·rename_i ys hm;cases h;have⟨_,vs,e1,m1⟩:=r.eP k a _ e hm;exact⟨a,vs,rfl,.inl (.of e1),m1⟩
  ·cases h
 |_=>cases h
def MY{K:fI}{G:Hp}{L:List Addr}{ds:List Dt}{vs:List V}{i:Int}{d:Dt}(n:Ψ K G L ds vs)(h:lF ds i=some d):∃v,lF vs i=some v/\Den K G L d v:=by
 unfold lF at h⊢;rw[<-n.length];cases q:JU ds.length i with
 |none=>rw[q]at h;cases h
 |some j=>
  rw[q]at h;have⟨v,e,m⟩:=n.get h;exact⟨v,e,m⟩
def cE:Dt->Dt->Ms->DQ->Prop
 |.str z,.int i,M,q=>z.length<=sizeLine/\match lF z.cps.toList i with
  |some c=>q (.str ⟨#[c]⟩) M
  |none=>False
 |d,.int i,M,q=>match f_ M d with
  |some xs=>(match lF xs i with
   |some y=>q y M
   |none=>False)
  |none=>False
 |_,_,_,_=>False
def fB:List Dt->Ms->DQ->Prop
 |[.str z],M,q=>z.length<=sizeLine/\q (.int z.length) M
 |[d],M,q=>match f_ M d with
  |some xs=>q (.int xs.length) M
  |none=>False
 |_,_,_=>False
section
variable{K:fI}
def ixD:nh K (Z9 K) cE:=by
 intro G0 L0 H0 G L M H v1 v2 d1 d2 q e r n1 n2 h;unfold cE at h;split at h
 ·rename_i z i;split at h
  ·rename_i c hc;exact .inr (.inr ⟨z,i,c,n1,n2,h.1,hc,bB e r h.2⟩)
  ·exact h.2.elim
 ·rename_i d i _;split at h
  ·rename_i xs hx;split at h
   ·rename_i y hy;have⟨a,vs,rfl,hs,m⟩:=n_ r n1 hx;have⟨v,e1,m1⟩:=MY m hy;rcases hs with hs| hs
    ·exact .inl ⟨a,vs,i,v,rfl,n2,hs,e1,fin_same e r m1 h⟩
    ·exact .inr (.inl ⟨a,vs,i,v,rfl,n2,hs,e1,fin_same e r m1 h⟩)
   ·exact h.elim
  ·exact h.elim
 ·exact h.elim
def WU:B4 K (λxs H Q=>(∃z,xs=[V.str z]/\z.length<=sizeLine/\Q (.int z.length) H)\/(∃p ys,xs=[V.ref p]/\(gK K H p ys\/nZ K H p ys)/\Q (.int ys.length) H)) fB:=by
 intro G0 L0 H0 G L M H vs ds q e r n h;unfold fB at h;split at h
 ·rename_i z;have⟨v,rfl,n1⟩:=bF n;cases n1;exact .inl ⟨z,rfl,h.1,bB e r h.2⟩
 ·rename_i d _;have⟨v,rfl,n1⟩:=bF n;split at h
  ·rename_i xs hx;have⟨a,ws,rfl,hs,m⟩:=n_ r n1 hx;exact .inr ⟨a,ws,rfl,hs,fin_same (d:=.int xs.length) e r (by show V.int _=V.int _;rw[m.length]) h⟩
  ·exact h.elim
 ·exact h.elim
end
section
variable{X:Cx}{R:St->XK}{a b c:Expr}{ta tb:DE}{pos:Pos}
def Ζ(ja:JE X R a ta)(jb:JE X R b tb)(hs:wD b:=by exactλ_ _=>rfl):JE X R (.Subscript a b pos) (jO cE ta tb):=Vn Pk ixD ja jb hs
variable{x:Str}{p:Pos}{e:Expr}{es:List Expr}{t:DA}{id T:String}{r:List V->Hp->VK->Prop}{f:List Dt->Ms->DQ->Prop}
def gD(hc:dU X (.builtin id) r)(cd:B4 X.K r f)(hm:X.mg x=none)(hv:bootBuiltins x=some (.builtin id))(ha:JA X R (e::es) t)(hg:Gl X x:=by rfl)(hn:x≠"__name__":=by decide)(oy:(x==("__debug__":Str))=false:=by decide)
  (he:starEach (e::es) X.env=(false,eval e X.env)::starEach es X.env:=by rfl) (gz:(backTo pos (starEach es X.env)).any (·.1)=false:=by rfl):JE X R (.Call (.Name x p) (e::es) [] pos) (A6 f t):=
 .of (K0 hc hg hm hv ha hn oy he gz) λσ H G L ρ M q x r n h hx=>NU cd r n h hx
def r_(hc:dU X (.type T) r)(cd:B4 X.K r f)(hm:X.mg x=none)(hv:bootBuiltins x=some (.type T))(ha:JA X R (e::es) t)(hg:Gl X x:=by rfl)(hn:x≠"__name__":=by decide)(oy:(x==("__debug__":Str))=false:=by decide)
  (he:starEach (e::es) X.env=(false,eval e X.env)::starEach es X.env:=by rfl) (gz:(backTo pos (starEach es X.env)).any (·.1)=false:=by rfl):JE X R (.Call (.Name x p) (e::es) [] pos) (A6 f t):=
 .of (FC hc hg hm hv ha hn oy he gz) λσ H G L ρ M q x r n h hx=>NU cd r n h hx
def bP(hm:X.mg "len"=none)(ha:JA X R [e] t)(he:starEach [e] X.env=(false,eval e X.env)::starEach [] X.env:=by rfl)(gz:(backTo pos (starEach [] X.env)).any (·.1)=false:=by rfl)(hg:Gl X "len":=by rfl):JE X R (.Call (.Name "len" p) [e] [] pos) (A6 fB t):=
 gD (xc.or wg) WU hm PySem.boot_len ha hg @_ @_ he gz
end
section
variable{X:Cx}
def xZ:dU X (.type "int") (λxs H Q=>∃x n,xs=[.str x]/\PySem.intText? x=some n/\x.length<=640/\Q (.int n) H):=by intro ζ s σ H xs us Q I rs h;have⟨x,n,rfl,hn,hl,q⟩:=h;have⟨w,rfl,u,rfl⟩:=kU rs;exact PySem.W.KIN.call_text hn hl ⟨.int n,H,I.tok _,⟨_,rfl⟩,q⟩
end
def zC:List Dt->Ms->DQ->Prop
 |[.int i],M,q=>q (.int i) M
 |[.bl b],M,q=>q (.int (if b then 1 else 0)) M
 |[.str x],M,q=>x.length<=640/\match PySem.intText? x with
  |some n=>q (.int n) M
  |none=>False
 |_,_,_=>False
def O0:List Dt->Ms->DQ->Prop
 |[.int i],M,q=>q (.int (if i<0 then -i else i)) M
 |_,_,_=>False
def Ku:List Dt->Ms->DQ->Prop
 |[.int i,.int j],M,q=>q (.int (if j<i then j else i)) M
 |_,_,_=>False
def QO:List Dt->Ms->DQ->Prop
 |[d],M,q=>∃bs:List Bool,f_ M d=some (bs.map Dt.bl)/\(∀k,d≠ .kt k)/\(∀k,d≠ .tup k)/\q (.bl (bs.any id)) M
 |_,_,_=>False
def Oq:Dt->Option Value
 |.bj=>some (.type "NoneType")
 |.bl _=>some (.type "bool")
 |.int _=>some (.type "int")
 |.str _=>some (.type "str")
 |.lst _=>some (.type "list")
 |.tup _=>some (.type "tuple")
 |_=>none
def QN:Dt->Option Value
 |.ty T=>some (.type T)
 |.ref C=>some (.ref C)
 |_=>none
section
variable{K:fI}
def vT{G:Hp}{L:List Addr}:∀{l:List Str},Ψ K G L (l.map Dt.str) (l.map V.str)
 |[]=>rfl
 |_::_=>⟨_,_,rfl,rfl,vT⟩
def n6{G:Hp}{L:List Addr}:∀{bs:List Bool}{vs:List V},Ψ K G L (bs.map Dt.bl) vs->vs=bs.map V.bl
 |[],_,h=>h
 |b::bs,_,⟨v,r,e,h1,h2⟩=>by subst e;rw[n6 h2,show v=V.bl b from h1];rfl
def Z1:B4 K (λxs H Q=>((∃i,xs=[V.int i]/\Q (.int i) H)\/∃k,xs=[V.bl k]/\Q (.int (if k then 1 else 0)) H)\/∃x n,xs=[V.str x]/\PySem.intText? x=some n/\x.length<=640/\Q (.int n) H) zC:=by
 intro G0 L0 H0 G L M H vs ds q e r n h;unfold zC at h;split at h
 ·rename_i i;have⟨v,rfl,n1⟩:=bF n;cases n1;exact .inl (.inl ⟨i,rfl,bB e r h⟩)
 ·rename_i i;have⟨v,rfl,n1⟩:=bF n;cases n1;exact .inl (.inr ⟨i,rfl,bB e r h⟩)
 ·rename_i x;have⟨v,rfl,n1⟩:=bF n;cases n1;split at h
  ·rename_i m hm;exact .inr ⟨x,m,rfl,hm,h.1,bB e r h.2⟩
  ·exact h.2.elim
 ·exact h.elim
def Y4:B4 K (λxs H Q=>∃i,xs=[V.int i]/\Q (.int (if i<0 then -i else i)) H) O0:=by
 intro G0 L0 H0 G L M H vs ds q e r n h;unfold O0 at h;split at h
 ·rename_i i;have⟨v,rfl,n1⟩:=bF n;cases n1;exact⟨i,rfl,bB e r h⟩
 ·exact h.elim
def Z2:B4 K (λxs H Q=>∃i j,xs=[V.int i,.int j]/\Q (.int (if j<i then j else i)) H) Ku:=by
 intro G0 L0 H0 G L M H vs ds q e r n h;unfold Ku at h;split at h
 ·rename_i i j;have⟨v,u,rfl,n1,n2⟩:=fW n;cases n1;cases n2;exact⟨i,j,rfl,bB e r h⟩
 ·exact h.elim
def Xe:B4 K (Sb K) QO:=by
 intro G0 L0 H0 G L M H vs ds q e r n h;unfold QO at h;split at h
 ·rename_i d;have⟨bs,hs,nk,nt,h⟩:=h;have⟨v,rfl,n1⟩:=bF n;cases d with
  |lst xs=>
   cases hs;have⟨a,ws,rfl,e1,m⟩:=n1;exact⟨a,bs,rfl,by rw[<-n6 m];exact .of (r.sub _ _ e1),bB e r h⟩
  |loc k=>
   have⟨a,rfl,e1⟩:=n1;have hs:(match M[k]? with| some (.lst xs)=>some xs| _=>none)=some (bs.map Dt.bl):=hs;split at hs
   ·rename_i ys hm;cases hs;have⟨_,ws,e2,m⟩:=r.eP k a _ e1 hm;exact⟨a,bs,rfl,by rw[<-n6 m];exact .of e2,bB e r h⟩
   ·cases hs
  |tup xs=>exact aaL rfl (nt xs)
  |kt xs=>exact aaL rfl (nk xs)
  |iA ns=>
   have e0:ns.map Dt.int=bs.map Dt.bl:=aar hs;cases ns with
   |nil=>
    cases bs with
    |nil=>have⟨a,rfl,e1⟩:=n1;exact⟨a,[],rfl,r.sub.seq e1,bB e r h⟩
    |cons _ _=>cases e0
   |cons _ _=>
    cases bs with
    |nil=>cases e0
    |cons _ _=>cases e0
  |_=>cases hs
 ·exact h.elim
def GV{G:Hp}{L:List Addr}{M:Ms}{H:Hp}{d:Dt}{v:V}{t:Value}(r:Rl K G L M H)(n:Den K G L d v)(h:Oq d=some t):j2 K H v t:=by
 cases d with
 |bj=>cases h;cases n;exact .bj
 |bl b=>cases h;cases n;exact .bl _
 |int i=>cases h;cases n;exact .int _
 |str x=>cases h;cases n;exact .str _
 |lst xs=>cases h;have⟨a,ws,rfl,e,_⟩:=n;exact .lst (r.sub _ _ e)
 |tup xs=>cases h;have⟨a,ws,rfl,e,_⟩:=n;exact .tup (r.sub _ _ e)
 |_=>cases h
def DZ{G:Hp}{L:List Addr}{d:Dt}{v:V}{t:Value}(n:Den K G L d v)(h:QN d=some t):JV v=some t:=by
 cases d with
 |ty T=>cases n;exact h
 |ref C=>cases n;exact h
 |_=>cases h
end
section
variable{X:Cx}{R:St->XK}{o a e e1 e2:Expr}{es:List Expr}{to ta te:DE}{t:DA}{name:Str}{apos cD pos p p2:Pos}{T id:String}
def vV:bootBuiltins "int"=some (.type "int"):=by decide+kernel
def E7:bootBuiltins "abs"=some (.builtin "abs"):=by decide+kernel
def Fx:bootBuiltins "any"=some (.builtin "any"):=by decide+kernel
def FQ:bootBuiltins "min"=some (.builtin "min"):=by decide+kernel
def iX:bootBuiltins "isinstance"=some (.builtin "isinstance"):=by decide+kernel
def Bt:bootBuiltins "bool"=some (.type "bool"):=by decide+kernel
def jZ:bootBuiltins "tuple"=some (.type "tuple"):=by decide+kernel
def qX:bootBuiltins "list"=some (.type "list"):=by decide+kernel
def Cc{x:Str}{T:String}(hm:X.mg x=none)(hv:bootBuiltins x=some (.type T))(hg:Gl X x:=by rfl)(hn:x≠"__name__":=by decide)(hd:(x==("__debug__":Str))=false:=by decide):JE X R (.Name x p) (dC (.ty T)):=OX (MK (v:=.ty T) hg hm hv rfl hn hd) λ_ _=>rfl
def tY{x:Str}{z:Int}(hm:∃tk,X.mg x=some (.int z tk))(hg:Gl X x:=by rfl)(hd:(x==("__debug__":Str))=false:=by decide):JE X R (.Name x p) (dC (.int z)):=let ⟨tk,hm⟩:=hm;OX (EL (v:=.int z) hg hm ⟨tk,rfl⟩ hd) λ_ _=>rfl
end
def VH(x:Str):It:=⟨λi _=>i<x.cps.size,λi H v H'=>H'=H/\∃c,x.cps[i]? =some c/\v= .str ⟨#[c]⟩,λi _=>x.cps.size<=i⟩
def FV{P:Program}{w:World}{K:fI}{tg:Expr}(x:Str)(t:Tok)(it:Addr):Turn P w K tg (VH x) [it] it (λi h=>h.IsStrIter it "str_ascii_iterator" x t i) where
 mem:=by simp
 obj:=λi h st b hb=>by
  have e:b=it:=by simpa using hb
  subst e;have⟨o,e,c,d⟩:=st;exact⟨o,e,λv z=>by rw[d]at z;cases z⟩
 keep:=λi h h' st k=>let ⟨o,ho,r⟩:=st;⟨o,k it (by simp) o ho,r⟩
 item:=by intro X hP hw hK hc i ζ s σ H E I hf st hg;subst hP hw hK;have⟨f0,f1,f2,f3,f4,f5⟩:=hf it (by simp);have hg:i<x.cps.size:=hg;refine wpAny_pyNext_ascii_item st (c:=x.cps[i]) (by simp[hg]) λh' xQ sb=>?_;have I1:Inv X ζ σ H {s with heap:=h',toks:=s.toks+1}:=I.turned (λb o hb e=>(sb.2 b hb).trans e) f0 f1 f3 f4 f5;have⟨o,e,c,d⟩:=id xQ;exact⟨_,rfl,vR (s:={s with heap:=h',toks:=s.toks+1}) e c d @_ ⟨.str ⟨#[x.cps[i]]⟩,H,I1,⟨_,rfl⟩,⟨rfl,_,by simp[hg],rfl⟩,xQ,λb hb=>(hf b hb).1⟩⟩
 done:=by intro X hP hw hK hc i ζ s σ H E I hf st hg;subst hP hw hK;have⟨f0,f1,f2,f3,f4,f5⟩:=hf it (by simp);have hg:x.cps.size<=i:=hg;exact wpAny_pyNext_ascii_end (I.ok.hd hc) st (by simp;omega) λh' eb=>⟨rfl,I.turned (t':=s.toks) (λb o hb e=>eb b o hb e) f0 f1 f3 f4 f5⟩
 self:=λ_ _ _ _ _ st h=>wpAny_pyIter_striter_ascii st h
def FU{P:Program}{w:World}{K:fI}{tg:Expr}(x:Str)(t:Tok)(it:Addr):Turn P w K tg (VH x) [it] it (λi h=>h.IsStrIter it "str_iterator" x t i) where
 mem:=by simp
 obj:=λi h st b hb=>by
  have e:b=it:=by simpa using hb
  subst e;have⟨o,e,c,d⟩:=st;exact⟨o,e,λv z=>by rw[d]at z;cases z⟩
 keep:=λi h h' st k=>let ⟨o,ho,r⟩:=st;⟨o,k it (by simp) o ho,r⟩
 item:=by intro X hP hw hK hc i ζ s σ H E I hf st hg;subst hP hw hK;have⟨f0,f1,f2,f3,f4,f5⟩:=hf it (by simp);have hg:i<x.cps.size:=hg;refine wpAny_pyNext_wide_item st (c:=x.cps[i]) (by simp[hg]) λh' xQ sb=>?_;have I1:Inv X ζ σ H {s with heap:=h',toks:=s.toks+1}:=I.turned (λb o hb e=>(sb.2 b hb).trans e) f0 f1 f3 f4 f5;have⟨o,e,c,d⟩:=id xQ;exact⟨_,rfl,vR (s:={s with heap:=h',toks:=s.toks+1}) e c d @_ ⟨.str ⟨#[x.cps[i]]⟩,H,I1,⟨_,rfl⟩,⟨rfl,_,by simp[hg],rfl⟩,xQ,λb hb=>(hf b hb).1⟩⟩
 done:=by intro X hP hw hK hc i ζ s σ H E I hf st hg;subst hP hw hK;have⟨f0,f1,f2,f3,f4,f5⟩:=hf it (by simp);have hg:x.cps.size<=i:=hg;exact wpAny_pyNext_wide_end (I.ok.hd hc) st (by simp;omega) λh' eb=>⟨rfl,I.turned (t':=s.toks) (λb o hb e=>eb b o hb e) f0 f1 f3 f4 f5⟩
 self:=λ_ _ _ _ _ st h=>wpAny_pyIter_striter_wide st h
def yy(z:Str):List Dt:=z.cps.toList.map λc=>Dt.str ⟨#[c]⟩
def Ra{K:fI}{G:Hp}{L:List Addr}{z:Str}:Yl K (VH z) (yy z) G L where
 go :=λi G1 L1 M1 H1 d g l r e=>by
  unfold yy at e;rw[aaq]at e;cases q:z.cps.toList[i]? with
  |none=>rw[q]at e;cases e
  |some c=>
   rw[q]at e;cases e;have hi:i<z.cps.size:=by have:=(aaf.mp q).1;simpa using this
   refine⟨hi,λv' H' xz=>?_⟩;have⟨eH,c',e',y⟩:=xz;subst eH y;have:c'=c:=by rw[<-Array.getElem?_toList,q]at e';exact(aar e').symm
   subst this;exact⟨G1,.refl _ _ _,r,rfl⟩
 stop:=λi G1 L1 M1 H1 g l r e=>by unfold yy at e;show z.cps.size<=i;simpa using e
def Ua(M:Ms):Dt->Option (List Dt)
 |.lst xs=>some xs
 |.tup xs=>some xs
 |.iA ns=>some (ns.map .int)
 |.kt xs=>some xs
 |.str z=>some (yy z)
 |_=>none
section
variable{X:Cx}{R:St->XK}{tg e:Expr}{te:DE}
def w8{ζ:List (Addr×Obj)}{σ:St}{H:Hp}{s:Shared}{a:Addr}{vs:List V}{Q:It->Hp->Prop}{E:Value->Shared->Prop}(I:Inv X ζ σ H s)(hq:gK X.K H a vs)(q:Q (VS X.K a) H):wpAny (model X.prog X.w) X.A (pyIter (.ref a)) (Le X ζ σ tg Q) E s:=by
 have⟨its,rv,p,hz⟩:=I.list hq;refine wpAny_pyIter_list p.isList ?_;refine⟨s.heap.objs.size,[s.heap.objs.size],_,_,H,rfl,I.kept (t':=s.toks) λb o e=>aal _ e,FZ a _,⟨_,aaS _ rfl,rfl,rfl⟩,λb hb=>?_,q⟩;have e:b=s.heap.objs.size:=by simpa using hb
 subst e;exact I.Bq (aan _) (I.aS.fresh (aan _))
def Jn{ζ:List (Addr×Obj)}{σ:St}{H:Hp}{s:Shared}{a:Addr}{vs:List V}{Q:It->Hp->Prop}{E:Value->Shared->Prop}(I:Inv X ζ σ H s)(hq:nZ X.K H a vs)(q:Q (YD X.K a) H):wpAny (model X.prog X.w) X.A (pyIter (.ref a)) (Le X ζ σ tg Q) E s:=by
 have⟨its,rv,p,hz⟩:=I.tuple hq;refine wpAny_pyIter_tuple (show s.heap.IsTuple a its.toArray from p) ?_;refine⟨s.heap.objs.size,[s.heap.objs.size],_,_,H,rfl,I.kept (t':=s.toks) λb o e=>aal _ e,BD a _,⟨_,aaS _ rfl,rfl,rfl⟩,λb hb=>?_,q⟩;have e:b=s.heap.objs.size:=by simpa using hb
 subst e;exact I.Bq (aan _) (I.aS.fresh (aan _))
def Pm{ζ:List (Addr×Obj)}{σ:St}{H:Hp}{s:Shared}{z:Str}{t:Tok}{Q:It->Hp->Prop}{E:Value->Shared->Prop}(I:Inv X ζ σ H s)(q:Q (VH z) H):wpAny (model X.prog X.w) X.A (pyIter (.str z t)) (Le X ζ σ tg Q) E s:=by
 have fp:∀b∈[s.heap.objs.size],rY X ζ H b:=λb hb=>by
  have e:b=s.heap.objs.size:=by simpa using hb
  subst e;exact I.Bq (aan _) (I.aS.fresh (aan _))
 cases ha:z.cps.all (· < 128)
 ·exact wpAny_pyIter_wide ha ⟨s.heap.objs.size,[s.heap.objs.size],_,_,H,rfl,I.kept (t':=s.toks) λb o e=>aal _ e,FU z t _,⟨_,aaS _ rfl,rfl,rfl⟩,fp,q⟩
 ·exact wpAny_pyIter_ascii ha ⟨s.heap.objs.size,[s.heap.objs.size],_,_,H,rfl,I.kept (t':=s.toks) λb o e=>aal _ e,FV z t _,⟨_,aaS _ rfl,rfl,rfl⟩,fp,q⟩
end
def O5:DF:=λds _ q _=>∃ns:List Int,ds=[.iA ns]/\ns.length<=63/\∀M',q (.bl true) M'
def Aw(K:fI):Sp:=λvs H Q _=>∃(a:Addr) (ns:List Int),vs=[.ref a]/\gK K H a (ns.map V.int)/\ns.length<=63/\∀H',Q (.bl true) H'
def Rp{P:Program}{w:World}{K:fI}{mg:Str->Option Value}{base:Heap}{k:Nat}{f:Addr}{fd:FuncData}{x:Str}(F:av P w K mg base (cC P w) k f fd [x] (cW K O5)):av P w K mg base V7 k f fd [x] (Aw K):=by
 have sp:∀vs H Q E,Aw K vs H Q E->cW K O5 vs H Q E0:=by rintro vs H Q E ⟨a,ns,rfl,hS,hl,hQ⟩;refine⟨H,[],[.iA ns],[],λd _=>d= .bl true,λ_ _ _=>False,⟨.refl _,rfl,List.nodup_nil,λk a m h=>by simp at h⟩,⟨_,_,rfl,⟨a,rfl,hS⟩,rfl⟩,⟨ns,rfl,hl,λ_=>rfl⟩,fun v H' ⟨d,G',L',M',_,_,n,e⟩=>?_,λ_ _ _ _ _ _ _ h=>h.elim⟩;subst e;rw[show v=V.bl true from n];exact hQ H'
 refine⟨λvs H Q E h=>F.len vs H Q E0 (sp vs H Q E h),λA outer s H args us vs Q E hr he hb hv h=>codeAny_mono (F.run A outer s H args us vs Q E0 hr he hb hv (sp vs H Q E h)) λr s' hq=>?_⟩;cases r with
 |error e=>
  have⟨_,_,_,_,_,_,_,_,hE⟩:=hq;exact hE.elim
 |ok fl=>cases fl <;> exact hq
def Ro(c:DT)(tb:DS):DS:=λDn ρ M=>∃W:Nat->En->Ms->Prop,(∃m,W m ρ M)/\∀m ρ M,W m ρ M->
 c ρ M (λb M1=>(b=true->∃N:En->Ms->Prop,(∀ρ' M',N ρ' M'->∃m',m'<m/\W m' ρ' M')/\tb {Dn with nx:=N,ct:=N,bk:=Dn.nx} ρ M1)/\(b=false->Dn.nx ρ M1)) Dn.x
def Wy(i j:Nat)(t:DA):DS:=λDn ρ M=>t ρ M (λds M1=>match ds with
 |[a,b]=>Dn.nx ((ρ.set i (some a)).set j (some b)) M1
 |_=>False) Dn.x
section
variable{X:Cx}{R:St->XK}{c a b:Expr}{body:List Stmt}{tc:DT}{tb:DS}{pos:Pos}
def sx(hc:JT X R c tc)(hb:DP X R body tb)(hp:PassesOwn (model X.prog X.w) X.A X.env X.xe:=by first| exact PassesOwn.never| exact PassesOwn.leaving):JS X R (.While c body [] pos) (Ro tc tb):=.of (Ki hp hc hb) λσ H G L ρ M Dn rl n h hx=>by
 have⟨W,⟨m0,w0⟩,turn⟩:=h;refine⟨λm σ' H'=>fb X.K G L H (W m) σ' H',⟨m0,ρ,G,L,M,.refl _ _ _,rl,n,w0⟩,λm σ' H' xz=>?_⟩;have⟨ρ',G',L',M',e',r',n',w'⟩:=xz;refine⟨G',L',ρ',M',_,_,r',n',turn m ρ' M' w',hx.on e',λv H1 xz=>?_⟩;have⟨G1,L1,M1,e1,r1,h1⟩:=xz;cases v with
 |true=>
  have⟨N,hN,hb⟩:=h1.1 rfl;refine FI ⟨fb X.K G L H N,fun σ2 H2 ⟨ρ2,G2,L2,M2,e2,r2,n2,h2⟩=>?_,?_⟩
  ·have⟨m',hm,w2⟩:=hN ρ2 M2 h2;exact⟨m',hm,ρ2,G2,L2,M2,e2,r2,n2,w2⟩
  ·have Uo:=e'.trans e1;exact⟨G1,L1,ρ',M1,_,r1,n'.mono e1,hb,hx.on Uo,⟨λ_ _ f=>fb.back Uo f,λ_ _ f=>Fin.back Uo f,λ_ _ f=>fb.back Uo f,λ_ _ f=>fb.back Uo f⟩⟩
 |false=>exact EX ⟨ρ',G1,L1,M1,e'.trans e1,r1,n'.mono e1,h1.2 rfl⟩
def Ja{i j:Nat}{x y:Str}{t:DA}{px py pt:Pos}{kt k2 PF}(hN:X.N.Nodup)(hi:X.N[i]? =some x)(hj:X.N[j]? =some y)(ha:JA X R [a,b] t)(Xh:i≠j:=by decide)
  (hx:X.env.scope.names.lookup x=some .local:=by rfl) (hy:X.env.scope.names.lookup y=some .local:=by rfl)
  (hw:swappedStores [.Tuple [.Name x px,.Name y py] kt pt] (.Tuple [a,b] k2 PF) X.env=pure (some [x,y]):=by rfl) (hc:X.calm=true:=by rfl)
  (hs:swapsWithSole [.Tuple [.Name x px,.Name y py] kt pt] (.Tuple [a,b] k2 PF) pos.line X.env=pure false:=by rfl):
  JS X R (.Assign [.Tuple [.Name x px,.Name y py] kt pt] (.Tuple [a,b] k2 PF) pos) (Wy i j t):=.of (O1 hc hN hi hj Xh hx hy ha hw hs) λσ H G L ρ M Dn rl n h hx=>by
 refine⟨G,L,ρ,M,_,_,rl,n,h,hx,λvs H1 xz=>?_⟩;have⟨ds,G1,L1,M1,e1,r1,n1,h1⟩:=xz
 (try dsimp only at h1)
 split at h1
 ·have⟨v,u,rfl,m1,m2⟩:=fW n1;exact⟨v,u,rfl,_,G1,L1,M1,e1,r1,((n.mono e1).set i m1).set j m2,h1⟩
 ·exact h1.elim
end
section
variable{X:Cx}{R:St->XK}{e e2 o:Expr}{es:List Expr}{t:DA}{to ta tb:DE}{a b:Expr}{p pos apos cD:Pos}
def Df(hm:X.mg "abs"=none)(ha:JA X R [e] t)(he:starEach [e] X.env=(false,eval e X.env)::starEach [] X.env:=by rfl)(gz:(backTo pos (starEach [] X.env)).any (·.1)=false:=by rfl)(hg:Gl X "abs":=by rfl):JE X R (.Call (.Name "abs" p) [e] [] pos) (A6 O0 t):=
 gD Ib Y4 hm E7 ha hg @_ @_ he gz
def Se(hm:X.mg "min"=none)(ha:JA X R [e,e2] t)(hc:X.calm=true:=by rfl)(he:starEach [e,e2] X.env=(false,eval e X.env)::starEach [e2] X.env:=by rfl)(gz:(backTo pos (starEach [e2] X.env)).any (·.1)=false:=by rfl)(hg:Gl X "min":=by rfl):JE X R (.Call (.Name "min" p) [e,e2] [] pos) (A6 Ku t):=
 gD (Gd hc) Z2 hm FQ ha hg @_ @_ he gz
def UX(hm:X.mg "any"=none)(ha:JA X R [e] t)(hc:X.calm=true:=by rfl)(he:starEach [e] X.env=(false,eval e X.env)::starEach [] X.env:=by rfl)(gz:(backTo pos (starEach [] X.env)).any (·.1)=false:=by rfl)(hg:Gl X "any":=by rfl):JE X R (.Call (.Name "any" p) [e] [] pos) (A6 QO t):=
 gD (IP hc) Xe hm Fx ha hg @_ @_ he gz
def OI(hm:X.mg "int"=none)(ha:JA X R [e] t)(he:starEach [e] X.env=(false,eval e X.env)::starEach [] X.env:=by rfl)(gz:(backTo pos (starEach [] X.env)).any (·.1)=false:=by rfl)(hg:Gl X "int":=by rfl):JE X R (.Call (.Name "int" p) [e] [] pos) (A6 zC t):=
 r_ (Gb.or xZ) Z1 hm vV ha hg @_ @_ he gz
end
def om{te:DE}{cs:En}{f:Dt->Dt}{M:Ms}{k:List Dt->Ms->Prop}:∀(xs Η:List Dt),(∀x∈xs,∀q:DQ,q (f x) M->te (some x::cs) M q lS)->k (Η++xs.map f) M->yJ te cs xs Η M k
 |[],Η,_,h=>by rw[List.map_nil,aa7]at h;exact h
 |x::xs,Η,ht,h=>ht x List.mem_cons_self _ (om xs (Η++[f x]) (λy hy=>ht y (List.mem_cons_of_mem _ hy)) (by simpa using h))
def Θ{d y:Dt}{xs:List Dt}{i:Int}{M:Ms}{q:DQ}(hs:f_ M d=some xs)(h:lF xs i=some y)(k:q y M):cE d (.int i) M q:=by
 cases d with
 |str z=>cases hs
 |_=>
  unfold cE;simp only[hs,h];exact k
def ar{d:Dt}{xs:List Dt}{M:Ms}{q:DQ}(hs:f_ M d=some xs)(k:q (.int xs.length) M):fB [d] M q:=by
 cases d with
 |str z=>cases hs
 |_=>
  unfold fB;simp only[hs];exact k
def bw{α:Type}{x:α}{xs:List α}:lF (x::xs) 0=some x:=Ν (j:=0) rfl
def G6(bs:List Bool):(List.range bs.length).all (λi=>bs.getD i false)=bs.all id:=by
 induction bs with
 |nil=>rfl
 |cons b bs ih=>
  rw[aaB,abF,ab4,List.all_map,ab4,<-ih];rfl
def Tr(K:fI):List V->Hp->VK->Prop:=λxs H Q=>∃(p:Addr) (bs:List Bool),xs=[.ref p]/\gK K H p (bs.map V.bl)/\Q (.bl (bs.all id)) H
section
variable{X:Cx}
def Jm (hc : X.calm = true) : dU X (.builtin "all") (Tr X.K) :=by
  intro ζ s σ H xs us Q I r h;obtain⟨p,bs,rfl,hq,q⟩ :=h;obtain⟨u,rfl,r1⟩ :=kU r;cases r1;obtain⟨its,rv,pl,hz⟩ :=I.list hq;have PD :=wF rv;subst PD;refine call_all_walk (wpAny_pyIter_list pl.isList ?_);have lp : p<s.heap.objs.size :=by obtain⟨o,e,_⟩ :=pl.isList;exact aat e
  refine⟨s.heap.objs.size,_,_,_,_,_,λi =>bs.getD i false,rfl,Walks.list (show X.A.in1.handled = none from I.ok.hd hc) s.heap.objs.size p (aaT lp) (bs.map Value.bool).toArray,⟨⟨_,aaS _ rfl,rfl,rfl⟩,pl.isList.at λo e =>aal _ e⟩,zg,λh' tk hk =>?_⟩;refine⟨.bl (bs.all id),H,I.kept λb o e =>hk b o (λz =>by have : b = s.heap.objs.size :=(by simpa using z);exact Nat.lt_irrefl _ (this ▸ Heap.lt_size e)) (Heap.get?_push_of_some _ e),?_,q⟩;rw[aay,aac,G6];rfl
end
def Rh:List Dt->Ms->DQ->Prop
 |[.lst xs],M,q=>∃bs:List Bool,xs=bs.map Dt.bl/\q (.bl (bs.all id)) M
 |_,_,_=>False
def YH{K:fI}:B4 K (Tr K) Rh:=by
 intro G0 L0 H0 G L M H vs ds q e r n h;unfold Rh at h;split at h
 ·rename_i xs;have⟨bs,rfl,h⟩:=h;have⟨v,rfl,n1⟩:=bF n;have⟨a,ws,rfl,e1,m⟩:=n1;exact⟨a,bs,rfl,by rw[<-n6 m];exact .of (r.sub _ _ e1),bB e r h⟩
 ·exact h.elim
def Oc(i j:Nat)(t:DE):DS:=λDn ρ M=>t ρ M (λd M1=>match d with
 |.tup [a,b]=>Dn.nx ((ρ.set i (some a)).set j (some b)) M1
 |_=>False) Dn.x
section
variable{X:Cx}{R:St->XK}{e o:Expr}{es:List Expr}{t:DA}{to te:DE}{p pos apos cD:Pos}
def GX:bootBuiltins "all"=some (.builtin "all"):=by decide+kernel
def Oh(hm:X.mg "all"=none)(ha:JA X R [e] t)(hc:X.calm=true:=by rfl)(he:starEach [e] X.env=(false,eval e X.env)::starEach [] X.env:=by rfl)(gz:(backTo pos (starEach [] X.env)).any (·.1)=false:=by rfl)(hg:Gl X "all":=by rfl):JE X R (.Call (.Name "all" p) [e] [] pos) (A6 Rh t):=
 gD (Jm hc) YH hm GX ha hg @_ @_ he gz
variable{i j k:Nat}{tg:Expr}
def Es(he:JE X R e te)(hg:PG X tg (Kg X.K 2 (nO (jd i) (nO (jd j) KR))))(hs:swapsWithSole [tg] e pos.line X.env=pure false:=by rfl)(hw:swappedStores [tg] e X.env=pure none:=by rfl)
  (h1:(assignEach [tg] X.env).map (·.2)=[assign tg X.env]:=by rfl):JS X R (.Assign [tg] e pos) (Oc i j te):=.of (J7 he hg hs hw h1) λσ H G L ρ M Dn rl n h hx=>by
 refine⟨G,L,ρ,M,_,_,rl,n,h,hx,λv H1 xz=>?_⟩;have⟨d1,G1,L1,M1,e1,r1,n1,h1⟩:=xz
 (try dsimp only at h1)
 split at h1
 ·rename_i a b;have⟨p,vs,rfl,e,m⟩:=n1;have⟨v1,v2,rfl,m1,m2⟩:=fW m;exact⟨p,_,rfl,.inl (.inl (r1.sub _ _ e)),rfl,v1,_,rfl,v2,_,rfl,rfl,_,G1,L1,M1,e1,r1,((n.mono e1).set i m1).set j m2,h1⟩
 ·exact h1.elim
end
mutual
def Dt.under(n:Nat):Dt->Prop
 |.bj=>True
 |.bl _=>True
 |.int _=>True
 |.str _=>True
 |.tup ds=>Dt.bR n ds
 |.lst ds=>Dt.bR n ds
 |.obj _ _ ds=>Dt.bR n ds
 |.loc k=>k<n
 |.ref _=>True
 |.ty _=>True
 |.iA _=>True
 |.kt ds=>Dt.bR n ds
 |.exc _ _ ds=>Dt.bR n ds
 |.RT _ _ _ _ ds=>Dt.bR n ds
def Dt.bR(n:Nat):List Dt->Prop
 |[]=>True
 |d::ds=>Dt.under n d/\Dt.bR n ds
end
def MO.under(n:Nat):MO->Prop
 |.lst ds=>Dt.bR n ds
 |.ins _ _ ds=>Dt.bR n ds
 |.bX _ ds=>Dt.bR n ds
 |.raw _=>True
mutual
inductive Ha(n:Nat)(E:Ms):Dt->Dt->Prop
 |old {d:Dt} (h:d.under n):Ha n E d d
 |tup {ds es:List Dt} (h:jA n E ds es):Ha n E (.tup ds) (.tup es)
 |lst {ds es:List Dt} (h:jA n E ds es):Ha n E (.lst ds) (.lst es)
 |obj {C:Addr} {ns:List Str} {ds es:List Dt} (h:jA n E ds es):Ha n E (.obj C ns ds) (.obj C ns es)
 |JZ {k:Nat} {ds es:List Dt} (hk:n<=k) (e:E[k-n]? =some (.lst ds)) (h:jA n E ds es):Ha n E (.loc k) (.lst es)
 |YY {k:Nat} {C:Addr} {ns:List Str} {ds es:List Dt} (hk:n<=k) (e:E[k-n]? =some (.ins C ns ds)) (h:jA n E ds es):Ha n E (.loc k) (.obj C ns es)
inductive jA(n:Nat)(E:Ms):List Dt->List Dt->Prop
 |nil:jA n E [] []
 |cons {d e:Dt} {ds es:List Dt} (h:Ha n E d e) (t:jA n E ds es):jA n E (d::ds) (e::es)
end
def jA.length{n:Nat}{E:Ms}:∀{ds es:List Dt},jA n E ds es->ds.length=es.length
 |[],es,h=>by cases h;rfl
 |d::ds,es,h=>by
  cases h with
  |cons h t=>rw[aaB,aaB,jA.length t]
def jA.old{n:Nat}{E:Ms}:∀{ds:List Dt},Dt.bR n ds->jA n E ds ds
 |[],_=>.nil
 |_::_,h=>.cons (.old h.1) (jA.old h.2)
section
variable{K:fI}{G G':Hp}{L0 t:List Addr}{n:Nat}
mutual
def vA(hn:L0.length=n)(g:eD G G'):∀(d:Dt) (v:V),d.under n->Den K G (L0++t) d v->Den K G' L0 d v
 |.bj,_,_,h=>h
 |.bl _,_,_,h=>h
 |.int _,_,_,h=>h
 |.str _,_,_,h=>h
 |.tup ds,_,u,⟨a,vs,e,h1,h2⟩=>⟨a,vs,e,g _ _ h1,b_ hn g ds vs u h2⟩
 |.lst ds,_,u,⟨a,vs,e,h1,h2⟩=>⟨a,vs,e,g _ _ h1,b_ hn g ds vs u h2⟩
 |.obj C ns ds,_,u,⟨a,dx,vs,e,h1,hl,h2⟩=>⟨a,dx,vs,e,g _ _ h1,hl,b_ hn g ds vs u h2⟩
 | .loc k,_,u,⟨a,e,h1⟩=>⟨a,e,by
   have u:k<n:=u
   rwa[aas (by rw[hn];exact u)]at h1⟩
 |.ref _,_,_,h=>h
 |.ty _,_,_,h=>h
 |.iA _,_,_,⟨a,e,h1⟩=>⟨a,e,g.seq h1⟩
 |.kt ds,_,u,⟨a,vs,e,h1,h2⟩=>⟨a,vs,e,g.So h1,b_ hn g ds vs u h2⟩
 |.exc _ _ ds,_,u,⟨a,od,vs,e,h1,h2,h3,h4⟩=>⟨a,od,vs,e,g _ _ h1,h2.imp (λz=>z) (λ⟨dx,z1,z2⟩=>⟨dx,z1,g _ _ z2⟩),h3,b_ hn g ds vs u h4⟩
 |.RT _ _ _ _ ds,_,u,⟨vs,e,h2,h3,h4⟩=>⟨vs,e,h2.imp (λz=>z) (λ⟨dx,z1,z2⟩=>⟨dx,z1,g _ _ z2⟩),h3,b_ hn g ds vs u h4⟩
def b_(hn:L0.length=n)(g:eD G G'):∀(ds:List Dt) (vs:List V),Dt.bR n ds->Ψ K G (L0++t) ds vs->Ψ K G' L0 ds vs
 |[],_,_,h=>h
 |d::ds,_,u,⟨v,r,e,h1,h2⟩=>⟨v,r,e,vA hn g d v u.1 h1,b_ hn g ds r u.2 h2⟩
end
def FG{H:Hp}{a:Addr}(hn:L0.length=n)(g:eD G G'){m:MO}(u:m.under n)(h:G_ K G (L0++t) H a m):G_ K G' L0 H a m:=by
 cases m with
 |lst ds=>have⟨vs,e,h⟩:=h;exact⟨vs,e,b_ hn g _ _ u h⟩
 |ins C ns ds=>have⟨dx,vs,e,hl,h⟩:=h;exact⟨dx,vs,e,hl,b_ hn g _ _ u h⟩
 |bX ks ds=>have⟨vs,e,hl,h⟩:=h;exact⟨vs,e,hl,b_ hn g _ _ u h⟩
 |raw u=>exact h
end
open Classical in
noncomputable def qF(G H:Hp)(t:List Addr):Hp:=λb=>if b∈t then H b else G b
def Ew{G H:Hp}{t:List Addr}{b:Addr}(h:b∈t):qF G H t b=H b:=by unfold qF;rw[if_pos h]
def nu{G H:Hp}{t:List Addr}{b:Addr}(h:b∉t):qF G H t b=G b:=by unfold qF;rw[if_neg h]
section
variable{K:fI}{G:Hp}{L0 t:List Addr}{M0 E:Ms}{H:Hp}
def i5(r:Rl K G (L0++t) (M0++E) H):eD G (qF G H t):=λb u e=>by
 by_cases hb:b∈t
 ·have⟨_,_,_,_,g,_⟩:=r.xw (a:=b) (aaI _ hb);rw[g]at e;cases e
 ·rw[nu hb];exact e
def Ia(r:Rl K G (L0++t) (M0++E) H)(hn:L0.length=M0.length){k:Nat}{a:Addr}{m:MO}(hk:M0.length<=k)(e:(L0++t)[k]? =some a)(em:E[k-M0.length]? =some m):qF G H t a=H a/\G_ K G (L0++t) H a m:=by
 have e2:(M0++E)[k]? =some m:=by rw[aao hk];exact em
 have⟨_,q⟩:=r.eP k a m e e2;rw[aao (by rw[hn];exact hk)]at e;exact⟨Ew (aag e),q⟩
def Nv(r:Rl K G (L0++t) (M0++E) H)(hn:L0.length=M0.length){d d':Dt}(f:Ha M0.length E d d'):∀v,Den K G (L0++t) d v->Den K (qF G H t) L0 d' v:=by
 refine Ha.rec (motive_1:=λd d' _=>∀v,Den K G (L0++t) d v->Den K (qF G H t) L0 d' v) (motive_2:=λds es _=>∀vs,Ψ K G (L0++t) ds vs->Ψ K (qF G H t) L0 es vs) ?_ ?_ ?_ ?_ ?_ ?_ ?_ ?_ f
 ·exactλ{d} u v h=>vA hn (i5 r) d v u h
 ·exactλ{ds es} f ih v ⟨a,vs,e,h1,h2⟩=>⟨a,vs,e,i5 r _ _ h1,ih vs h2⟩
 ·exactλ{ds es} f ih v ⟨a,vs,e,h1,h2⟩=>⟨a,vs,e,i5 r _ _ h1,ih vs h2⟩
 ·exactλ{C ns ds es} f ih v ⟨a,dx,vs,e,h1,hl,h2⟩=>⟨a,dx,vs,e,i5 r _ _ h1,hl.trans f.length,ih vs h2⟩
 ·intro k ds es hk em f ih v ⟨a,e,h1⟩;have⟨o,vs,e1,h2⟩:=Ia r hn hk h1 em;exact⟨a,vs,e,o.trans e1,ih vs h2⟩
 ·intro k C ns ds es hk em f ih v ⟨a,e,h1⟩;have⟨o,dx,vs,e1,hl,h2⟩:=Ia r hn hk h1 em;exact⟨a,dx,vs,e,o.trans e1,hl.trans f.length,ih vs h2⟩
 ·exactλvs h=>h
 ·exactλ{d e ds es} f t ih1 ih2 vs ⟨v,r,e,h1,h2⟩=>⟨v,r,e,ih1 v h1,ih2 r h2⟩
end
def XZ(n:Nat)(q:DQ):DQ:=λd M=>∃M' E d',M=M'++E/\M'.length=n/\(∀m∈M',MO.under n m)/\Ha n E d d'/\q d' M'
def Fin.vC{K:fI}{G0:Hp}{L0:List Addr}{M0:Ms}{H0:Hp}{q:DQ}{v:V}{H:Hp}(r0:Rl K G0 L0 M0 H0)(f:Fin K G0 L0 H0 (XZ M0.length q) v H):Fin K G0 L0 H0 q v H:=by
 have⟨d,G,L,M,ex,r,dn,M',E,d',rfl,hl,hu,fz,hq⟩:=f;have⟨t,rfl⟩:=ex.l;have hn:L0.length=M'.length:=by rw[hl];exact r0.len
 have dis:∀b,b∈L0->b∉t:=λb h1 h2=>(acx.mp r.nd).2.2 b h1 b h2 rfl;have sm:=i5 r;refine⟨d',qF G H t,L0,M',⟨ex.g.trans sm,.refl _,λb h1 h2=>?_,ex.out,λb h=>.inl h,ex.Dc⟩,⟨λb u e=>?_,hn,(acx.mp r.nd).1,λk a m h1 h2=>?_⟩,Nv r hn (hl▸fz) v dn,hq⟩
 ·have hb:b∉t:=λz=>(ex.new b (aaI _ z)).elim (λy=>dis b y z) h2;rw[nu hb];exact ex.fr b h1 h2
 ·by_cases hb:b∈t
  ·rw[Ew hb]at e;exact e
  ·rw[nu hb]at e;exact r.sub b u e
 ·have k1:k<L0.length:=(aaf.mp h1).1;have e1:(L0++t)[k]? =some a:=by rw[aas k1];exact h1
  have e2:(M'++E)[k]? =some m:=by rw[aas (by rw[<-hn];exact k1)];exact h2
  have⟨g,q⟩:=r.eP k a m e1 e2;exact⟨by rw[nu (dis a (aag h1))];exact g,FG (n:=M'.length) hn sm (by rw[hl];exact hu m (aag h2)) q⟩
section
variable{X:Cx}{R:St->XK}{e:Expr}{t:DE}
def hI{st:Stmt}:JS X R st (λ_ _ _=>False):=λ_ _ _ _ _ _ ⟨_,_,_,_,_,_,_,h,_,_⟩=>h.elim
end
def JJ(C:Addr)(m:Str)(sp:Sp)(qU:List V)(R:St->XK)(ta:TE)(t:TA):TE:=λσ H Q=>ta σ H λx H1=>∃a dx fs,x= .ref a/\H1 a=some (.ins C dx fs)/\fs.lookup m=none/\
 t σ H1 λvs H2=>sp (x::(vs++qU)) H2 Q (R σ)
def QJ(C:Addr)(sp:Sp)(qU:List V)(R:St->XK)(t:TA):TE:=λσ H Q=>t σ H λvs H1=>∀x dx,H1 x=none->H1 dx=none->dx≠x->
 sp (.ref x::(vs++qU)) (upd (upd H1 dx (.own x)) x (.ins C dx [])) (λv H2=>v= .bj/\Q (.ref x) H2) (R σ)
section
variable{X:Cx}{CX:A0}{k:Nat}{f C:Addr}{fd:FuncData}{ps:List Str}{sp:Sp}{qU:List V}{ds:List Value}{R:St->XK}{x m:Str}{p pos apos:Pos}{e o:Expr}{es:List Expr}{ta:TE}{t:TA}
def Hv{pl:Sem Bool}(he:PE X o ta)(c:DR X.K C)(hm:NI X.K C m f)(F:av X.prog X.w X.K X.mg X.base CX k f fd ps sp)(hr:bT k X.A)(hb:jU X.K fd ps ds)(hd:aF qU ds)(hx:d_ CX X R)(ha:PA X (e::es) t)
  (Qt:starEach (e::es) X.env=(false,eval e X.env)::starEach es X.env:=by rfl) (gz:(backTo pos (starEach es X.env)).any (·.1)=false:=by rfl)
  (ht:eval (.Call (.Attribute o m apos) (e::es) [] pos) X.env=(do
   let ov<-eval o X.env
   standAt apos.atName
   let (f,first)<-holding [ov] (getMethod ov m pl)
   callWith pos f first (backTo pos (starEach (e::es) X.env)) (backToKw pos (keywordEach [] X.env))):=by rfl):
  PE X (.Call (.Attribute o m apos) (e::es) [] pos) (JJ C m sp qU R ta t):=by
 intro ζ s σ H Q I h;refine PySem.W.methodCall_KW (pl:=pl) (bJ (he ζ s σ H _ I h) λu s1 xz=>?_) ht;have⟨x,H1,I1,rx,a,dx,fs,ex,ea,l,q⟩:=xz;subst ex;obtain rfl:u=Value.ref a:=rx;refine rJ I1 ea c hm l ?_;refine PySem.W.callWith_K (first:=[.ref a]) (h₀:=X.base) I.ok.mod.UY hm.kp (bJ (ha pos ζ s1 σ H1 _ I1 q) fun us s2 ⟨vs,H2,I2,r,q2⟩=>⟨I2.qa,?_⟩) Qt gz;exact wa (us:=.ref a::us) (vs:=.ref a::vs) F hr hb hd hx I2 (.cons rfl r) q2
def FN{pl:Sem Bool}(he:PE X o ta)(c:DR X.K C)(hm:NI X.K C m f)(F:av X.prog X.w X.K X.mg X.base CX k f fd ps sp)(hr:bT k X.A)(hb:jU X.K fd ps ds)(hd:aF qU ds)(hx:d_ CX X R)
  (ht:eval (.Call (.Attribute o m apos) [] [] pos) X.env=(do
   let ov<-eval o X.env
   standAt apos.atName
   let (f,first)<-holding [ov] (getMethod ov m pl)
   callWith pos f first (backTo pos (starEach [] X.env)) (backToKw pos (keywordEach [] X.env))):=by rfl):
  PE X (.Call (.Attribute o m apos) [] [] pos) (JJ C m sp qU R ta Ss):=by
 intro ζ s σ H Q I h;refine PySem.W.methodCall_KW (pl:=pl) (bJ (he ζ s σ H _ I h) λu s1 xz=>?_) ht;have⟨x,H1,I1,rx,a,dx,fs,ex,ea,l,q⟩:=xz;subst ex;obtain rfl:u=Value.ref a:=rx;refine rJ I1 ea c hm l ?_;exact PySem.W.callWith_K0 (first:=[.ref a]) I1.qa hm.kp (wa (us:=[.ref a]) (vs:=[.ref a]) F hr hb hd hx I1 (.cons rfl .nil) q)
def FP{ζ:List (Addr×Obj)}{σ:St}{H:Hp}{s:Shared}{Q:VK}{us:List Value}{vs:List V}(M:Mk X.K C f)(F:av X.prog X.w X.K X.mg X.base CX k f fd ps sp)(hr:bT (k+1) X.A)(hb:jU X.K fd ps ds)(hd:aF qU ds)
  (hx:d_ CX X R) (I:Inv X ζ σ H s) (r:aF vs us)
  (h:∀x dx,H x=none->H dx=none->dx≠x->sp (.ref x::(vs++qU)) (upd (upd H dx (.own x)) x (.ins C dx [])) (λv H2=>v= .bj/\Q (.ref x) H2) (R σ)):
  wpAny (model X.prog X.w) X.A (call (.ref C) us) (EP X ζ σ Q) X.xe s:=by
 have hq:=h (s.heap.objs.size+1) s.heap.objs.size (I.aS.fresh (Nat.le_succ _)) (I.aS.fresh (aan _)) (aaT (abu _));have I2:=Inv.made (C:=C) I;have r2:aF (V.ref (s.heap.objs.size+1)::(vs++qU)) (Value.ref (s.heap.objs.size+1)::(us++ds)):=.cons rfl (r.append hd);have hl:(Value.ref (s.heap.objs.size+1)::us++ds).length=ps.length:=by have e:=r2.length;rw[F.len _ _ _ _ hq]at e;exact e.symm
 refine wpAny_call (Km (f:=f) I.qa M.makes M.init (aby.mp M.fn) (codeAny_mono (F.run _ X.stack _ _ ⟨Value.ref (s.heap.objs.size+1)::us,[]⟩ (Value.ref (s.heap.objs.size+1)::(us++ds)) _ _ (R σ) (hr.make C us [])
  (I2.RY.make C us []) (hb _ (Value.ref (s.heap.objs.size+1)::us) I2.qa hl) r2 hq) λr s' yC=>?_))
 cases r with
 |error e=>exact hx ζ σ _ _ e s' I2 yC
 |ok fl=>
  cases fl with
  |ret u=>
   have⟨v,H',I3,rv,ev,q3⟩:=I2.after yC;subst ev;exact⟨rv,⟨V.ref (s.heap.objs.size+1),H',I3,rfl,q3⟩⟩
  |next=>exact False.elim yC
  |brk=>exact False.elim yC
  |cont=>exact False.elim yC
def I0(M:Mk X.K C f)(F:av X.prog X.w X.K X.mg X.base CX k f fd ps sp)(hr:bT (k+1) X.A)(hg:Gl X x)(hm:X.mg x=some (.ref C))(hb:jU X.K fd ps ds)(hd:aF qU ds)(hx:d_ CX X R)
  (ha:PA X (e::es) t) (oy:(x==("__debug__":Str))=false:=by decide) (he:starEach (e::es) X.env=(false,eval e X.env)::starEach es X.env:=by rfl) (gz:(backTo pos (starEach es X.env)).any (·.1)=false:=by rfl):
  PE X (.Call (.Name x p) (e::es) [] pos) (QJ C sp qU R t):=by
 intro ζ s σ H Q I h;refine wpAny_Call_Name_kw (qG I hg hm ?_ oy);refine PySem.W.callWith_K (h₀:=X.base) I.ok.mod.UY M.kp (bJ (ha pos ζ s σ H _ I h) fun us s1 ⟨vs,H1,I1,r,q⟩=>⟨I1.qa,?_⟩) he gz;exact FP M F hr hb hd hx I1 r q
end
def Q4(C:Addr)(M:Ms)(d:Dt)(ns:List Str)(ds:List Dt):Prop:=d= .obj C ns ds\/∃k,d= .loc k/\M[k]? =some (.ins C ns ds)
section
variable{K:fI}{G:Hp}{L:List Addr}{M:Ms}{H:Hp}{C:Addr}{d:Dt}{v:V}{ns:List Str}{ds:List Dt}
def Iv(r:Rl K G L M H)(n:Den K G L d v)(o:Q4 C M d ns ds):∃a dx vs,v= .ref a/\H a=some (.ins C dx (ns.zip vs))/\ns.length=ds.length/\Ψ K G L ds vs:=by
 rcases o with rfl| ⟨k,rfl,hm⟩
 ·have⟨a,dx,vs,e,h1,hl,h2⟩:=n;exact⟨a,dx,vs,e,r.sub _ _ h1,hl,h2⟩
 ·have⟨a,e,h1⟩:=n;have⟨_,dx,vs,h2,hl,h3⟩:=r.eP k a _ h1 hm;exact⟨a,dx,vs,e,h2,hl,h3⟩
def zi{f:Str}:∀{ns:List Str}{ds:List Dt}{vs:List V}{d:Dt},Ψ K G L ds vs->(ns.zip ds).lookup f=some d->∃v,(ns.zip vs).lookup f=some v/\Den K G L d v
 |[],_,_,_,_,h=>by simp at h
 |_::_,[],_,_,_,h=>by simp at h
 |g::ns,d::ds,_,d',⟨v,r,rfl,h1,h2⟩,h=>by
  rw[abd,abv]at h;rw[abd,abv];cases q:f==g with
  |true=>rw[q]at h;cases h;exact⟨v,rfl,h1⟩
  |false=>rw[q]at h;exact zi h2 h
def ui{f:Str}:∀{ns:List Str}{ds:List Dt}{vs:List V},Ψ K G L ds vs->(ns.zip ds).lookup f=none->(ns.zip vs).lookup f=none
 |[],_,_,_,_=>by simp
 |_::_,[],_,h,_=>by have h:_=_:=h;subst h;simp
 |g::ns,d::ds,_,⟨v,r,rfl,h1,h2⟩,h=>by
  rw[abd,abv]at h;rw[abd,abv];cases q:f==g with
  |true=>rw[q]at h;cases h
  |false=>rw[q]at h;exact ui h2 h
def AU{f:Str}{v:V}:∀{ns:List Str}{vs:List V},ns.length=vs.length->f∉ns->jW f v (ns.zip vs)=(ns++[f]).zip (vs++[v])
 |[],[],_,_=>rfl
 |g::ns,x::vs,hl,h=>by have hg:¬g=f:=λz=>h (by rw[z];exact aae);show(if g=f then (g,v)::ns.zip vs else (g,x)::jW f v (ns.zip vs))=(g,x)::(ns++[f]).zip (vs++[v]);rw[if_neg hg,AU (by simpa using hl) λz=>h (List.mem_cons_of_mem _ z)]
 |[],_::_,hl,_=>by simp at hl
 |_::_,[],hl,_=>by simp at hl
end
def ZX(C:Addr)(f:Str)(t:DE):DE:=λρ M q x=>t ρ M (λd M1=>∃ns ds v,Q4 C M1 d ns ds/\(ns.zip ds).lookup f=some v/\q v M1) x
def NX(C:Addr)(m:Str)(T:DF)(to:DE)(ta:DA):DE:=λρ M q x=>to ρ M (λd M1=>(∃ns ds,Q4 C M1 d ns ds/\(ns.zip ds).lookup m=none)/\ta ρ M1 (λds M2=>T (d::ds) M2 q (λC fs M'=>x ρ C fs M')) x) x
def Sq(C:Addr)(T:DF)(ta:DA):DE:=λρ M q x=>ta ρ M (λds M1=>T (.loc M1.length::ds) (M1++[.ins C [] []]) (λd M2=>d= .bj/\q (.loc M1.length) M2) (λC fs M'=>x ρ C fs M')) x
def NT(C:Addr)(f:Str)(to tv:DE):DS:=λDn ρ M=>tv ρ M (λy M1=>to ρ M1 (λd M2=>∃k ns ds,d= .loc k/\M2[k]? =some (.ins C ns ds)/\f∉ns/\ns.length<1000/\Dn.nx ρ (M2.set k (.ins C (ns++[f]) (ds++[y])))) Dn.x) Dn.x
structure dj(P:Program)(w:World)(K:fI)(mg:Str->Option Value)(base:Heap)(k:Nat)(C:Addr)(m:Str)(ps:List Str)(T:DF)(f:Addr)(fd:FuncData):Prop where
 ok:av P w K mg base (cC P w) k f fd ps (cW K T)
 b:jU K fd ps []
 c:DR K C
 m:NI K C m f
structure Rk(P:Program)(w:World)(K:fI)(mg:Str->Option Value)(base:Heap)(k:Nat)(x:Str)(C:Addr)(ps:List Str)(T:DF)(f:Addr)(fd:FuncData):Prop where
 ok:av P w K mg base (cC P w) k f fd ps (cW K T)
 b:jU K fd ps []
 k:Mk K C f
 m:mg x=some (.ref C)
section
variable{X:Cx}{R:St->XK}{C:Addr}{f m x:Str}{T:DF}{k k':Nat}{a:Addr}{fd:FuncData}{ps:List Str}{e o value:Expr}{es:List Expr}{pos pos' apos p:Pos}{to te tv:DE}{ta:DA}
def tJ(c:DR X.K C)(n:iK X.K C f)(he:JE X R e te)(hb:attributeBase e f X.env (eval e X.env)=eval e X.env:=by rfl):JE X R (.Attribute e f pos) (ZX C f te):=
 .of (Qh he hb) λσ H G L ρ M q x rl en h hx=>by refine⟨G,L,ρ,M,_,x,rl,en,h,hx,λv H1 xz=>?_⟩;have⟨d1,G1,L1,M1,e1,r1,n1,ns,ds,y,ob,hl,h1⟩:=xz;have⟨p,dx,vs,rfl,hp,_,dn⟩:=Iv r1 n1 ob;have⟨u,hu,du⟩:=zi dn hl;exact⟨p,C,dx,_,u,rfl,hp,c,n,hu,y,G1,L1,M1,e1,r1,du,h1⟩
def b9{pl:Sem Bool}(D:dj X.prog X.w X.K X.mg X.base k C m ps T a fd)(hr:bT k' X.A)(hx:d_ (cC X.prog X.w) X R)(ho:JE X R o to)(ha:JA X R (e::es) ta)(hk:k<=k':=by decide)
  (Qt:starEach (e::es) X.env=(false,eval e X.env)::starEach es X.env:=by rfl) (gz:(backTo pos (starEach es X.env)).any (·.1)=false:=by rfl)
  (ht:eval (.Call (.Attribute o m apos) (e::es) [] pos) X.env=(do
   let ov<-eval o X.env
   standAt apos.atName
   let (f,first)<-holding [ov] (getMethod ov m pl)
   callWith pos f first (backTo pos (starEach (e::es) X.env)) (backToKw pos (keywordEach [] X.env))):=by rfl):
  JE X R (.Call (.Attribute o m apos) (e::es) [] pos) (NX C m T to ta):=
 .of (Hv (pl:=pl) ho D.c D.m D.ok (hr.mono hk) D.b .nil hx ha Qt gz ht) λσ H G L ρ M q x rl en h hx=>by refine⟨G,L,ρ,M,_,x,rl,en,h,hx,λv H1 xz=>?_⟩;have⟨d1,G1,L1,M1,e1,r1,n1,⟨ns,ds,ob,hl⟩,h1⟩:=xz;have⟨p,dx,vs,rfl,hp,_,dn⟩:=Iv r1 n1 ob;refine⟨p,dx,_,rfl,hp,ui dn hl,G1,L1,ρ,M1,_,x,r1,en.mono e1,h1,hx.on e1,λus H2 xz=>?_⟩;have⟨qD,G2,L2,M2,e2,r2,n2,h2⟩:=xz;show cW X.K T (V.ref p::(us++[])) H2 _ _;rw[aa7];have HV:=e1.trans e2;exact⟨G2,L2,d1::qD,M2,q,_,r2,⟨_,_,rfl,Den.mono e2.g e2.l _ _ n1,n2⟩,h2,λv H' f=>Fin.back HV f,λC fs M' G' L' H' od hq e' r' y=>hx σ ρ C fs M' G' L' H' od hq (HV.trans e') r' (en.mono (HV.trans e')) y⟩
def kZ{pl:Sem Bool}(D:dj X.prog X.w X.K X.mg X.base k C m ps T a fd)(hr:bT k' X.A)(hx:d_ (cC X.prog X.w) X R)(ho:JE X R o to)(hk:k<=k':=by decide)
  (ht:eval (.Call (.Attribute o m apos) [] [] pos) X.env=(do
   let ov<-eval o X.env
   standAt apos.atName
   let (f,first)<-holding [ov] (getMethod ov m pl)
   callWith pos f first (backTo pos (starEach [] X.env)) (backToKw pos (keywordEach [] X.env))):=by rfl):
  JE X R (.Call (.Attribute o m apos) [] [] pos) (NX C m T to PM):=
 .of (FN (pl:=pl) ho D.c D.m D.ok (hr.mono hk) D.b .nil hx ht) λσ H G L ρ M q x rl en h hx=>by refine⟨G,L,ρ,M,_,x,rl,en,h,hx,λv H1 xz=>?_⟩;have⟨d1,G1,L1,M1,e1,r1,n1,⟨ns,ds,ob,hl⟩,h1⟩:=xz;have⟨p,dx,vs,rfl,hp,_,dn⟩:=Iv r1 n1 ob;refine⟨p,dx,_,rfl,hp,ui dn hl,?_⟩;show cW X.K T (V.ref p::([]++[])) H1 _ _;exact⟨G1,L1,[d1],M1,q,_,r1,⟨_,_,rfl,n1,rfl⟩,h1,λv H' f=>Fin.back e1 f,λC fs M' G' L' H' od hq e' r' y=>hx σ ρ C fs M' G' L' H' od hq (e1.trans e') r' (en.mono (e1.trans e')) y⟩
def Qj(D:Rk X.prog X.w X.K X.mg X.base k x C ps T a fd)(hr:bT k' X.A)(hx:d_ (cC X.prog X.w) X R)(ha:JA X R (e::es) ta)(hk:k+1<=k':=by decide)(hg:Gl X x:=by rfl)(oy:(x==("__debug__":Str))=false:=by decide)
  (he:starEach (e::es) X.env=(false,eval e X.env)::starEach es X.env:=by rfl) (gz:(backTo pos (starEach es X.env)).any (·.1)=false:=by rfl):JE X R (.Call (.Name x p) (e::es) [] pos) (Sq C T ta):=
 .of (I0 D.k D.ok (hr.mono hk) hg D.m D.b .nil hx ha oy he gz) λσ H G L ρ M q x rl en h hx=>by
  refine⟨G,L,ρ,M,_,x,rl,en,h,hx,λvs H1 xz y dx hy hdx jn=>?_⟩;have⟨ds,G1,L1,M1,e1,r1,n1,h1⟩:=xz;show cW X.K T (V.ref y::(vs++[])) _ _ _;rw[aa7];have ra:=r1.LG (o:=.own y) hdx;have ea:=r1.RH (o:=.own y) hdx;have V1:upd H1 dx (HO.own y) y=none:=by rw[Μ (Ne.symm jn)];exact hy
  have rb:=ra.M7 (p:=y) (o:=.ins C dx []) (m:=.ins C [] []) V1 ⟨dx,[],Ω,rfl,rfl⟩;have eb:=ra.VN (p:=y) (o:=.ins C dx []) V1;have e2:=ea.trans eb;have HV:=e1.trans e2;refine⟨_,_,.loc M1.length::ds,_,_,_,rb,⟨_,_,rfl,⟨y,rfl,?_⟩,Ψ.mono e2.g e2.l _ _ n1⟩,h1,fun v H' ⟨d,G',L',M',e',r',dn,hd,hq⟩=>?_,λC fs M' G' L' H' od hq e' r' z=>hx σ ρ C fs M' G' L' H' od hq (HV.trans e') r' (en.mono (HV.trans e')) z⟩
  ·rw[<-r1.len,List.getElem?_append_right (Nat.le_refl _)];simp
  ·subst hd;refine⟨dn,.loc M1.length,G',L',M',HV.trans e',r',⟨y,rfl,e'.l.get ?_⟩,hq⟩;rw[<-r1.len,List.getElem?_append_right (Nat.le_refl _)];simp
def Dm(c:DR X.K C)(n:iK X.K C f)(ho:JE X R o to)(hv:JE X R value tv)(hs:swapsWith value (some (.Attribute o f pos')) pos.line X.env=pure false:=by rfl):JS X R (.Assign [.Attribute o f pos'] value pos) (NT C f to tv):=
 .of (OY ho hv hs) λσ H G L ρ M Dn rl en h hx=>by refine⟨G,L,ρ,M,_,_,rl,en,h,hx,λy H1 xz=>?_⟩;have⟨dy,G1,L1,M1,e1,r1,n1,h1⟩:=xz;refine⟨G1,L1,ρ,M1,_,_,r1,en.mono e1,h1,hx.on e1,λu H2 xz=>?_⟩;have⟨du,G2,L2,M2,e2,r2,n2,k,ns,ds,ed,hm,hf,hz,h2⟩:=xz;subst ed;have⟨p,rfl,hp⟩:=n2;have⟨_,dx,vs,hH,hl,dn⟩:=r2.eP k p _ hp hm;have hlv:ns.length=vs.length:=hl.trans dn.length;refine⟨p,C,dx,_,rfl,hH,c,n,by rw[abe,<-hlv,acn];exact hz,?_⟩;rw[AU hlv hf];exact⟨ρ,G2,L2,_,(e1.trans e2).trans (r2.EW hp),r2.setM (m:=.ins C (ns++[f]) (ds++[dy])) hp ⟨dx,_,Ω,by rw[aah,aah,hl];rfl,dn.app ⟨_,_,rfl,Den.mono e2.g e2.l _ _ n1,rfl⟩⟩,(en.mono (e1.trans e2)).mono (r2.EW (o:=.own p) hp),h2⟩
end
def u_:List Dt->Ms->DQ->Prop
 |[d],M,q=>match f_ M d with
  |some xs=>q (.loc M.length) (M++[.lst xs])
  |none=>False
 |_,_,_=>False
section
variable{K:fI}
def Vx:B4 K (λxs H Q=>∃p ys,xs=[V.ref p]/\(gK K H p ys\/nZ K H p ys)/\∀l,H l=none->Q (.ref l) (upd H l (.lst ys))) u_:=by
 intro G0 L0 H0 G L M H vs ds q e r n h;unfold u_ at h;split at h
 ·rename_i d;have⟨v,rfl,n1⟩:=bF n;split at h
  ·rename_i xs hs;have⟨a,us,rfl,hq,dn⟩:=n_ r n1 hs;exact⟨a,us,rfl,hq,λl hl=>jH e r hl dn h⟩
  ·exact h.elim
 ·exact h.elim
end
section
variable{X:Cx}{R:St->XK}{e o i value:Expr}{t:DA}{to ti tv:DE}{p pos apos cD uA:Pos}
def wW(hm:X.mg "list"=none)(ha:JA X R [e] t)(hg:Gl X "list":=by rfl)(he:starEach [e] X.env=(false,eval e X.env)::starEach [] X.env:=by rfl)(gz:(backTo pos (starEach [] X.env)).any (·.1)=false:=by rfl):JE X R (.Call (.Name "list" p) [e] [] pos) (A6 u_ t):=
 r_ xx Vx hm qX ha hg @_ @_ he gz
def OP(to:DE)(t:DA):DE:=λρ M q x=>to ρ M (λd M1=>(∃k xs,d= .loc k/\M1[k]? =some (.lst xs))/\t ρ M1 (λds M2=>∃k xs y,d= .loc k/\ds=[y]/\M2[k]? =some (.lst xs)/\xs.length<sizeLine/\q .bj (M2.set k (.lst (xs++[y])))) x) x
def eY(ho:JE X R o to)(ha:JA X R [e] t)(Jv:attributeBase o "append" X.env (eval o X.env)=eval o X.env:=by rfl)
  (Qd:((backTo cD (starEach [e] X.env)).all (λx=> !x.1)&&(backToKw cD (keywordEach [] X.env)).all (λx=>x.1.isSome)
   &&decide (([e]:List Expr).length+([]:List Keyword).length+(if ([]:List Keyword).isEmpty then 0 else 1)<30))=true:=by rfl)
  (KN:(apos.endLine==cD.line)=true:=by rfl) (hs:starEach [e] X.env=(false,eval e X.env)::starEach [] X.env:=by rfl) (BA:(backTo cD (starEach [] X.env)).any (·.1)=false:=by rfl):
  JE X R (.Call (.Attribute o "append" apos) [e] [] cD) (OP to t):=
 .of (SI PySem.F.plainAttrs_list PySem.F.slot_list_append PySem.F.type_list_append (r:=Eg) vO ho ha Jv Qd KN hs BA) λσ H G L ρ M q x rl n h hx=>by refine⟨G,L,ρ,M,_,x,rl,n,h,hx,λv H1 xz=>?_⟩;have⟨d1,G1,L1,M1,e1,r1,n1,⟨k,xs,ed,hm⟩,h1⟩:=xz;subst ed;have⟨a,rfl,hk⟩:=n1;have⟨_,vs,hH,_⟩:=r1.eP k a _ hk hm;refine⟨.inl ⟨rfl,vs,.of hH⟩,G1,L1,ρ,M1,_,x,r1,n.mono e1,h1,hx.on e1,λus H2 xz=>?_⟩;have⟨ds,G2,L2,M2,e2,r2,n2,k',xs',y,ek,ed,ZE,hz,h2⟩:=xz;cases ek;subst ed;have⟨u,rfl,n3⟩:=bF n2;have zq:=e2.l.get hk;have⟨_,yE,Nz,He⟩:=r2.eP k a _ zq ZE;refine⟨a,yE,u,rfl,rfl,Nz,by rw[<-He.length];exact hz,.bj,G2,L2,_,(e1.trans e2).trans (r2.EW zq),r2.setM (m:=.lst (xs'++[y])) zq ⟨_,Ω,He.app ⟨_,_,rfl,n3,rfl⟩⟩,rfl,h2⟩
def sW(to ti tv:DE):DS:=λDn ρ M=>tv ρ M (λy M1=>to ρ M1 (λd M2=>ti ρ M2 (λdi M3=>∃k i xs j,d= .loc k/\di= .int i/\M3[k]? =some (.lst xs)/\JU xs.length i=some j/\Dn.nx ρ (M3.set k (.lst (xs.set j y)))) Dn.x) Dn.x) Dn.x
def ki(ho:JE X R o to)(hi:JE X R i ti)(hv:JE X R value tv)(hs:swapsWithSole [.Subscript o i uA] value pos.line X.env=pure false:=by rfl)(hw:swappedStores [.Subscript o i uA] value X.env=pure none:=by rfl)
  (h1:(assignEach [.Subscript o i uA] X.env).map (·.2)=[assign (.Subscript o i uA) X.env]:=by rfl)
  (ha:∀v,assign (.Subscript o i uA) X.env v=(do
   let ov<-holding [v] (eval o X.env)
   let iv<-holding [v,ov] (eval i X.env)
   standAt uA
   holding [v,ov,iv] (setItem ov iv v)
   release [v,ov,iv] []):=by intro _;rfl):JS X R (.Assign [.Subscript o i uA] value pos) (sW to ti tv):=
 .of (J7 hv (Rr (t:=Om) ho hi La ha) hs hw h1) λσ H G L ρ M Dn rl n h hx=>by refine⟨G,L,ρ,M,_,_,rl,n,h,hx,λv H1 xz=>?_⟩;have⟨dv,G1,L1,M1,e1,r1,n1,h1⟩:=xz;refine⟨G1,L1,ρ,M1,_,_,r1,n.mono e1,h1,hx.on e1,λov H2 xz=>?_⟩;have⟨d,G2,L2,M2,e2,r2,n2,h2⟩:=xz;refine⟨G2,L2,ρ,M2,_,_,r2,(n.mono e1).mono e2,h2,(hx.on e1).on e2,λiv H3 xz=>?_⟩;have⟨di,G3,L3,M3,e3,r3,n3,k,i,xs,j,ed,ei,hm,hj,h3⟩:=xz;subst ed ei;have⟨a,rfl,hk⟩:=n2;have n3:iv= .int i:=n3;subst n3;have yo:=e3.l.get hk;have⟨_,vs,hH,dn⟩:=r3.eP k a _ yo hm;have Gv:=e2.trans e3;have V9:=Den.mono Gv.g Gv.l _ _ n1;refine⟨a,vs,i,j,rfl,rfl,hH,by rw[<-dn.length];exact hj,ρ,G3,L3,_,((e1.trans e2).trans e3).trans (r3.EW yo),r3.setM (m:=.lst (xs.set j dv)) yo ⟨_,Ω,.of (EG V9 j dn.pair)⟩,(((n.mono e1).mono e2).mono e3).mono (r3.EW (o:=.own a) yo),h3⟩
end
structure Src(K:fI)(a:Addr)(xs:List Dt)(ok:Ms->Prop)(G0:Hp)(L0:List Addr):Prop where
 at_:∀G L M H,eD G0 G->Pre L0 L->Rl K G L M H->ok M->∃vs,gK K H a vs/\Ψ K G L xs vs
def lI(M:Ms):Dt->Option (List Dt×(Ms->Prop))
 |.lst xs=>some (xs,λ_=>True)
 |.iA ns=>some (ns.map .int,λ_=>True)
 |.loc k=>match M[k]? with
  |some (.lst xs)=>some (xs,λM'=>M'[k]? =some (.lst xs))
  |_=>none
 |_=>none
def tV{K:fI}{G:Hp}{L:List Addr}{M:Ms}{H:Hp}{d:Dt}{v:V}{xs:List Dt}{ok:Ms->Prop}(r:Rl K G L M H)(n:Den K G L d v)(h:lI M d=some (xs,ok)):∃a vs,v= .ref a/\gK K H a vs/\Src K a xs ok G L/\ok M:=by
 cases d with
 |lst ds=>
  cases h;have⟨a,vs,rfl,e,m⟩:=n;exact⟨a,vs,rfl,.of (r.sub _ _ e),⟨λG' L' M' H' g l r' _=>⟨vs,.of (r'.sub _ _ (g _ _ e)),Ψ.mono g l _ _ m⟩⟩,trivial⟩
 |iA ns=>
  cases h;have⟨a,rfl,e⟩:=n;exact⟨a,_,rfl,r.sub.seq e,⟨λG' L' M' H' g l r' _=>⟨_,r'.sub.seq (g.seq e),i_⟩⟩,trivial⟩
 |loc k=>
  have⟨a,rfl,e⟩:=n;have h:(match M[k]? with| some (.lst xs)=>some (xs,λM':Ms=>M'[k]? =some (.lst xs))| _=>none)=some (xs,ok):=h;split at h
  ·rename_i ys hm;cases h;have⟨_,vs,e1,m1⟩:=r.eP k a _ e hm;refine⟨a,vs,rfl,.of e1,⟨λG' L' M' H' g l r' hk=>?_⟩,hm⟩;have⟨_,yE,e2,m2⟩:=r'.eP k a _ (l.get e) hk;exact⟨yE,.of e2,m2⟩
  ·cases h
 |_=>cases h
def HS{K:fI}{G:Hp}{L:List Addr}{a:Addr}{xs:List Dt}{ok:Ms->Prop}(s:Src K a xs ok G L):N4 K (VS K a) xs ok G L where
 go:=λi G1 L1 M1 H1 d g l r k e=>by
  have⟨vs,hs,n⟩:=s.at_ G1 L1 M1 H1 g l r k;have⟨v,e1,n1⟩:=n.get e
  exact⟨⟨vs,v,hs,e1⟩,fun v' H' ⟨eH,y⟩=>by
   subst eH;have e2:=y vs hs;rw[e1]at e2;cases e2
   exact⟨G1,.refl _ _ _,r,n1⟩⟩
 stop:=λi G1 L1 M1 H1 g l r k e=>by have⟨vs,hs,n⟩:=s.at_ G1 L1 M1 H1 g l r k;exact⟨vs,hs,by rw[<-n.length];exact e⟩
def qm(M:Ms):Dt->Option (List Dt×(Ms->Prop))
 |.loc k=>lI M (.loc k)
 |d=>(Ua M d).map λxs=>(xs,λ_=>True)
def fc(t:DE):DK:=λρ M q x=>t ρ M (λd M1=>match qm M1 d with
 |some (xs,ok)=>q xs ok M1
 |none=>False) x
def bC{X:Cx}{R:St->XK}{tg e:Expr}{te:DE}(h:JE X R e te):JK X R tg e (fc te):=by
 intro ζ s σ H Q I ⟨G,L,ρ,M,q,x,rl,n,ht,hx,hQ⟩;refine bJ (h ζ s σ H (Fin X.K G L H _) I ⟨G,L,ρ,M,_,x,rl,n,ht,hx,λ_ _ f=>f⟩) λu s1 xz=>?_;have⟨v,H1,I1,rv,d,G1,L1,M1,e1,r1,n1,h1⟩:=xz
 (try dsimp only at h1)
 cases hi:qm M1 d with
 |none=>rw[hi]at h1;exact h1.elim
 |some p=>
  have⟨xs,ok⟩:=p;rw[hi]at h1;have fin:∀J,N4 X.K J xs ok G1 L1->Q J H1:=λJ y=>hQ J H1 ⟨xs,ok,G1,L1,M1,e1,r1,y,h1⟩;have up:∀{J},ok=(λ_=>True)->Yl X.K J xs G1 L1->N4 X.K J xs ok G1 L1:=λeo y=>by subst eo;exact⟨λi G L M H d g l r _ e=>y.go i G L M H d g l r e,λi G L M H g l r _ e=>y.stop i G L M H g l r e⟩
  cases d with
  |loc k=>
   have⟨a,vs,rfl,hs,sr,_⟩:=tV r1 n1 hi;cases rv;exact w8 I1 hs (fin _ (HS sr))
  |lst ds=>
   cases hi;have⟨a,vs,rfl,e,m⟩:=n1;cases rv;exact w8 I1 (vs:=vs) (.of (r1.sub _ _ e)) (fin _ (up rfl (Ef (λG' g=>.of (g _ _ e)) m)))
  |iA ns=>
   cases hi;have⟨a,rfl,e⟩:=n1;cases rv;exact w8 I1 (r1.sub.seq e) (fin _ (up rfl (Ef (λG' g=>g.seq e) i_)))
  |tup ds=>
   cases hi;have⟨a,vs,rfl,e,m⟩:=n1;cases rv;exact Jn I1 (vs:=vs) (.of (r1.sub _ _ e)) (fin _ (up rfl (J_ (λG' g=>.of (g _ _ e)) m)))
  |kt ds=>
   cases hi;have⟨a,vs,rfl,e,m⟩:=n1;cases rv;exact Jn I1 (r1.sub.So e) (fin _ (up rfl (J_ (λG' g=>g.So e) m)))
  |str z=>
   cases hi;cases n1;have⟨t,rfl⟩:=rv;exact Pm I1 (fin _ (up rfl Ra))
  |_=>cases hi
def x4(g:Dt->En->(En->Prop)->Prop)(tb:DS)(Dn:lL)(ok:Ms->Prop):List Dt->En->Ms->Prop
 |[],ρ,M=>ok M/\Dn.nx ρ M
 |x::xs,ρ,M=>ok M/\g x ρ λρ'=>tb {Dn with nx:=x4 g tb Dn ok xs,ct:=x4 g tb Dn ok xs,bk:=Dn.nx} ρ' M
def qe(ti:DK)(g:Dt->En->(En->Prop)->Prop)(tb:DS):DS:=λDn ρ M=>ti ρ M (λxs ok M1=>x4 g tb Dn ok xs ρ M1) Dn.x
section
variable{X:Cx}{R:St->XK}{tg iter:Expr}{body:List Stmt}{ti:DK}{gg:TG}{g:Dt->En->(En->Prop)->Prop}{tb:DS}{pos:Pos}
def c8(hi:JK X R tg iter ti)(hg:PG X tg gg)(gd:GD X.K gg g)(hb:DP X R body tb)(hp:PassesOwn (model X.prog X.w) X.A X.env X.xe:=by first| exact PassesOwn.never| exact PassesOwn.leaving)(hc:X.calm=true:=by rfl)(hs:∀x,foldedSetIterable iter X.env x=pure x:=by intro _;rfl):
  JS X R (.For tg iter body [] pos) (qe ti g tb):=.of (Bl hp hc hi hg hb hs) λσ H G L ρ M Dn rl n h hx=>by
 refine⟨G,L,ρ,M,_,_,rl,n,h,hx,λJ H1 xz=>?_⟩;have⟨xs,ok,G1,L1,M1,e1,r1,y,h1⟩:=xz;refine⟨λi m σ' H'=>m+i=xs.length/\fb X.K G1 L1 H1 (λρ' M'=>x4 g tb Dn ok (xs.drop i) ρ' M') σ' H',⟨xs.length,rfl,ρ,G1,L1,M1,.refl _ _ _,r1,n.mono e1,by rw[acy];exact h1⟩,?_⟩;rintro i m σ' H' ⟨hm,ρ',G',L',M',e',r',n',h'⟩;by_cases hi:i<xs.length
 ·right;have hd:xs[i]? =some xs[i]:=aaa hi;rw[abt hi]at h';have⟨aS,h'⟩:=h';have⟨go,yl⟩:=y.go i G' L' M' H' _ e'.g e'.l r' aS hd;refine⟨go,fb X.K G1 L1 H1 (λρ' M'=>x4 g tb Dn ok (xs.drop (i+1)) ρ' M'),λσ2 H2 f=>⟨m-1,(),(),f⟩,λv H2 hy=>?_⟩;have⟨G2,e2,r2,n2⟩:=yl v H2 hy;refine gd G2 L' M' H2 _ v ρ' σ' _ _ r2 n2 (n'.mono e2) h' λρ3 σ3 n3 h3=>?_;refine⟨G2,L',ρ3,M',_,r2,n3,h3,hx.on (e1.trans (e'.trans e2)),⟨λ_ _ f=>fb.back (e'.trans e2) f,λ_ _ f=>Fin.back (e1.trans (e'.trans e2)) f,λ_ _ f=>fb.back (e1.trans (e'.trans e2)) f,λ_ _ f=>fb.back (e'.trans e2) f⟩⟩
 ·left;rw[ab8 ()]at h';exact⟨y.stop i G' L' M' H' e'.g e'.l r' h'.1 (),ρ',G',L',M',e1.trans e',r',n',h'.2⟩
end
def rH(te:DE)(cs:En)(ok:Ms->Prop):List Dt->List Dt->Ms->(List Dt->Ms->Prop)->Prop
 |[],Η,M,k=>ok M/\k Η M
 |x::xs,Η,M,k=>ok M/\te (some x::cs) M (λd M1=>rH te cs ok xs (Η++[d]) M1 k) lS
def pE(ti:DK)(te:DE)(af:List Nat):DE:=λρ M q x=>ti ρ M (λxs ok M1=>xs.length<=sizeLine/\rH te (oZ af ρ) ok xs [] M1 (λys M2=>q (.lst ys) M2)) x
def qQ{te:DE}{cs:En}{ok:Ms->Prop}:∀xs,rH te cs ok xs=jh (gN 0) p_ te (none::cs) ok xs
 |[]=>rfl
 |x::xs=>funext λΗ=>funext λM=>funext λk=>by show(ok M/\te (some x::cs) M (λd M1=>rH te cs ok xs (Η++[d]) M1 k) lS)=(ok M/\te (some x::cs) M (λd M1=>jh (gN 0) p_ te (none::cs) ok xs (Η++[d]) M1 k) lS);rw[qQ xs]
section
variable{X:Cx}{R:St->XK}{elt iter:Expr}{x:Str}{px:Pos}{scope:Scope}{pos:Pos}{ti:DK}{te:DE}{ys:List Str}{af:List Nat}
def gE(S:aL X scope [x] ys af)(hi:JK X R (.Name x px) iter ti)(he:∀C s H fp,JE (Cx.comp X (x::ys) scope C s H fp) (λ_=>E0) elt te)(hc:X.calm=true:=by rfl)(hs:∀x,foldedSetIterable iter X.env x=pure x:=by intro _;rfl):JE X R (.ListComp elt [⟨.Name x px,iter,[],0⟩] scope pos) (pE ti te af):=Up false S hi (hW S (i:=0) rfl) aI (gQ (Nat.zero_lt_succ 0)) (λ_ _ _ _=>ni) he hc hs λρ M q x h=>by unfold pE at h;simp only[qQ]at h;exact h
def ie{i:Nat}{y:Str}{py zt:Pos}(hN:X.N.Nodup)(SG:X.N[i]? =some y)(hy:Loc X.env.scope y)(S:aL X scope [x] ys af)(hi:JK X R (.Name x px) iter ti)(he:∀C s H fp,JE (Cx.comp X (x::ys) scope C s H fp) (λ_=>E0) elt te)(hc:X.calm=true:=by rfl)(Su:swapsWith (.ListComp elt [⟨.Name x px,iter,[],0⟩] scope pos) (some (.Name y py)) zt.line X.env=pure true:=by rfl)(hs:∀x,foldedSetIterable iter X.env x=pure x:=by intro _;rfl)(hf:X.fn y=true\/X.env.scope.names.lookup y=some .local:=by first| exact .inl rfl| exact .inr rfl| assumption):JS X R (.Assign [.Name y py] (.ListComp elt [⟨.Name x px,iter,[],0⟩] scope pos) zt) (MQ i (pE ti te af)):=jcS false S hi (hW S (i:=0) rfl) aI (gQ (Nat.zero_lt_succ 0)) (λ_ _ _ _=>ni) he hc hs hN SG hy Su hf λρ M q x h=>by unfold pE at h;simp only[qQ]at h;exact h
end
def vM:∀{ns:List Int}{us:List Value},aF (ns.map V.int) us->∃ts:List (Int×Tok),us=ts.map (λp=>Value.int p.1 p.2)/\ts.map (·.1)=ns
 |[],_,h=>by cases h;exact⟨[],rfl,rfl⟩
 |n::ns,_,h=>by
  cases h with
  |cons r t=>
   have⟨tk,rfl⟩:=r;have⟨ts,rfl,rfl⟩:=vM t;exact⟨(n,tk)::ts,rfl,rfl⟩
def Tw(K:fI):List V->Hp->VK->Prop:=λxs H Q=>∃(p:Addr) (ns:List Int),xs=[.ref p]/\gK K H p (ns.map V.int)/\Q (.int ns.sum) H
def K5{X:Cx}(hc:X.calm=true):dU X (.builtin "sum") (Tw X.K):=by
 intro ζ s σ H xs us Q I r h;have⟨p,ns,rfl,hq,q⟩:=h;have⟨u,rfl,r1⟩:=kU r;cases r1;have⟨its,rv,pl,hz⟩:=I.list hq;have⟨ts,rfl,rfl⟩:=vM rv;have e:(ts.map λp=>Value.int p.1 p.2).toArray=intItems ts.toArray:=by simp[intItems]
 have hl:=pl.isList;rw[e]at hl;refine sum_intListG (I.ok.hd hc) hl λh' tk t' hk=>?_;refine⟨.int (ts.map (·.1)).sum,H,I.kept hk,⟨t',?_⟩,q⟩;rw[preSum_eq,List.take_of_length_le (by simp)]
def OR:List Dt->Ms->DQ->Prop
 |[d],M,q=>∃ns:List Int,f_ M d=some (ns.map .int)/\(∃xs ok,lI M d=some (xs,ok))/\q (.int ns.sum) M
 |_,_,_=>False
def tG{K:fI}{G:Hp}{L:List Addr}:∀{ns:List Int}{vs:List V},Ψ K G L (ns.map Dt.int) vs->vs=ns.map V.int
 |[],_,h=>h
 |_::_,_,⟨v,r,e,h1,h2⟩=>by have h1:v=_:=h1;rw[e,h1,tG h2];rfl
def nK{M:Ms}{d:Dt}{xs:List Dt}{ok:Ms->Prop}(h:lI M d=some (xs,ok)):f_ M d=some xs:=by
 cases d with
 |lst ds=>cases h;rfl
 |iA ns=>cases h;rfl
 |loc k=>
  have h:(match M[k]? with| some (.lst xs)=>some (xs,λM':Ms=>M'[k]? =some (.lst xs))| _=>none)=some (xs,ok):=h;show(match M[k]? with| some (.lst xs)=>some xs| _=>none)=some xs;split at h
  ·rename_i ys hm;cases h;rfl
  ·cases h
 |_=>cases h
def ZK{K:fI}:B4 K (Tw K) OR:=by
 intro G0 L0 H0 G L M H vs ds q e r n h;unfold OR at h;split at h
 ·rename_i d;have⟨v,rfl,n1⟩:=bF n;have⟨ns,hs,⟨xs,ok,hl⟩,hq⟩:=h;have⟨a,us,rfl,sq,sr,aS⟩:=tV r n1 hl;rw[nK hl]at hs;cases hs;have⟨ws,Z',dn⟩:=sr.at_ G L M H (.refl _) (.refl _) r aS;rw[tG dn]at Z';exact⟨a,ns,rfl,Z',.int ns.sum,G,L,M,e,r,rfl,hq⟩
 ·exact h.elim
def FH:bootBuiltins "sum"=some (.builtin "sum"):=by decide+kernel
def CJ:bootBuiltins "enumerate"=some (.type "enumerate"):=by decide+kernel
section
variable{X:Cx}{R:St->XK}{e a b:Expr}{t:DA}{ta tb:DE}{p pos:Pos}
def OL(hm:X.mg "sum"=none)(ha:JA X R [e] t)(hc:X.calm=true:=by rfl)(hg:Gl X "sum":=by rfl)(he:starEach [e] X.env=(false,eval e X.env)::starEach [] X.env:=by rfl)(gz:(backTo pos (starEach [] X.env)).any (·.1)=false:=by rfl):JE X R (.Call (.Name "sum" p) [e] [] pos) (A6 OR t):=
 gD (K5 hc) ZK hm FH ha hg @_ @_ he gz
def SN:Dt->Dt->Ms->DQ->Prop:=λd e M q=>∃u xs us,pV d=some u/\f_ M e=some xs/\g9 xs=some us/\q (.bl (QT u us)) M
def D8:Dt->Dt->Ms->DQ->Prop:=λd e M q=>∃u xs us,pV d=some u/\f_ M e=some xs/\g9 xs=some us/\q (.bl (!QT u us)) M
def YS{K:fI}:nh K (Wl K false) SN:=by intro G0 L0 H0 G L M H v1 v2 d1 d2 q e r n1 n2 ⟨u,xs,us,h1,h2,h3,hq⟩;have⟨rfl,fu⟩:=gT h1 n1;have⟨a,vs,rfl,sq,dn⟩:=n_ r n2 h2;have⟨rfl,fs⟩:=fo h3 dn;exact⟨a,vs,rfl,sq,fu,fs,.bl _,G,L,M,e,r,rfl,hq⟩
def Ln{K:fI}:nh K (Wl K true) D8:=by intro G0 L0 H0 G L M H v1 v2 d1 d2 q e r n1 n2 ⟨u,xs,us,h1,h2,h3,hq⟩;have⟨rfl,fu⟩:=gT h1 n1;have⟨a,vs,rfl,sq,dn⟩:=n_ r n2 h2;have⟨rfl,fs⟩:=fo h3 dn;exact⟨a,vs,rfl,sq,fu,fs,.bl _,G,L,M,e,r,rfl,hq⟩
def H_(ja:JE X R a ta)(jb:JE X R b tb)(hm:behindInMarks .In b=false:=by rfl):JT X R (.Compare a [.In] [b] pos) (kn (jO SN ta tb)):=fC GO YS ja jb hm
def vJ(ja:JE X R a ta)(jb:JE X R b tb)(hm:behindInMarks .NotIn b=false:=by rfl):JT X R (.Compare a [.NotIn] [b] pos) (kn (jO D8 ta tb)):=fC wO Ln ja jb hm
end
def Inv.vo{X:Cx}{ζ:List (Addr×Obj)}{σ:St}{H:Hp}{s:Shared}{h':Heap}{its:List Addr}{T:Addr}{o:HO}{t':Nat}(I:Inv X ζ σ H s)(k:∀b u,b∉its->s.heap.get? b=some u->h'.get? b=some u)(f:∀b∈its,rY X ζ H b)(hT:s.heap.objs.size<=T)(new:cn X.prog X.w (upd H T o) h' T o):
  Inv X ζ σ (upd H T o) {s with heap:=h',toks:=t'}:=by
 have hn:=I.aS.fresh hT;have Vb:∀b u,H b=some u->b∉its:=λb u e z=>by rw[(f b z).1]at e;cases e
 refine I.call (ch:=its) (g':=s.gens) (d':=s.drawn) (t':=t') ⟨λb u q _ _ hb=>k b u hb q,λb u q _ _ hb=>⟨u.slots,k b u hb q⟩,λb u q n _=>?_,λb u q hb=>⟨u,k b u hb q⟩,λb xs q=>?_,λb u xs q=>?_,λb ps q=>⟨#[],?_⟩⟩ (λb u e=>?_) I.bare λb hb=>?_
 ·rw[Μ (aaT (aau (aat q) hT))];exact n
 ·rw[Μ (cf q hn)];exact q
 ·rw[Μ (cf q hn)];exact q
 ·rw[Μ (cf q hn),q];simp
 ·by_cases hb:b=T
  ·subst hb;rw[Ω]at e;cases e;exact new
  ·rw[Μ hb]at e;refine(I.aS b u e).BI (λc v hc q=>k c v ?_ q) (λc q=>by rw[Μ (cf q hn)];exact q) λc xs q=>by rw[Μ (cf q hn)];exact q
   rcases hc with z| z
   ·rw[z];exact Vb b u e
   ·exact Vb c _ z
 ·have⟨f0,f1,f2,f3,f4,f5⟩:=f b hb;exact⟨f3,f1,f4,f5⟩
def Ite(K:fI)(l:Addr):It:=
 ⟨λi H=>∃xs x,gK K H l xs/\xs[i]? =some x,λi H v H'=>∃p x,H p=none/\v= .ref p/\H'=upd H p (.tup [.int i,x])/\∀xs,gK K H l xs->xs[i]? =some x,λi H=>∃xs,gK K H l xs/\xs.length<=i⟩
def FA{P:Program}{w:World}{K:fI}{elts:List Expr}{x1:Nat}{tp:Pos}(l it e:Addr)(jn:e≠it):Turn P w K (.Tuple elts x1 tp) (Ite K l) [e,it] e (λi h=>(∃old,IsEnum h e it i old)/\h.IsListIter it l i) where
 mem:=by simp
 obj:=λi h st b hb=>by
  have⟨⟨old,he⟩,hi⟩:=st;rcases aaK.mp hb with rfl| hb
  ·exact⟨_,he,λv z=>by
    have z':Data.fields _=Data.cell v:=z
    cases z'⟩
  ·have e:b=it:=by simpa using hb
   subst e;have⟨o,e,c,d⟩:=hi;exact⟨o,e,λv z=>by rw[d]at z;cases z⟩
 keep:=λi h h' st k=>by have⟨⟨old,he⟩,hi⟩:=st;exact⟨⟨old,k e (by simp) _ he⟩,hi.at λo q=>k it (by simp) o q⟩
 item:=by
  intro X hP hw hK hc i ζ s σ H E I hf st hg;subst hP hw hK;have⟨⟨old,he⟩,hi⟩:=st;have⟨xs,x,hq,hx⟩:=hg;have⟨its,rv,p,hz⟩:=I.list hq;have⟨u,hu,ru⟩:=rv.get hx;refine wpAny_pyNext_enum_item he hi p.isList (x:=u) (by simpa using hu) jn λh' ho qE hT hsz hk=>?_;refine⟨_,rfl,wpAny_letOwnedTupleGo_enum (s:={s with heap:=h',toks:=s.toks+1}) ho λh2 he2 sb=>?_⟩;have sb:Heap.SameBut e h' h2:=sb;have elt:e<s.heap.objs.size:=aat he;have ilt:it<s.heap.objs.size:=by have⟨o,q,_⟩:=hi;exact aat q
  have neT:s.heap.objs.size≠e:=acz elt;have hT2:h2.get? s.heap.objs.size=some {cls:=.type "tuple",data:=.seq #[.int i s.toks,u]}:=(sb.2 _ neT).trans hT;have I2:Inv X ζ σ (upd H s.heap.objs.size (.tup [.int i,x])) {s with heap:=h2,toks:=s.toks+1}:=by
   refine I.vo (its:=[e,it]) (λb o hb q=>?_) hf (aan _) ?_
   ·have h1:b≠e:=λz=>hb (by simp[z]);have h3:b≠it:=λz=>hb (by simp[z]);exact(sb.2 b h1).trans (hk b o h1 h3 q)
   ·refine⟨by simp[sizeLine_eq],[.int i s.toks,u],.cons ⟨_,rfl⟩ (.cons ru .nil),?_⟩;exact⟨_,hT2,rfl,0,rfl⟩
  have iter:h2.IsListIter it l (i+1):=qE.at λo q=>(sb.2 it (Ne.symm jn)).trans q;refine⟨.ref s.heap.objs.size,_,I2,rfl,⟨s.heap.objs.size,x,I.aS.fresh (Nat.le_refl _),rfl,rfl,λys hy=>by rw[I.gS hy hq];exact hx⟩,⟨⟨u,by simpa using he2⟩,iter⟩,λb hb=>?_⟩;have nb:b≠s.heap.objs.size:=by
   rcases aaK.mp hb with rfl| hb
   ·exact aaT elt
   ·have:b=it:=by simpa using hb
    subst this;exact aaT ilt
  rw[Μ nb];exact(hf b hb).1
 done:=by intro X hP hw hK hc i ζ s σ H E I hf st hg;subst hP hw hK;have⟨⟨old,he⟩,hi⟩:=st;have⟨xs,hq,hx⟩:=hg;have⟨its,rv,p,hz⟩:=I.list hq;have hl:=rv.length;have⟨f0,f1,f2,f3,f4,f5⟩:=hf it (by simp);refine wpAny_pyNext_enum_end (I.ok.hd hc) he hi p.isList (by simp;omega) λh' ext=>⟨rfl,I.turned (t':=s.toks) (λb o hb q=>ext b o hb q) f0 f1 f3 f4 f5⟩
 self:=λ_ _ _ _ _ st h=>by have⟨⟨old,he⟩,_⟩:=st;exact wpAny_pyIter_enum he h
def ji:Nat->List Dt->List Dt
 |_,[]=>[]
 |n,x::xs=>.tup [.int n,x]::ji (n+1) xs
def jM:∀(n:Nat) (xs:List Dt),(ji n xs).length=xs.length
 |_,[]=>rfl
 |n,_::xs=>by unfold ji;rw[List.length_cons,List.length_cons,jM]
def pJ:∀{n i:Nat}{xs:List Dt}{d:Dt},(ji n xs)[i]? =some d->∃x,xs[i]? =some x/\d= .tup [.int ((n+i:Nat):Int),x]
 |n,i,[],d,h=>by simp[ji]at h
 |n,0,x::xs,d,h=>by unfold ji at h;simp at h;exact⟨x,rfl,by rw[<-h];simp⟩
 |n,i+1,x::xs,d,h=>by unfold ji at h;have⟨y,h1,h2⟩:=pJ (n:=n+1) (i:=i) (xs:=xs) (d:=d) (by simpa using h);exact⟨y,by simpa using h1,by rw[h2,show n+1+i=n+(i+1) by omega]⟩
def KY{K:fI}{G:Hp}{L:List Addr}{a:Addr}{xs:List Dt}{ok:Ms->Prop}(s:Src K a xs ok G L):N4 K (Ite K a) (ji 0 xs) ok G L where
 go:=λi G1 L1 M1 H1 d g l r k e=>by have⟨vs,hs,n⟩:=s.at_ G1 L1 M1 H1 g l r k;have⟨y,ey,rfl⟩:=pJ e;have⟨v,e1,n1⟩:=n.get ey;refine⟨⟨vs,v,hs,e1⟩,λv' H' xz=>?_⟩;have⟨p,x,hp,ev,eH,hx⟩:=xz;subst ev eH;have e2:=hx vs hs;rw[e1]at e2;cases e2;refine⟨_,r.RH hp,r.LG hp,qL (ds:=[.int ((0+i:Nat):Int),y]) r hp ⟨_,_,rfl,?_,_,_,rfl,n1,rfl⟩⟩;show V.int i=V.int _;rw[Nat.zero_add]
 stop:=λi G1 L1 M1 H1 g l r k e=>by have⟨vs,hs,n⟩:=s.at_ G1 L1 M1 H1 g l r k;exact⟨vs,hs,by rw[<-n.length,<-jM 0];exact e⟩
def UU(t:DA):DK:=λρ M q x=>t ρ M (λds M1=>∃d xs ok,ds=[d]/\lI M1 d=some (xs,ok)/\q (ji 0 xs) ok M1) x
def xh{X:Cx}{R:St->XK}{elts:List Expr}{x1:Nat}{tp:Pos}{a:Expr}{t:DA}{p pos:Pos}(hm:X.mg "enumerate"=none)(ha:JA X R [a] t)(hg:Gl X "enumerate":=by rfl)(hs:starEach [a] X.env=[(false,eval a X.env)]:=by rfl):JK X R (.Tuple elts x1 tp) (.Call (.Name "enumerate" p) [a] [] pos) (UU t):=by
 intro ζ s σ H Q I ⟨G,L,ρ,M,q,x,rl,n,ht,hx,hQ⟩;refine Call_ (mP I hg hm CJ (PyProof.Rows.callWith_type1 (bJ (ha pos ζ s σ H (NK X.K G L H _) I ⟨G,L,ρ,M,_,x,rl,n,ht,hx,λ_ _ f=>f⟩) λus s1 xz=>?_) hs rfl));have⟨vs,H1,I1,rv,ds,G1,L1,M1,e1,r1,n1,d,xs,ok,ed,hl,h1⟩:=xz;subst ed;have⟨v,rfl,n2⟩:=bF n1;have⟨b,ws,rfl,sq,sr,_⟩:=tV r1 n2 hl;have⟨u,rfl,ru⟩:=aF.one rv;cases ru;have⟨its,_,pl,_⟩:=I1.list sq;refine call_enumerate_list pl.isList λh' he hi hz hk=>?_;have I2:Inv X ζ σ H1 {s1 with heap:=h'}:=I1.kept (t':=s1.toks) hk;refine wpAny_pyIter_enum (s:={s1 with heap:=h'}) he ⟨s1.heap.objs.size+1,[s1.heap.objs.size+1,s1.heap.objs.size],_,_,H1,rfl,I2,FA b s1.heap.objs.size (s1.heap.objs.size+1) (acz (abu _)),⟨⟨_,he⟩,hi⟩,λc hc=>?_,hQ _ _ ⟨_,ok,G1,L1,M1,e1,r1,KY sr,h1⟩⟩;have hc:s1.heap.objs.size<=c:=by
  rcases aaK.mp hc with rfl| hc
  ·exact Nat.le_succ _
  ·have:c=s1.heap.objs.size:=by simpa using hc
   rw[this];exact aan _
 have f:=I1.Bq (H':=H1) hc (I1.aS.fresh hc);exact f
def Dw(M:Ms):Dt->Option Value
 |.loc k=>match M[k]? with
  |some (.lst _)=>some (.type "list")
  |_=>none
 |d=>Oq d
def OC(K:fI):List Dt->Ms->DQ->Prop:=λds M q=>∃d c t t' b,ds=[d,c]/\Dw M d=some t/\QN c=some t'/\PySem.W.kitOne K t t'=some b/\q (.bl b) M
section
variable{K:fI}
def Bb{G:Hp}{L:List Addr}{M:Ms}{H:Hp}{d:Dt}{v:V}{t:Value}(r:Rl K G L M H)(n:Den K G L d v)(h:Dw M d=some t):j2 K H v t:=by
 by_cases hd:∃k,d= .loc k
 ·have⟨k,rfl⟩:=hd;have⟨a,rfl,e⟩:=n;have h:(match M[k]? with| some (.lst _)=>some (Value.type "list")| _=>none)=some t:=h;split at h
  ·rename_i xs hm;cases h;have⟨_,vs,e1,_⟩:=r.eP k a _ e hm;exact .lst e1
  ·cases h
 ·refine GV r n ?_;cases d with
  |loc k=>exact aaL ⟨k,rfl⟩ hd
  |_=>exact h
def Vr:B4 K (λxs H Q=>∃x c t t' b,xs=[x,c]/\j2 K H x t/\JV c=some t'/\PySem.W.kitOne K t t'=some b/\Q (.bl b) H) (OC K):=by intro G0 L0 H0 G L M H vs ds q e r n ⟨d,c,t,t',b,ed,h1,h2,hb,h⟩;subst ed;have⟨v,u,rfl,n1,n2⟩:=fW n;exact⟨v,u,t,t',b,rfl,Bb r n1 h1,DZ n2 h2,hb,bB e r h⟩
end
section
variable{X:Cx}{R:St->XK}{e e2:Expr}{t:DA}{p pos:Pos}
def pj(K:fI)(hm:X.mg "isinstance"=none)(ha:JA X R [e,e2] t)(he:starEach [e,e2] X.env=(false,eval e X.env)::starEach [e2] X.env:=by rfl)(gz:(backTo pos (starEach [e2] X.env)).any (·.1)=false:=by rfl)(hg:Gl X "isinstance":=by rfl)(hK:X.K=K:=by rfl):JE X R (.Call (.Name "isinstance" p) [e,e2] [] pos) (A6 (OC K) t):=by subst hK;exact gD pX Vr hm iX ha hg @_ @_ he gz
def vI:∀{zs:List Str}{us:List Value},Paired (λ(z:Str) (u:Value)=>∃tk,u= .str z tk) zs us->aF (zs.map V.str) us
 |_,_,.nil=>.nil
 |_,_,.cons h t=>.cons h (vI t)
def KC{x:Str}{zs:List Str}(hm:∃a o its n,X.mg x=some (.ref a)/\X.K.lookup a=some o/\o.cls= .type "tuple"/\o.data= .seq its n/\its.size<=sizeLine/\Paired (λ(z:Str) (u:Value)=>∃tk,u= .str z tk) zs its.toList)(hg:Gl X x:=by rfl)(hd:(x==("__debug__":Str))=false:=by decide):JE X R (.Name x pos) (dC (.kt (zs.map .str))):=by have⟨a,o,its,n,h1,h2,h3,h4,h5,h6⟩:=hm;exact OX (v:=.ref a) (EL hg h1 rfl hd) λG L=>⟨a,zs.map V.str,rfl,.inr ⟨o,its,n,h2,h3,h4,h5,vI h6⟩,vT⟩
end
def fv{te:DE}{cs:En}{ok:Ms->Prop}{f:Dt->Dt}:∀{xs Η:List Dt}{M:Ms}{k:List Dt->Ms->Prop},ok M->(∀x∈xs,∀q:DQ,q (f x) M->te (some x::cs) M q lS)->k (Η++xs.map f) M->rH te cs ok xs Η M k
 |[],Η,M,k,ho,_,h=>⟨ho,by simpa using h⟩
 |x::xs,Η,M,k,ho,hf,h=>⟨ho,hf x List.mem_cons_self _ (fv ho (λy hy=>hf y (List.mem_cons_of_mem _ hy)) (by simpa using h))⟩
def bK{g:Dt->En->(En->Prop)->Prop}{tb:DS}{Dn:lL}{ok:Ms->Prop}(J:List Dt->En->Ms->Prop)(aS:∀xs ρ M,J xs ρ M->ok M)
  (step:∀x xs ρ M,J (x::xs) ρ M->(∀ρ M,J xs ρ M->x4 g tb Dn ok xs ρ M)->g x ρ λρ'=>tb {Dn with nx:=x4 g tb Dn ok xs,ct:=x4 g tb Dn ok xs,bk:=Dn.nx} ρ' M)
  (fin:∀ρ M,J [] ρ M->Dn.nx ρ M):∀(xs:List Dt) (ρ:En) (M:Ms),J xs ρ M->x4 g tb Dn ok xs ρ M
 |[],ρ,M,h=>⟨aS _ _ _ h,fin _ _ h⟩
 |x::xs,ρ,M,h=>⟨aS _ _ _ h,step x xs ρ M h λρ' M' h'=>bK J aS step fin xs ρ' M' h'⟩
section
variable{K:fI}{G:Hp}{L:List Addr}
mutual
def Qv:∀(d:Dt) (v:V),Den K G L d v->d.under L.length
 |.bj,_,_=>trivial
 |.bl _,_,_=>trivial
 |.int _,_,_=>trivial
 |.str _,_,_=>trivial
 |.tup ds,_,⟨a,vs,e,h1,h2⟩=>fF ds vs h2
 |.lst ds,_,⟨a,vs,e,h1,h2⟩=>fF ds vs h2
 |.obj C ns ds,_,⟨a,dx,vs,e,h1,hl,h2⟩=>fF ds vs h2
 |.loc k,_,⟨a,e,h1⟩=>(aaf.mp h1).1
 |.ref _,_,_=>trivial
 |.ty _,_,_=>trivial
 |.iA _,_,_=>trivial
 |.kt ds,_,⟨a,vs,e,h1,h2⟩=>fF ds vs h2
 |.exc _ _ ds,_,⟨a,od,vs,e,h1,h2,h3,h4⟩=>fF ds vs h4
 |.RT _ _ _ _ ds,_,⟨vs,e,h2,h3,h4⟩=>fF ds vs h4
def fF:∀(ds:List Dt) (vs:List V),Ψ K G L ds vs->Dt.bR L.length ds
 |[],_,_=>trivial
 |d::ds,_,⟨v,r,e,h1,h2⟩=>⟨Qv d v h1,fF ds r h2⟩
end
def Rl.un{M:Ms}{H:Hp}(r:Rl K G L M H):∀m∈M,MO.under M.length m:=λm hm=>by
 have⟨k,hk,e⟩:=abl hm;have em:M[k]? =some m:=by rw[aaa hk,e]
 have el:L[k]? =some (L[k]'(by rw[r.len];exact hk)):=aaa _;have⟨_,q⟩:=r.eP k _ m el em;rw[<-r.len];cases m with
 |lst ds=>have⟨vs,_,h⟩:=q;exact fF _ _ h
 |ins C ns ds=>have⟨dx,vs,_,_,h⟩:=q;exact fF _ _ h
 |bX ks ds=>have⟨vs,_,_,h⟩:=q;exact fF _ _ h
 |raw u=>trivial
end
def sj(M0:Ms)(q:DQ):DQ:=λd M=>∃E d',M=M0++E/\Ha M0.length E d d'/\q d' M0
def Fin.sj{K:fI}{G0:Hp}{L0:List Addr}{M0:Ms}{H0:Hp}{q:DQ}{v:V}{H:Hp}(r0:Rl K G0 L0 M0 H0)(f:Fin K G0 L0 H0 (sj M0 q) v H):Fin K G0 L0 H0 q v H:=by have⟨d,G,L,M,ex,r,dn,E,d',e,fz,hq⟩:=f;exact Fin.vC r0 ⟨d,G,L,M,ex,r,dn,M0,E,d',e,rfl,r0.un,fz,hq⟩
def Sl(t:DE):DE:=λρ M q x=>t ρ M (sj M q) x
def cU{X:Cx}{R:St->XK}{e:Expr}{t:DE}(h:JE X R e t):JE X R e (Sl t):=.of h λσ H G L ρ M q x rl n ht hx=>⟨G,L,ρ,M,_,x,rl,n,ht,hx,λv H1 f=>Fin.sj rl f⟩
def Mz{M0:Ms}{q:DQ}{d:Dt}(hu:d.under M0.length)(h:q d M0):sj M0 q d M0:=⟨[],d,by simp,.old hu,h⟩
def mS{M0 E:Ms}{q:DQ}{d d':Dt}(f:Ha M0.length E d d')(h:q d' M0):sj M0 q d (M0++E):=⟨E,d',rfl,f,h⟩
def gI(f:Expr->Option Dt):List Expr->Option (List Dt)
 |[]=>some []
 |e::es=>match f e,gI f es with
  |some d,some ds=>some (d::ds)
  |_,_=>none
def gP:Nat->Expr->Option Dt
 |0,e=>match e with
  |.Constant (.int i) _ _=>some (.int i)
  |.Constant (.str x) _ _=>some (.str x)
  |_=>none
 |n+1,e=>match e with
  |.Constant (.int i) _ _=>some (.int i)
  |.Constant (.str x) _ _=>some (.str x)
  |.Tuple es _ _=>if es.length<=100 then (gI (gP n) es).map .tup else none
  |.List es _=>if es.length<=100 then (gI (gP n) es).map .lst else none
  |_=>none
def CZ{n:Nat}{e:Expr}{d:Dt}{es:List Expr}{env:Env}(h:gP n e=some d):starEach (e::es) env=(false,eval e env)::starEach es env:=by cases n <;> (unfold gP at h;split at h <;> first| rfl| cases h)
def j_{f:Expr->Option Dt}:∀{es:List Expr}{ds:List Dt},gI f es=some ds->ds.length=es.length
 |[],ds,h=>by cases h;rfl
 |e::es,ds,h=>by
  unfold gI at h;split at h
  ·rename_i d oa h1 h2;cases h;rw[aaB,aaB,j_ h2]
  ·cases h
section
variable{X:Cx}{R:St->XK}
def sD{n:Nat}(ih:∀(e:Expr) (d:Dt),gP n e=some d->JE X R e (dC d)):∀(es:List Expr) (ds:List Dt),gI (gP n) es=some ds->JA X R es (λ_ M q _=>q ds M)
 |[],ds,h=>by cases h;exact θ
 |e::es,ds,h=>by
  unfold gI at h;split at h
  ·rename_i d oa h1 h2;cases h;exact ι (ih e d h1) (sD ih es oa h2) (hs:=CZ h1)
  ·cases h
def D1{n:Nat}(h:n<=100):n<=sizeLine:=aaE h @_
def JE.imp{e:Expr}{t t':DE}(h:JE X R e t)(hi:∀ρ M q x,t' ρ M q x->t ρ M q x):JE X R e t':=.of h λσ H G L ρ M q x rl n ht hx=>⟨G,L,ρ,M,q,x,rl,n,hi _ _ _ _ ht,hx,λ_ _ f=>f⟩
def dH:∀(n:Nat) {e:Expr}{d:Dt},gP n e=some d->JE X R e (dC d)
 |0,e,d,h=>by
  unfold gP at h;split at h
  ·cases h;exact ο
  ·cases h;exact ia
  ·cases h
 |n +1,e,d,h=>by
  unfold gP at h;split at h
  ·cases h;exact ο
  ·cases h;exact ia
  ·split at h
   ·rename_i es _ _ hl;cases hc:gI (gP n) es with
    |none=>rw[hc]at h;cases h
    |some ds=>
     rw[hc]at h;cases h;exact(eI (sD (λe d=>dH n) es ds hc)).imp λρ M q x hq=>⟨D1 (by rw[j_ hc];exact hl),hq⟩
   ·cases h
  ·split at h
   ·rename_i es _ hl;cases hc:gI (gP n) es with
    |none=>rw[hc]at h;cases h
    |some ds=>
     rw[hc]at h;cases h;exact(lQ (sD (λe d=>dH n) es ds hc)).imp λρ M q x hq=>⟨D1 (by rw[j_ hc];exact hl),hq⟩
   ·cases h
  ·cases h
end
def Fw:bootBuiltins "zip"=some (.type "zip"):=by decide+kernel
def Inv.Ls{X:Cx}{ζ:List (Addr×Obj)}{σ:St}{H:Hp}{s:Shared}{h':Heap}{its:List Addr}{t':Nat}(I:Inv X ζ σ H s)(k:∀b u,b∉its->s.heap.get? b=some u->h'.get? b=some u)(f:∀b∈its,rY X ζ H b):
  Inv X ζ σ H {s with heap:=h',toks:=t'}:=by
 have Vb:∀b u,H b=some u->b∉its:=λb u e z=>by rw[(f b z).1]at e;cases e
 refine I.call (ch:=its) (g':=s.gens) (d':=s.drawn) (t':=t') ⟨λb u q _ _ hb=>k b u hb q,λb u q _ _ hb=>⟨u.slots,k b u hb q⟩,λb u q n _=>n,λb u q hb=>⟨u,k b u hb q⟩,λb xs q=>q,λb u xs q=>q,λb ps q=>⟨#[],by rw[q];simp⟩⟩ (λb u e=>?_) I.bare λb hb=>?_
 ·refine(I.aS b u e).BI (λc v hc q=>k c v ?_ q) (λc q=>q) λc xs q=>q;rcases hc with z| z
  ·rw[z];exact Vb b u e
  ·exact Vb c _ z
 ·have⟨f0,f1,f2,f3,f4,f5⟩:=f b hb;exact⟨f3,f1,f4,f5⟩
def Itz(K:fI)(l1 l2:Addr):It:=
 ⟨λi H=>∃xs ys x y,gK K H l1 xs/\gK K H l2 ys/\xs[i]? =some x/\ys[i]? =some y,
  λi H v H'=>∃p x y,H p=none/\v= .ref p/\H'=upd H p (.tup [x,y])/\(∀xs,gK K H l1 xs->xs[i]? =some x)/\∀ys,gK K H l2 ys->ys[i]? =some y,
  λi H=>∃xs ys,gK K H l1 xs/\gK K H l2 ys/\(xs.length<=i\/ys.length<=i)⟩
def Jo{P:Program}{w:World}{K:fI}{elts:List Expr}{x1:Nat}{tp:Pos}{l1 l2 i1 i2 TI TO z:Addr}(D:ZipApart z TI TO i1 i2 l1 l2):Turn P w K (.Tuple elts x1 tp) (Itz K l1 l2) [z,TI,TO,i1,i2] z (λi h=>(∃a b,IsZip h z TI TO .none/\IsPair h TI (.ref i1) (.ref i2)/\IsPair h TO a b)/\h.IsListIter i1 l1 i/\h.IsListIter i2 l2 i) where
 mem:=by simp
 obj:=λi h st b hb=>by
  have⟨⟨a,c,hz,J5,Lj⟩,h1,h2⟩:=st;simp only[List.mem_cons,List.not_mem_nil,or_false]at hb;rcases hb with rfl| rfl| rfl| rfl| rfl
  ·exact⟨_,hz,λv z=>by
    have z':Data.fields _=Data.cell v:=z
    cases z'⟩
  ·exact⟨_,J5,λv z=>by
    have z':Data.seq _=Data.cell v:=z
    cases z'⟩
  ·exact⟨_,Lj,λv z=>by
    have z':Data.seq _=Data.cell v:=z
    cases z'⟩
  ·have⟨o,e,c,d⟩:=h1;exact⟨o,e,λv z=>by rw[d]at z;cases z⟩
  ·have⟨o,e,c,d⟩:=h2;exact⟨o,e,λv z=>by rw[d]at z;cases z⟩
 keep:=λi h h' st k=>by have⟨⟨a,c,hz,J5,Lj⟩,h1,h2⟩:=st;exact⟨⟨a,c,k z (by simp) _ hz,k TI (by simp) _ J5,k TO (by simp) _ Lj⟩,h1.at λo q=>k i1 (by simp) o q,h2.at λo q=>k i2 (by simp) o q⟩
 item:=by
  intro X hP hw hK hc i ζ s σ H E I hf st hg;subst hP hw hK;have⟨⟨a,c,hz,J5,Lj⟩,h1,h2⟩:=st;have⟨xs,ys,x,y,S',RD,hx,hy⟩:=hg;have⟨ZJ,XF,p1,_⟩:=I.list S';have⟨u1,hu1,ru1⟩:=XF.get hx;have⟨Io,Zh,p2,_⟩:=I.list RD;have⟨u2,hu2,ru2⟩:=Zh.get hy;refine wpAny_pyNext_zip_item D hz J5 Lj h1 h2 p1.isList p2.isList (x:=u1) (y:=u2) (by simpa using hu1) (by simpa using hu2) λh' hz' XD RQ h2' hT hsz hk=>?_;refine⟨_,rfl,wpAny_letOwnedTupleGo_zip (s:={s with heap:=h'}) hz' λh3 hz3 sb=>?_⟩;have sb:Heap.SameBut z h' h3:=sb;have zlt:z<s.heap.objs.size:=aat hz;have neT:s.heap.objs.size≠z:=acz zlt;have hT3:h3.get? s.heap.objs.size=some {cls:=.type "tuple",data:=.seq #[u1,u2]}:=(sb.2 _ neT).trans hT;have lt:∀b∈[z,TI,TO,i1,i2],b<s.heap.objs.size:=λb hb=>by
   simp only[List.mem_cons,List.not_mem_nil,or_false]at hb;rcases hb with rfl| rfl| rfl| rfl| rfl
   ·exact zlt
   ·exact aat J5
   ·exact aat Lj
   ·have⟨o,q,_⟩:=h1;exact aat q
   ·have⟨o,q,_⟩:=h2;exact aat q
  have I2:Inv X ζ σ (upd H s.heap.objs.size (.tup [x,y])) {s with heap:=h3,toks:=s.toks}:=by
   refine I.vo (its:=[z,TI,TO,i1,i2]) (λb o hb q=>?_) hf (aan _) ?_
   ·simp only[List.mem_cons,List.not_mem_nil,or_false,not_or]at hb;have⟨b1,b2,b3,b4,b5⟩:=hb;exact(sb.2 b b1).trans (hk b o b1 b3 b4 b5 q)
   ·refine⟨by simp[sizeLine_eq],[u1,u2],.cons ru1 (.cons ru2 .nil),?_⟩;exact⟨_,hT3,rfl,0,rfl⟩
  refine⟨.ref s.heap.objs.size,_,I2,rfl,⟨s.heap.objs.size,x,y,I.aS.fresh (aan _),rfl,rfl,λzs XN=>by rw[I.gS XN S'];exact hx,λzs XN=>by rw[I.gS XN RD];exact hy⟩,⟨⟨u1,u2,hz3,(sb.2 _ D.TIz).trans (hk _ _ D.TIz D.TITO D.TIi1 D.TIi2 J5),(sb.2 _ D.TOz).trans XD⟩,RQ.at λo q=>(sb.2 i1 D.i1z).trans q,h2'.at λo q=>(sb.2 i2 D.i2z).trans q⟩,λb hb=>?_⟩;rw[Μ (aaT (lt b hb))];exact(hf b hb).1
 done:=by intro X hP hw hK hc i ζ s σ H E I hf st hg;subst hP hw hK;have⟨⟨a,c,hz,J5,Lj⟩,h1,h2⟩:=st;have⟨xs,ys,S',RD,hx⟩:=hg;have⟨ZJ,XF,p1,_⟩:=I.list S';have⟨Io,Zh,p2,_⟩:=I.list RD;have Ww:=XF.length;have GU:=Zh.length;refine wpAny_pyNext_zip_end (I.ok.hd hc) D hz J5 Lj h1 h2 p1.isList p2.isList (by rcases hx with hx| hx;(left;simp;omega);(right;simp;omega)) λh' ext=>⟨rfl,I.Ls (t':=s.toks) (its:=[z,TI,TO,i1,i2]) (λb o hb q=>?_) hf⟩;simp only[List.mem_cons,List.not_mem_nil,or_false,not_or]at hb;have⟨b1,b2,b3,b4,b5⟩:=hb;exact ext b o b1 b3 b4 b5 q
 self:=λ_ _ _ _ _ st h=>by have⟨⟨a,c,hz,_,_⟩,_⟩:=st;exact wpAny_pyIter_zip hz h
def qp(xs ys:List Dt):List Dt:=(xs.zip ys).map λp=>.tup [p.1,p.2]
def Ks{xs ys:List Dt}{i:Nat}{d:Dt}(h:(qp xs ys)[i]? =some d):∃x y,xs[i]? =some x/\ys[i]? =some y/\d= .tup [x,y]:=by
 unfold qp at h;rw[aaq]at h;cases e:(xs.zip ys)[i]? with
 |none=>rw[e]at h;cases h
 |some p=>
  rw[e]at h;cases h;have⟨h1,h2⟩:=abJ.mp e;exact⟨p.1,p.2,h1,h2,rfl⟩
def zb(xs ys:List Dt):(qp xs ys).length=min xs.length ys.length:=by unfold qp;rw[List.length_map,List.length_zip]
def MN{K:fI}{G:Hp}{L:List Addr}{a b:Addr}{xs ys:List Dt}{ok RU:Ms->Prop}(s:Src K a xs ok G L)(s':Src K b ys RU G L):N4 K (Itz K a b) (qp xs ys) (λM=>ok M/\RU M) G L where
 go:=λi G1 L1 M1 H1 d g l r k e=>by have⟨vs,hs,n⟩:=s.at_ G1 L1 M1 H1 g l r k.1;have⟨Wj,VF,n'⟩:=s'.at_ G1 L1 M1 H1 g l r k.2;have⟨x,y,ex,ey,rfl⟩:=Ks e;have⟨v,e1,n1⟩:=n.get ex;have⟨v',e1',n1'⟩:=n'.get ey;refine⟨⟨vs,Wj,v,v',hs,VF,e1,e1'⟩,λw H' xz=>?_⟩;have⟨p,x2,y2,hp,ev,eH,hx,hy⟩:=xz;subst ev eH;have e2:=hx vs hs;rw[e1]at e2;cases e2;have e3:=hy Wj VF;rw[e1']at e3;cases e3;exact⟨_,r.RH hp,r.LG hp,qL (ds:=[x,y]) r hp ⟨_,_,rfl,n1,_,_,rfl,n1',rfl⟩⟩
 stop:=λi G1 L1 M1 H1 g l r k e=>by have⟨vs,hs,n⟩:=s.at_ G1 L1 M1 H1 g l r k.1;have⟨Wj,VF,n'⟩:=s'.at_ G1 L1 M1 H1 g l r k.2;refine⟨vs,Wj,hs,VF,?_⟩;rw[<-n.length,<-n'.length];rw[zb]at e;omega
def WX(t:DA):DK:=λρ M q x=>t ρ M (λds M1=>∃d d' xs ys ok RU,ds=[d,d']/\lI M1 d=some (xs,ok)/\lI M1 d'=some (ys,RU)/\q (qp xs ys) (λM=>ok M/\RU M) M1) x
def CV{X:Cx}{R:St->XK}{elts:List Expr}{x1:Nat}{tp:Pos}{a a':Expr}{t:DA}{p pos:Pos}(hm:X.mg "zip"=none)(ha:JA X R [a,a'] t)(hg:Gl X "zip":=by rfl)(hs:starEach [a,a'] X.env=(false,eval a X.env)::starEach [a'] X.env:=by rfl)(gz:(backTo pos (starEach [a'] X.env)).any (·.1)=false:=by rfl):JK X R (.Tuple elts x1 tp) (.Call (.Name "zip" p) [a,a'] [] pos) (WX t):=by
 intro ζ s σ H Q I ⟨G,L,ρ,M,q,x,rl,n,ht,hx,hQ⟩;refine Call_ (mP I hg hm Fw (PyProof.Rows.callWith_type1 (bJ (ha pos ζ s σ H (NK X.K G L H _) I ⟨G,L,ρ,M,_,x,rl,n,ht,hx,λ_ _ f=>f⟩) λus s1 xz=>?_) hs gz));have⟨vs,H1,I1,rv,ds,G1,L1,M1,e1,r1,n1,d,d',xs,ys,ok,RU,ed,hl,WI,h1⟩:=xz;subst ed;have⟨v,v',rfl,n2,n2'⟩:=fW n1;have⟨b,ws,rfl,sq,sr,_⟩:=tV r1 n2 hl;have⟨b',ws',rfl,sq',sr',_⟩:=tV r1 n2' WI;cases rv with
 |cons ru rv=>
  cases rv with
  |cons ru' rv=>
   cases rv;cases ru;cases ru';have⟨its,_,pl,_⟩:=I1.list sq;have⟨its',_,yD,_⟩:=I1.list sq';have lt1:b<s1.heap.objs.size:=by have⟨o,q,_⟩:=pl.isList;exact aat q
   have lt2:b'<s1.heap.objs.size:=by have⟨o,q,_⟩:=yD.isList;exact aat q
   refine call_zip_2 pl.isList yD.isList λh' hz J5 Lj hi qE hsz hk=>?_;have I2:Inv X ζ σ H1 {s1 with heap:=h'}:=I1.kept (t':=s1.toks) hk;have D:ZipApart (s1.heap.objs.size+4) (s1.heap.objs.size+2) (s1.heap.objs.size+3) s1.heap.objs.size (s1.heap.objs.size+1) b b':=by have ne:∀i j:Nat,i≠j->s1.heap.objs.size+i≠s1.heap.objs.size+j:=λi j h z=>h (Nat.add_left_cancel z);have n1:∀i:Nat,b≠s1.heap.objs.size+i:=λi=>aaT (aau lt1 (abW _ _));have n2:∀i:Nat,b'≠s1.heap.objs.size+i:=λi=>aaT (aau lt2 (abW _ _));exact⟨ne 2 4 @_,ne 3 4 @_,ne 0 4 @_,ne 1 4 @_,ne 2 3 @_,ne 2 0 @_,ne 2 1 @_,ne 3 0 @_,ne 3 1 @_,ne 0 1 @_,n1 4,n1 3,n1 0,n1 1,n2 4,n2 3,n2 0,n2 1⟩
   refine wpAny_pyIter_zip (s:={s1 with heap:=h'}) hz ⟨s1.heap.objs.size+4,[s1.heap.objs.size+4,s1.heap.objs.size+2,s1.heap.objs.size+3,s1.heap.objs.size,s1.heap.objs.size+1],_,_,H1,rfl,I2,Jo D,⟨⟨_,_,hz,J5,Lj⟩,hi,qE⟩,λc hc=>?_,hQ _ _ ⟨_,_,G1,L1,M1,e1,r1,MN sr sr',h1⟩⟩;have hc:s1.heap.objs.size<=c:=by
    simp only[List.mem_cons,List.not_mem_nil,or_false]at hc;rcases hc with rfl| rfl| rfl| rfl| rfl
    ·exact abW _ _
    ·exact abW _ _
    ·exact abW _ _
    ·exact aan _
    ·exact abW _ _
   have f:=I1.Bq (H':=H1) hc (I1.aS.fresh hc);exact f
section
variable{X:Cx}{R:St->XK}{elt iter c:Expr}{x y:Str}{px py tp:Pos}{scope:Scope}{pos:Pos}{ti:DK}{tc:DT}{te:DE}{ys:List Str}{af:List Nat}{kk:Nat}
def zS(S:aL X scope [x] ys af)(hi:JK X R (.Name x px) iter ti)(ht:∀C s H fp,JT (Cx.comp X (x::ys) scope C s H fp) (λ_=>E0) c tc)(he:∀C s H fp,JE (Cx.comp X (x::ys) scope C s H fp) (λ_=>E0) elt te)(hc:X.calm=true:=by rfl)(hs:∀x,foldedSetIterable iter X.env x=pure x:=by intro _;rfl):JE X R (.ListComp elt [⟨.Name x px,iter,[c],0⟩] scope pos) (w4 1 ti (gN 0) tc te af):=Up false S hi (hW S (i:=0) rfl) aI (gQ (Nat.zero_lt_succ 0)) (λC s H fp=>D_ (ht C s H fp)) he hc hs λ_ _ _ _ h=>h
def Ik(S:aL X scope [x,y] ys af)(hi:JK X R (.Tuple [.Name x px,.Name y py] kk tp) iter ti)(ht:∀C s H fp,JT (Cx.comp X (x::y::ys) scope C s H fp) (λ_=>E0) c tc)(he:∀C s H fp,JE (Cx.comp X (x::y::ys) scope C s H fp) (λ_=>E0) elt te)(hc:X.calm=true:=by rfl)(hs:∀x,foldedSetIterable iter X.env x=pure x:=by intro _;rfl):JE X R (.ListComp elt [⟨.Tuple [.Name x px,.Name y py] kk tp,iter,[c],0⟩] scope pos) (w4 2 ti (g2 0 1) tc te af):=Up false S hi (DV hc S) oX (vU (Nat.zero_lt_succ 1) (abu 1)) (λC s H fp=>D_ (ht C s H fp)) he hc hs λ_ _ _ _ h=>h
end
def eQ{g:Dt->En->(En->Prop)->Prop}{tc:DT}{te:DE}{ρ0:En}{ok:Ms->Prop}{M:Ms}{k:List Dt->Ms->Prop}(ho:ok M)(b:Dt->Bool)(f:Dt->Dt):∀(xs Η:List Dt),(∀x∈xs,∀(q:DQ) (p:Ms->Prop),(b x=true->q (f x) M)->(b x=false->p M)->g x ρ0 λρ'=>tc ρ' M (λb' M1=>match b' with| true=>te ρ' M1 q lS| false=>p M1) lS)->
  k (Η++(xs.filter b).map f) M->jh g tc te ρ0 ok xs Η M k
 |[],Η,_,h=>⟨ho,by simpa using h⟩
 |x::xs,Η,ht,h=>⟨ho,ht x List.mem_cons_self _ _ (λhb=>eQ ho b f xs _ (λy hy=>ht y (List.mem_cons_of_mem _ hy)) (by simpa [hb] using h)) λhb=>eQ ho b f xs _ (λy hy=>ht y (List.mem_cons_of_mem _ hy)) (by simpa [hb] using h)⟩
def Gz(xs:List V)(k:Nat):uH xs (some (k:Int)) none=xs.drop k:=by
 unfold uH;rw[HT.qP,HT.zM];by_cases h:k<=xs.length
 ·rw[acs h,abT (by rw[abP];omega)]
 ·rw[Nat.min_eq_right (),List.drop_eq_nil_of_le (Nat.le_refl _),List.drop_eq_nil_of_le ()];simp
section
variable{κ:Type} [DecidableEq κ]
def fk(Κ:List (κ×V))(k:κ):Option V:=(Κ.find? λkv=>decide (kv.1=k)).map (·.2)
def iQ(Κ:List (κ×V))(k:κ)(v:V):List (κ×V):=
 if (Κ.any λkv=>decide (kv.1=k))=true then Κ.map (λkv=>if kv.1=k then (kv.1,v) else kv) else Κ++[(k,v)]
def dt{p:κ×V}{r:List (κ×V)}{k:κ}(e:p.1=k):fk (p::r) k=some p.2:=by simp[fk,List.find?_cons,e]
def cN{p:κ×V}{r:List (κ×V)}{k:κ}(e:¬p.1=k):fk (p::r) k=fk r k:=by simp[fk,List.find?_cons,e]
def nB(k:κ):∀Κ:List (κ×V),(Κ.any λkv=>decide (kv.1=k))=(fk Κ k).isSome
 |[]=>rfl
 |p::r=>by
  rw[ab5];by_cases e:p.1=k
  ·simp only[dt e,decide_eq_true e,Bool.true_or,Option.isSome_some]
  ·rw[cN e,aaJ e,Bool.false_or];exact nB k r
def vx(k j:κ)(y:V):∀Κ:List (κ×V),fk Κ k=none->fk (Κ++[(k,y)]) j=if j=k then some y else fk Κ j
 |[],_=>by
  by_cases e:k=j
  ·rw[aax e.symm];exact dt (p:=(k,y)) e
  ·rw[aaw (λz=>e z.symm)];exact cN (p:=(k,y)) e
 |p::r,hn=>by
  rw[List.cons_append];have hk:¬p.1=k:=λz=>by rw[dt z]at hn;cases hn
  rw[cN hk]at hn;have ih:=vx k j y r hn;by_cases e:p.1=j
  ·rw[dt e,dt e,aaw (λz=>hk (e.trans z))]
  ·rw[cN e,cN e,ih]
def kf(Κ:List (κ×V))(k:κ)(v:V):(iQ Κ k v).length<=Κ.length+1:=by
 unfold iQ;split
 ·rw[aac];omega
 ·rw[aah,aaB,List.length_nil];omega
def Je{Κ:List (κ×V)}{k:κ}(v:V)(h:fk Κ k=none):iQ Κ k v=Κ++[(k,v)]:=by unfold iQ;rw[nB,h];exact aaw @_
def jE.jk{o:Option V}{u:Option Value}(r:jE o u):o.isSome=u.isSome:=by
 cases o with
 |none=>cases u with
  |none=>rfl
  |some _=>exact(show False from r).elim
 |some _=>cases u with
  |none=>exact(show False from r).elim
  |some _=>rfl
def jE.getD{o:Option V}{u:Option Value}{d:V}{d':Value}(r:jE o u)(rd:aA d d'):aA (o.getD d) (u.getD d'):=by
 cases o with
 |none=>cases u with
  |none=>exact rd
  |some _=>exact(show False from r).elim
 |some _=>cases u with
  |none=>exact(show False from r).elim
  |some _=>exact r
def KV.val{Κ:List (κ×V)}{vs:List (κ×Value)}(r:KV Κ vs)(k:κ):jE (fk Κ k) (valueAt vs k):=by
 unfold KV at r
 induction r with
 |nil=>exact True.intro
 |@cons p q ps qs h t ih=>
  have⟨h1,h2⟩:=h;by_cases e:p.1=k
  ·have e':q.1=k:=h1.symm.trans e;have b:valueAt (q::qs) k=some q.2:=by simp[valueAt,List.find?_cons,e']
   rw[dt e,b];exact h2
  ·have e':¬q.1=k:=λz=>e (h1.trans z);have b:valueAt (q::qs) k=valueAt qs k:=by simp[valueAt,List.find?_cons,e']
   rw[cN e,b];exact ih
def KV.any{Κ:List (κ×V)}{vs:List (κ×Value)}(r:KV Κ vs)(k:κ):(Κ.any λkv=>decide (kv.1=k))=vs.any λkv=>decide (kv.1=k):=by
 unfold KV at r
 induction r with
 |nil=>rfl
 |cons h t ih=>rw[ab5,ab5,ih,h.1]
def KV.Qs{Κ:List (κ×V)}{vs:List (κ×Value)}(r:KV Κ vs)(k:κ){y:V}{u:Value}(ry:aA y u):
  KV (Κ.map λkv=>if kv.1=k then (kv.1,y) else kv) (vs.map λkv=>if kv.1=k then (kv.1,u) else kv):=by
 unfold KV at r⊢
 induction r with
 |nil=>exact .nil
 |@cons p q ps qs h t ih=>
  rw[aaH,aaH];refine .cons ?_ ih;have⟨h1,h2⟩:=h;by_cases e:p.1=k
  ·rw[aax e,aax (h1.symm.trans e)];exact⟨h1,ry⟩
  ·rw[aaw e,aaw (λz=>e (h1.trans z))];exact⟨h1,h2⟩
def KV.put{Κ:List (κ×V)}{vs:List (κ×Value)}(r:KV Κ vs)(k:κ){y:V}{u:Value}(ry:aA y u):KV (iQ Κ k y) (stored vs k u):=by
 unfold iQ stored;rw[r.any k];by_cases e:(vs.any λkv=>decide (kv.1=k))=true
 ·rw[aax e,aax e];exact r.Qs k ry
 ·rw[aaw e,aaw e];exact Paired.snoc r ⟨rfl,ry⟩
def KV.keys{Κ:List (κ×V)}{vs:List (κ×Value)}(r:KV Κ vs):Κ.map (·.1)=vs.map (·.1):=by
 unfold KV at r
 induction r with
 |nil=>rfl
 |cons h t ih=>rw[aaH,aaH,ih,h.1]
def KV.length{Κ:List (κ×V)}{vs:List (κ×Value)}(r:KV Κ vs):Κ.length=vs.length:=Paired.length r
end
def qk{P:Program}{w:World}{k:Key}{u:Value}(r:aA (kV k) u):(bA P w).is k u=true:=by
 cases k with
 |inl i=>have⟨t,e⟩:=(show∃t,u=Value.int i t from r);subst e;exact As P w i t
 |inr x=>have⟨t,e⟩:=(show∃t,u=Value.str x t from r);subst e;exact yP P w x t
def va{P:Program}{w:World}:∀{ks:List Key}{us:List Value},aF (ks.map kV) us->ItemsAre (bA P w) ks us
 |[],_,r=>by rw[List.map_nil]at r;cases r;exact .nil
 |k::ks,_,r=>by
  rw[aaH]at r;cases r with
  |cons h t=>exact .cons (qk h) (va t)
abbrev KT(H:Hp):List (List Key×V)->List (List Key×Addr×Value)->Prop:=Paired λp q=>p.1=q.1/\H q.2.1=some (.tup (p.1.map kV))/\aA p.2 q.2.2
def KT.val{H:Hp}{Κ:List (List Key×V)}{xs:List (List Key×Addr×Value)}(r:KT H Κ xs)(k:List Key):jE (fk Κ k) ((atKey xs k).map (·.2)):=by
 induction r with
 |nil=>exact True.intro
 |@cons p q ps qs h t ih=>
  have⟨h1,_,h2⟩:=h;by_cases e:p.1=k
  ·have e':q.1=k:=h1.symm.trans e;have b:atKey (q::qs) k=some q.2:=by simp[atKey,List.find?_cons,e']
   rw[dt e,b];exact h2
  ·have e':¬q.1=k:=λz=>e (h1.trans z);have b:atKey (q::qs) k=atKey qs k:=by simp[atKey,List.find?_cons,e']
   rw[cN e,b];exact ih
def KT.Qs{H:Hp}{Κ:List (List Key×V)}{xs:List (List Key×Addr×Value)}(r:KT H Κ xs)(k:List Key){y:V}{u:Value}(ry:aA y u):
  KT H (Κ.map λkv=>if kv.1=k then (kv.1,y) else kv) (xs.map (putAt k u)):=by
 induction r with
 |nil=>exact .nil
 |@cons p q ps qs h t ih=>
  rw[aaH,aaH];refine .cons ?_ ih;have⟨h1,h2,h3⟩:=h;unfold putAt;by_cases e:p.1=k
  ·rw[aax e,aax (h1.symm.trans e)];exact⟨h1,h2,ry⟩
  ·rw[aaw e,aaw (λz=>e (h1.trans z))];exact⟨h1,h2,h3⟩
def KT.put{H:Hp}{Κ:List (List Key×V)}{xs:List (List Key×Addr×Value)}(r:KT H Κ xs)(k:List Key){b:Addr}{y:V}{u:Value}(hb:H b=some (.tup (k.map kV)))(ry:aA y u):
  KT H (iQ Κ k y) (storedH xs k b u):=by
 have e:(Κ.any λkv=>decide (kv.1=k))=(atKey xs k).isSome:=by rw[nB,(r.val k).jk,Option.isSome_map]
 unfold iQ storedH;rw[e];by_cases q:(atKey xs k).isSome=true
 ·rw[aax q,aax q];exact r.Qs k ry
 ·rw[aaw q,aaw q];exact Paired.snoc r ⟨rfl,hb,ry⟩
def KT.keeps{H H':Hp}{Κ:List (List Key×V)}{xs:List (List Key×Addr×Value)}(r:KT H Κ xs)(ht:∀b ys,H b=some (.tup ys)->H' b=some (.tup ys)):KT H' Κ xs:=
 Paired.Rn r λ_ _ z=>⟨z.1,ht _ _ z.2.1,z.2.2⟩
section
variable{P:Program}{w:World}{H:Hp}{h:Heap}{a:Addr}
def NR{u:HO}(ok:lD P w H h)(e:Rd H a u):cn P w H h a u:=e.ok ok
def eW{Κ:List (Key×V)}(ok:lD P w H h)(e:Rd H a (.dK Κ)):Κ.length<=sizeLine/\(a==sysModules)=false/\∃vs,KV Κ vs/\h.DictOf (bA P w) a vs:=
 show cn P w H h a (.dK Κ) from NR ok e
def Eb{Κ:List (Key×V)}(ok:lD P w H h)(e:H a=some (.dK Κ)):Κ.length<=sizeLine/\(a==sysModules)=false/\∃vs,KV Κ vs/\h.DictOf (bA P w) a vs:=eW ok (.inl e)
def pQ{ks:List Key}(ok:lD P w H h)(e:H a=some (.tup (ks.map kV))):(tupleKind (bA P w)).is h ks a:=by have⟨_,its,r,o,h1,h2,n,h3⟩:=(show cn P w H h a (.tup (ks.map kV)) from ok a _ e);exact⟨o,its.toArray,n,h1,h2,h3,by simpa using va r⟩
def sJ{Κ:List (List Key×V)}(ok:lD P w H h)(e:Rd H a (.dT Κ)):Κ.length<=sizeLine/\(a==sysModules)=false/\
  ∃xs,KT H Κ xs/\h.DictOfH (tupleKind (bA P w)) a xs:=by
 have⟨z,y,xs,r,o,es,ep,h1,h2,h3,h4,h5⟩:=(show cn P w H h a (.dT Κ) from NR ok e);refine⟨z,y,xs,r,o,es,ep,h1,h2,h3,h4,λx hx=>?_,h5⟩;have all:∀{l:List (List Key×V)} {m:List (List Key×Addr×Value)},KT H l m->∀x∈m,(tupleKind (bA P w)).is h x.1 x.2.1:=by
  intro l m q
  induction q with
  |nil=>intro x hx;exact nomatch hx
  |@cons p q ps qs hq t ih=>
   intro x hx;rcases aaK.mp hx with e| hx
   ·subst e;exact pQ ok (by rw[<-hq.1];exact hq.2.1)
   ·exact ih x hx
 exact all r x hx
def UN{Κ:List (List Key×V)}(ok:lD P w H h)(e:H a=some (.dT Κ)):Κ.length<=sizeLine/\(a==sysModules)=false/\
  ∃xs,KT H Κ xs/\h.DictOfH (tupleKind (bA P w)) a xs:=sJ ok (.inl e)
end
def sF(H:Hp)(a:Addr)(y:V)(r:Option V):Prop:=
 (∃Κ k,Rd H a (.dK Κ)/\y=kV k/\r=fk Κ k)\/∃Κ k b,Rd H a (.dT Κ)/\y= .ref b/\H b=some (.tup (k.map kV))/\r=fk Κ k
def IQ(H:Hp)(a:Addr)(y v:V)(H':Hp):Prop:=
 (∃Κ k,H a=some (.dK Κ)/\y=kV k/\Κ.length<sizeLine/\H'=upd H a (.dK (iQ Κ k v)))\/
 ∃Κ k b,H a=some (.dT Κ)/\y= .ref b/\H b=some (.tup (k.map kV))/\Κ.length<sizeLine/\H'=upd H a (.dT (iQ Κ k v))
def IQ.k{H:Hp}{a:Addr}{Κ:List (Key×V)}{k:Key}{v:V}(e:H a=some (.dK Κ))(hl:Κ.length<sizeLine):IQ H a (kV k) v (upd H a (.dK (iQ Κ k v))):=.inl ⟨Κ,k,e,rfl,hl,rfl⟩
section
variable{X:Cx}{ζ:List (Addr×Obj)}{σ:St}{H:Hp}{s:Shared}{a:Addr}{y v:V}{u r:Value}{o:Option V}{A:Around}{E:Value->Shared->Prop}
def Inv.big(I:Inv X ζ σ H s):sysModules<s.heap.objs.size:=by have h:mainGlobals<s.heap.objs.size:=(I.mod.glob.keeps I.bk).lt;exact Nat.lt_trans @_ h
def GA{Q:Value->Shared->Prop}(hu:A.units+1<cLine)(I:Inv X ζ σ H s)(g:sF H a y (some v))(ry:aA y u)(h:∀w' s',Inv X ζ σ H s'->aA v w'->Q w' s'):
  wpAny (model X.prog X.w) A (getItem (.ref a) u) Q E s:=by
 rcases g with ⟨Κ,k,e,ey,l⟩| ⟨Κ,k,b,e,ey,eb,l⟩
 ·subst ey;have⟨z,hd,vs,rel,dd⟩:=eW I.aS e;have⟨w',hw,Cj⟩:=jE.some_of (v:=v) (o:=valueAt vs k) (by rw[l];exact rel.val k);exact wpAny_getItem_of (qk ry) dd.mapOf hw (h w' _ (I.tok _) Cj)
 ·subst ey;cases(show u=Value.ref b from ry);have⟨z,hd,xs,rel,dd⟩:=sJ I.aS e;have⟨w',hw,Cj⟩:=jE.some_of (v:=v) (o:=(atKey xs k).map (·.2)) (by rw[l];exact rel.val k);have⟨p,hp,SX⟩:=abU.mp hw;refine wpAny_getItem_heap (tupleKind_room_in1 hu) (pQ I.aS eb) dd hp ?_;rw[SX];exact h w' _ (I.tok _) Cj
def Zb{Q:Value->Shared->Prop}(hu:A.units+1<cLine)(I:Inv X ζ σ H s)(g:sF H a y o)(ry:aA y u)(h:∀s',Inv X ζ σ H s'->Q (.bool o.isSome) s'):
  wpAny (model X.prog X.w) A (compareOp .In u (.ref a)) Q E s:=by
 rcases g with ⟨Κ,k,e,ey,l⟩| ⟨Κ,k,b,e,ey,eb,l⟩
 ·subst ey;have⟨z,hd,vs,rel,dd⟩:=eW I.aS e;refine wpAny_in_of (qk ry) hd dd.mapOf ?_;rw[<-(rel.val k).jk,<-l];exact h _ (I.tok _)
 ·subst ey;cases(show u=Value.ref b from ry);have⟨z,hd,xs,rel,dd⟩:=sJ I.aS e;refine wpAny_in_heap (tupleKind_room_in1 hu) (pQ I.aS eb) hd dd ?_;have q:=(rel.val k).jk;rw[Option.isSome_map]at q;rw[<-q,<-l];exact h _ (I.tok _)
def MW{Q:Value->Shared->Prop}(hu:A.units+1<cLine)(I:Inv X ζ σ H s)(g:sF H a y o)(ry:aA y u)(h:∀s',Inv X ζ σ H s'->Q (.bool (!o.isSome)) s'):
  wpAny (model X.prog X.w) A (compareOp .NotIn u (.ref a)) Q E s:=by
 rcases g with ⟨Κ,k,e,ey,l⟩| ⟨Κ,k,b,e,ey,eb,l⟩
 ·subst ey;have⟨z,hd,vs,rel,dd⟩:=eW I.aS e;refine wpAny_notIn_of (qk ry) hd dd.mapOf ?_;rw[<-(rel.val k).jk,<-l];exact h _ (I.tok _)
 ·subst ey;cases(show u=Value.ref b from ry);have⟨z,hd,xs,rel,dd⟩:=sJ I.aS e;refine wpAny_notIn_heap (tupleKind_room_in1 hu) (pQ I.aS eb) hd dd ?_;have q:=(rel.val k).jk;rw[Option.isSome_map]at q;rw[<-q,<-l];exact h _ (I.tok _)
def qN{h':Heap}{t':Nat}{ob:HO}(I:Inv X ζ σ H s)(mu:RN (H a))(hs:Heap.SameBut a s.heap h')(he:∃q,h'.get? a=some q)(new:cn X.prog X.w (upd H a ob) h' a ob):
  Inv X ζ σ (upd H a ob) {s with heap:=h',toks:=t'}:=
 I.write (x:=a) (e:=a) mu (.inl rfl) (λb q hb z=>(hs.2 b hb).trans z) he new
def sA{P:Program}{w:World}{H':Hp}{h':Heap}{Κ:List (Key×V)}{vs:List (Key×Value)}(z:Κ.length<=sizeLine)(hd:(a==sysModules)=false)(rel:KV Κ vs)(dd:h'.DictOf (bA P w) a vs):
  cn P w H' h' a (.dK Κ):=⟨z,hd,vs,rel,dd⟩
def Gk{H':Hp}{Q:Unit->Shared->Prop}(hu:A.units+1<cLine)(I:Inv X ζ σ H s)(g:IQ H a y v H')(ry:aA y u)(rv:aA v r)(h:∀s',Inv X ζ σ H' s'->Q Unit.unit s'):
  wpAny (model X.prog X.w) A (setItem (.ref a) u r) Q E s:=by
 rcases g with ⟨Κ,k,e,ey,l,eH⟩| ⟨Κ,k,b,e,ey,eb,l,eH⟩
 ·subst ey eH;have⟨z,hd,vs,rel,dd⟩:=Eb I.aS e;have hz:vs.length<=sizeLine:=by rw[<-rel.length];exact z
  have hl:(iQ Κ k v).length<=sizeLine:=by have:=kf Κ k v;omega
  refine wpAny_setItem_pairs (hsz:=hz) (qk ry) dd λh' LL hs=>h _ ?_;have he:∃q,h'.get? a=some q:=let ⟨q,_,_,hq,_⟩:=LL;⟨q,hq⟩
  exact qN I (by rw[e];exact True.intro) hs he (sA hl hd (rel.put k rv) LL)
 ·subst ey eH;cases(show u=Value.ref b from ry);have⟨z,hd,xs,rel,dd⟩:=UN I.aS e;have hz:xs.length<=sizeLine:=by rw[<-Paired.length rel];exact z
  have hl:(iQ Κ k v).length<=sizeLine:=by have:=kf Κ k v;omega
  refine wpAny_setItem_heap (hsz:=hz) (tupleKind_room_in1 hu) (pQ I.aS eb) dd λh' LL hs=>h _ ?_;have⟨q,es,ep,hq,h2,h3,h4,_,h5⟩:=LL;refine qN I (by rw[e];exact True.intro) hs ⟨q,hq⟩ ⟨hl,hd,_,(rel.put k eb rv).keeps λc ys ec=>?_,q,es,ep,hq,h2,h3,h4,h5⟩;rw[Μ (Tv ec e (λz=>nomatch z))];exact ec
end
section
variable{X:Cx}{ζ:List (Addr×Obj)}{σ:St}{H:Hp}{s:Shared}{a:Addr}{Κ:List (Key×V)}{k:Key}{u:Value}{A:Around}{E:Value->Shared->Prop}
def Tu{Q:Value->Shared->Prop}(I:Inv X ζ σ H s)(e:Rd H a (.dK Κ))(h:∀t s',Inv X ζ σ H s'->Q (.int Κ.length t) s'):wpAny (model X.prog X.w) A (call (.builtin "len") [.ref a]) Q E s:=by have⟨z,hd,vs,rel,dd⟩:=eW I.aS e;refine call_len_dict hd dd (by rw[<-rel.length];rw[sizeLine_eq]at z;omega) ?_;rw[<-rel.length];exact h _ _ (I.tok _)
end
def C8(i:Expr):Prop:=∀ov iv,subscripted i false ov iv=operate [ov,iv] (getItem ov iv)
def xD{prog:Program}{w:World}{A:Around}{E:Value->Shared->Prop}{s:Shared}{env:Env}{value slice:Expr}{pos:Pos}{T id:String}{Q:Value->Shared->Prop}
  (hl:typeLookup (.type T) "__getitem__"=pure (some (.builtin id))) (hs:C8 slice)
  (h:wpAny (model prog w) A (eval value env) (λo s₁=>wpAny (model prog w) A (eval slice env) (λi s₂=>s₂.TypeIs o T/\wpAny (model prog w) A (getItem o i) Q E s₂) E s₁) E s):
  wpAny (model prog w) A (eval (.Subscript value slice pos) env) Q E s:=by
 refine Subscript_ (ab7 h (λo s₁ h₁=>ab7 h₁ (λi s₂ h₂=>?_) λ_ _ x=>x) λ_ _ x=>x);have⟨hT,h₂⟩:=h₂;unfold subscriptTail;refine aam ?_;rw[getitemInPython_of_ne hT.not_modules];refine aam (wpAny_specialOf hT hl ?_);have fin:wpAny (model prog w) A (subscripted slice false o i) (λr s₃=>wpAny (model prog w) A (letTemporaryGo value o r >>= λ_=>pure r) Q E s₃) E s₂:=by rw[hs o i];exact wpAny_operating (ab7 h₂ (λr s₃ h₃=>aam (wpAny_letTemporaryGo (aaR h₃))) λ_ _ x=>x)
 first
  |exact aaR (aam fin)
  |exact aam (aaR (aam fin))
  |exact aam fin
def Aq{X:Cx}{ζ:List (Addr×Obj)}{σ:St}{H:Hp}{s:Shared}{a:Addr}{y:V}{o:Option V}(I:Inv X ζ σ H s)(g:sF H a y o):s.TypeIs (.ref a) "dict":=by
 rcases g with ⟨Κ,k,e,_,_⟩| ⟨Κ,k,b,e,_,_,_⟩
 ·have⟨_,_,vs,_,dd⟩:=eW I.aS e;exact dd.typeIs
 ·have⟨_,_,xs,_,dd⟩:=sJ I.aS e;exact dd.typeIs
def SH(td ty:TE):TE:=λσ H Q=>td σ H λx H1=>ty σ H1 λy H2=>∃a v,x= .ref a/\sF H2 a y (some v)/\Q v H2
def U3(td ty tv:TE):TS:=λD σ H=>tv σ H λv H1=>td σ H1 λx H2=>ty σ H2 λy H3=>∃a H4,x= .ref a/\IQ H3 a y v H4/\D.nx σ H4
section
variable{X:Cx}{o i e value:Expr}{pos pos' uA:Pos}{td ty tv:TE}
def LD(hu:X.A.units+1<cLine)(ho:PE X o td)(hi:PE X i ty)(hs:C8 i):PE X (.Subscript o i pos) (SH td ty):=by intro ζ s σ H Q I h;refine xD ace.lookup hs (bJ (ho ζ s σ H _ I h) fun u s1 ⟨x,H1,I1,rx,q1⟩=>bJ (hi ζ s1 σ H1 _ I1 q1) λiv s2 xz=>?_);have⟨y,H2,I2,ry,a,v,ex,g,q2⟩:=xz;subst ex;obtain rfl:u=Value.ref a:=rx;exact⟨Aq I2 g,GA hu I2 g ry λw' s3 I3 Cj=>⟨v,H2,I3,Cj,q2⟩⟩
def M6(hu:X.A.units+1<cLine)(ho:PE X o td)(hi:PE X i ty)(hv:PE X value tv)(hs:swapsWith value (some (.Subscript o i pos')) pos.line X.env=pure false):
  PS X (.Assign [.Subscript o i pos'] value pos) (U3 td ty tv):=by
 intro ζ s σ H D I h;refine wpAny_Assign_Subscript (bJ (hv ζ s σ H _ I h) fun r s1 ⟨v,H1,I1,rv,q1⟩=>bJ (ho ζ s1 σ H1 _ I1 q1) fun u s2 ⟨x,H2,I2,rx,q2⟩=>bJ (hi ζ s2 σ H2 _ I2 q2) λiv s3 xz=>?_) hs;have⟨y,H3,I3,ry,a,H4,ex,g,q3⟩:=xz;subst ex;obtain rfl:u=Value.ref a:=rx;exact Gk hu I3 g ry rv λs4 I4=>⟨σ,H4,I4,q3⟩
end
def yI{P:Program}{w:World}{H:Hp}(h:Heap)(hb:sysModules<h.objs.size):cn P w H (h.push {cls:=.type "dict",data:=.dict #[]}) h.objs.size (.dK []):=
 ⟨ab9 _,beq_eq_false_iff_ne.mpr (Ne.symm (aaT hb)),[],.nil,Heap.DictOf.new h⟩
def Qa:TE:=λ_ H Q=>∀p,H p=none->Q (.ref p) (upd H p (.dK []))
section
variable{X:Cx}{pos:Pos}
def IA:PE X (.Dict [] [] pos) Qa:=λζ s σ H Q I h=>
 wpAny_Dict_empty ⟨.ref s.heap.objs.size,_,I.laid (a:=s.heap.objs.size) (o:=.dK []) (t':=s.toks) (λ_ _ q=>aal _ q) (aan _) (yI s.heap I.big),rfl,h _ (I.aS.fresh (aan _))⟩
end
def Cw:List (TE×TE)->St->Hp->(List (V×V)->Hp->Prop)->Prop
 |[],_,H,Q=>Q [] H
 |(tk,tv)::r,σ,H,Q=>tk σ H λx H1=>tv σ H1 λy H2=>Cw r σ H2 λps H3=>Q ((x,y)::ps) H3
abbrev VV:List (V×V)->List (Value×Value)->Prop:=Paired λp q=>aA p.1 q.1/\aA p.2 q.2
def Wf(X:Cx)(pos:Pos)(keys:List (Option Expr))(values:List Expr)(LI:List (TE×TE)):Prop:=
 ∀(ζ:List (Addr×Obj)) (s:Shared) (σ:St) (H:Hp) (Q:List (V×V)->Hp->Prop),Inv X ζ σ H s->Cw LI σ H Q->
  wpAny (model X.prog X.w) X.A (evalPairs (pairTrees keys values X.env pos)) (λvs s'=>∃ps H',Inv X ζ σ H' s'/\VV ps vs/\Q ps H') X.xe s
def xi{X:Cx}{pos:Pos}:Wf X pos [] [] []:=λζ s σ H Q I h=>pairTrees_nil_walk ⟨[],H,I,.nil,h⟩
def kT{X:Cx}{pos:Pos}{k v:Expr}{ks:List (Option Expr)}{vs:List Expr}{tk tv:TE}{LI:List (TE×TE)}(hk:PE X k tk)(hv:PE X v tv)(hr:Wf X pos ks vs LI):
  Wf X pos (some k::ks) (v::vs) ((tk,tv)::LI):=λζ s σ H Q I h=>
 pairTrees_cons_walk (bJ (hk ζ s σ H _ I h) fun u s1 ⟨x,H1,I1,rx,q1⟩=>bJ (hv ζ s1 σ H1 _ I1 q1) fun w2 s2 ⟨y,H2,I2,ry,q2⟩=>
  bJ (hr ζ s2 σ H2 _ I2 q2) λws s3 ⟨ps,H3,I3,rel,q3⟩=>⟨(x,y)::ps,H3,I3,.cons ⟨rx,ry⟩ rel,q3⟩)
def iO(Κ more:List (Key×V)):List (Key×V):=more.foldl (λΗ kv=>iQ Η kv.1 kv.2) Κ
def KV.merge:∀{more:List (Key×V)}{rs:List (Key×Value)}{Κ:List (Key×V)}{vs:List (Key×Value)},KV more rs->KV Κ vs->KV (iO Κ more) (merged vs rs):=by
 intro more rs Κ vs r;unfold KV at r
 induction r generalizing Κ vs with
 |nil=>intro q;exact q
 |@cons p q ps qs h t ih=>
  intro r0;have e:KV (iQ Κ p.1 p.2) (stored vs q.1 q.2):=by have:=r0.put p.1 h.2;rw[<-h.1];exact this
  exact ih e
def iF:∀(more Κ:List (Key×V)),(iO Κ more).length<=Κ.length+more.length
 |[],Κ=>by show Κ.length<=Κ.length+0;omega
 |p::r,Κ=>by have h1:=iF r (iQ Κ p.1 p.2);have h2:=kf Κ p.1 p.2;show(iO (iQ Κ p.1 p.2) r).length<=_;rw[aaB];omega
def rz{P:Program}{w:World}:∀{Κ:List (Key×V)}{ws:List (Value×Value)},VV (Κ.map λkv=>(kV kv.1,kv.2)) ws->∃rs,Carries (bA P w) ws rs/\KV Κ rs
 |[],_,r=>by rw[List.map_nil]at r;cases r;exact⟨[],True.intro,.nil⟩
 |p::Κ,_,r=>by
  rw[aaH]at r;cases r with
  |@cons a b as bs h t=>
   have⟨rs,c,q⟩:=rz (P:=P) (w:=w) t;have⟨b1,b2⟩:=b;exact⟨(p.1,b2)::rs,⟨qk h.1,rfl,c⟩,.cons ⟨rfl,h.2⟩ q⟩
def UO(LI:List (TE×TE)):TE:=λσ H Q=>∀p,H p=none->Cw LI σ (upd H p (.dK [])) λps H2=>H2 p=some (.dK [])/\∃Κ:List (Key×V),ps=Κ.map (λkv=>(kV kv.1,kv.2))/\Κ.length<=15/\Q (.ref p) (upd H2 p (.dK (iO [] Κ)))
def yx{X:Cx}{pos:Pos}{keys:List (Option Expr)}{values:List Expr}{LI:List (TE×TE)}(h:Wf X pos keys values LI)(za:keys.all (·.isSome)=true)(hl:keys.length=values.length)(h0:keys≠[])
  (h15:keys.length<=15):PE X (.Dict keys values pos) (UO LI):=by
 intro ζ s σ H Q I q;have hn:=I.aS.fresh (aan s.heap.objs.size);have I1:=I.laid (a:=s.heap.objs.size) (o:=.dK []) (h':=s.heap.push {cls:=.type "dict",data:=.dict #[]}) (t':=s.toks) (λ_ _ q=>aal _ q) (aan _) (yI s.heap I.big);refine wpAny_Dict_walk (knd:=bA X.prog X.w) za hl h0 h15 (bJ (h ζ _ σ _ _ I1 (q _ hn)) λws s2 xz=>?_);have⟨ps,H2,I2,rel,e,Κ,ep,lk,q2⟩:=xz;subst ep;have⟨rs,c,rk⟩:=rz (P:=X.prog) (w:=X.w) rel;have⟨z,hd,vs0,r0,dd⟩:=Eb I2.aS e;cases r0;refine⟨rs,c,dd,λh' LL hs=>⟨.ref s.heap.objs.size,_,?_,rfl,q2⟩⟩;have hz:(iO [] Κ).length<=sizeLine:=by have h1:=iF Κ [];rw[List.length_nil]at h1;rw[sizeLine_eq];omega
 have he:∃q,h'.get? s.heap.objs.size=some q:=let ⟨q,_,_,hq,_⟩:=LL;⟨q,hq⟩
 exact qN I2 (by rw[e];exact True.intro) hs he (sA hz hd (rk.merge .nil) LL)
structure M1(X:Cx)(o:Expr)(m:Str)(apos:Pos)(e:Expr)(cD:Pos):Prop where
 base:attributeBase o m X.env (eval o X.env)=eval o X.env
 few:((backTo cD (starEach [e] X.env)).all (λx=> !x.1)&&(backToKw cD (keywordEach [] X.env)).all (λx=>x.1.isSome)
  &&decide (([e]:List Expr).length+([]:List Keyword).length+(if ([]:List Keyword).isEmpty then 0 else 1)<30))=true
 line:(apos.endLine==cD.line)=true
 trees:backTo cD (starEach [e] X.env)=[(false,eval e X.env)]
def Zm(H:Hp)(a:Addr):Prop:=(∃Κ,Rd H a (.dK Κ))\/∃Κ,Rd H a (.dT Κ)
def Jp{X:Cx}{ζ:List (Addr×Obj)}{σ:St}{H:Hp}{s:Shared}{a:Addr}(I:Inv X ζ σ H s)(d:Zm H a):
  s.TypeIs (.ref a) "dict"/\(∀b,Value.ref a= .ref b->∃ob,s.heap.get? b=some ob/\ob.dict=none)/\(a==sysModules)=false:=by
 rcases d with ⟨Κ,e⟩| ⟨Κ,e⟩
 ·have⟨_,hd,vs,_,dd⟩:=eW I.aS e;refine⟨dd.typeIs,λb q=>?_,hd⟩;cases q;have⟨ob,_,_,h1,h2,_⟩:=dd;exact⟨ob,h1,h2.2.1⟩
 ·have⟨_,hd,xs,_,dd⟩:=sJ I.aS e;refine⟨dd.typeIs,λb q=>?_,hd⟩;cases q;have⟨ob,_,_,h1,h2,_⟩:=dd;exact⟨ob,h1,h2.2.1⟩
section
variable{X:Cx}{ζ:List (Addr×Obj)}{σ:St}{H:Hp}{s:Shared}{a:Addr}{y d:V}{u r:Value}{o:Option V}{A:Around}{E:Value->Shared->Prop}
def QU{Q:Value->Shared->Prop}(hu:A.units+1<cLine)(I:Inv X ζ σ H s)(g:sF H a y o)(ry:aA y u)(h:∀w' s',Inv X ζ σ H s'->aA (o.getD .bj) w'->Q w' s'):
  wpAny (model X.prog X.w) A (call (.builtin "dict.get") [.ref a,u]) Q E s:=by
 rcases g with ⟨Κ,k,e,ey,l⟩| ⟨Κ,k,b,e,ey,eb,l⟩
 ·subst ey;have⟨z,hd,vs,rel,dd⟩:=eW I.aS e;refine call_meetsIn PySem.F.slot_dict_get dd.typeIs PySem.F.entry_dict_get (PySem.F.args_dict_get_2 _ _) (meets_dict_get (bA X.prog X.w) a (qk ry) hd) ⟨_,dd.mapOf,h _ _ (I.tok _) ?_⟩;rw[l];exact(rel.val k).getD rfl
 ·subst ey;cases(show u=Value.ref b from ry);have⟨z,hd,xs,rel,dd⟩:=sJ I.aS e;refine call_meetsIn PySem.F.slot_dict_get dd.typeIs PySem.F.entry_dict_get (PySem.F.args_dict_get_2 _ _) (meetsH_dict_get (tupleKind (bA X.prog X.w)) a b hd) ⟨tupleKind_room_in1 hu,k,xs,pQ I.aS eb,dd,h _ _ (I.tok _) ?_⟩;rw[l];exact(rel.val k).getD rfl
end
def O_(td ty:TE):TE:=λσ H Q=>td σ H λx H1=>∃a,x= .ref a/\Zm H1 a/\ty σ H1 λy H2=>∃o,sF H2 a y o/\Q (o.getD .bj) H2
section
variable{X:Cx}{o e f:Expr}{apos cD:Pos}{td ty tx:TE}
def Jx(hu:X.A.units+1<cLine)(ho:PE X o td)(he:PE X e ty)(m:M1 X o "get" apos e cD):PE X (.Call (.Attribute o "get" apos) [e] [] cD) (O_ td ty):=by intro ζ s σ H Q I h;refine wpAny_Call_method m.base m.few m.line PySem.F.plainAttrs_dict PySem.F.slot_dict_get PySem.F.type_dict_get (bJ (ho ζ s σ H _ I h) λu s1 xz=>?_);have⟨x,H1,I1,rx,a,ex,d,q1⟩:=xz;subst ex;obtain rfl:u=Value.ref a:=rx;have⟨t1,t2,_⟩:=Jp I1 d;refine⟨t1,t2,?_⟩;rw[m.trees];refine Calls.callWith_builtin rfl (Calls.evalArgs_plain (Calls.spliced_cons (bJ (he ζ s1 σ H1 _ I1 q1) fun iv s2 ⟨y,H2,I2,ry,ov,g,q2⟩=>Calls.spliced_nil ?_)));exact QU hu I2 g ry λw' s3 I3 Cj=>⟨_,H2,I3,Cj,q2⟩
end
section
variable{X:Cx}{ζ:List (Addr×Obj)}{σ:St}{H:Hp}{s:Shared}{a:Addr}{Κ:List (Key×V)}{A:Around}{E:Value->Shared->Prop}
def Kw{Q:Value->Shared->Prop}(I:Inv X ζ σ H s)(e:Rd H a (.dK Κ))(h:∀p s',H p=none->Inv X ζ σ (upd H p (.dK Κ)) s'->Q (.ref p) s'):wpAny (model X.prog X.w) A (call (.type "dict") [.ref a]) Q E s:=by have⟨z,hd,vs,rel,dd⟩:=eW I.aS e;refine kt_call_dict hd dd (by rw[<-rel.length];exact z) λh' LL hs=>?_;refine h _ _ (I.aS.fresh (aan _)) (I.laid (a:=s.heap.objs.size) (o:=.dK Κ) (t':=s.toks) (λb q hq=>?_) (aan _) (sA z (beq_eq_false_iff_ne.mpr (Ne.symm (aaT I.big))) rel LL));exact(hs.2 b (aaT (aat hq))).trans (aal _ hq)
end
end L2
namespace Att
open PySem PySem.W PySem.Calls PyProof.Rows
end Att
namespace L2
open PySem PySem.Spec PyProof.Rows
end L2
/- THE Xj Mg (shape;LID,My.* are TH):
  My.Adr:a structure of Mv addresses ZO Xi Ux names (classes,Gn);My.Txt K t:a structure (Prop) of Mv equations qF K;
  My.Ct:{K} {implicit addresses ..} (e1:nsIn K mainGlobals "law"=some (some (.ref f))) (e2:K.lookup f=some ⟨oc,od,.func (fnOf "law" "law" params body scope dV kV doc pm an bz ct),sl⟩) (e3:codeIn K bz "law"=true) .. :∃t,My.Txt K t
set_option maxRecDepth 100000 in
set_option maxHeartbeats 0 in
def PySem.Challenge.cw_LID_holds : PySem.Challenge.rw_LID.Holds := by
 w_on;o_law;k_head;(case hw=>w_witness2)
 k_fill
 refine L2.xW (l:=PySem.Challenge.rw_LID) (n:=63) (k:=40) (x:="script") (CX:=fun w=>..) (sp:=fun _=>My.P2) rfl @_ rfl ⟨rfl,@_,@_⟩ (fun w h Y=>PySem.W.kIn_of Y) ?F ?S ?C
 case F=>
  intro w mg fa h KX G LC;have T:∃t,My.Txt (L2.YK KX) t:=by
   dsimp only[L2.YK]
   refine' My.Ct ?e1 ?e2 ?e3 ..
   (case e1=>PySem.W.k_is)
   (case e2=>PySem.W.k_is)
   ..
  have⟨t,T⟩:=T;have e0:=LC.symm.trans (PySem.W.mg_of KX G T.law);cases e0;exact⟨_,λs u=>.of_eq rfl,λbase kb nb=>My.BO T kb nb⟩
 case S=>exactλw H a ns hl hO hS=>..
 case C=>exact ..
(Mv tactic k_is has no namespace:write k_is) -/
namespace L2
open PySem PySem.Spec PyProof.Rows
section
variable{X:Cx}
def EY:dU X (.builtin "len") (λxs H Q=>∃a Κ,xs=[V.ref a]/\H a=some (.dK Κ)/\Q (.int Κ.length) H):=by intro ζ s σ H xs us Q I r h;have⟨a,Κ,rfl,ha,q⟩:=h;have⟨u,rfl,ru⟩:=kU r;cases ru;exact Tu I (.inl ha) λt s' I'=>⟨.int Κ.length,H,I',⟨t,rfl⟩,q⟩
end
variable{X:Cx}{G:Hp}{L:List Addr}{d:Dt}{v:V}{pos p apos:Pos}{R:St->XK}{o i e tg:Expr}{to ti te ta tb:DE}{k' n:Nat}{ζ:List (Addr×Obj)}{σ:St}{s:Shared}{b c:Bool}{M:Ms}{ds:List Dt}{vs:List V}{a:Addr}{t:DA}{A:Around}{prog P:Program}{w:World}{E Q:Value->Shared->Prop}{Κ:List (Key×V)}{scope:Scope}{ys:List Str}{af:List Nat}{ks:List Key}
def rG:Dt->Option Key
 |.int i=>some (.inl i)
 |.str z=>some (.inr z)
 |_=>none
def aH(ks:List Key)(ds:List Dt)(k:Key):Option Dt:=((ks.zip ds).find? λp=>decide (p.1=k)).map (·.2)
def gB{K:fI}{k:Key}(h:rG d=some k)(n:Den K G L d v):v=kV k:=by
 cases d with
 |int i=>cases h;exact n
 |str z=>cases h;exact n
 |_=>cases h
def kX{K:fI}{G:Hp}{L:List Addr}{k:Key}:∀{ks:List Key}{ds:List Dt}{vs:List V}{d:Dt},Ψ K G L ds vs->aH ks ds k=some d->∃v,fk (ks.zip vs) k=some v/\Den K G L d v
 |[],_,_,_,_,h=>by cases h
 |_::_,[],_,_,_,h=>by cases h
 |c::ks,d0::ds,_,d,⟨v0,vs,e,n0,n⟩,h=>by
  subst e;rw[abd];by_cases hc:c=k
  ·have h':aH (c::ks) (d0::ds) k=some d0:=by unfold aH;rw[List.zip_cons_cons,List.find?_cons_of_pos (by simpa using hc)];rfl
   rw[h']at h;cases h;exact⟨v0,dt hc,n0⟩
  ·have h':aH (c::ks) (d0::ds) k=aH ks ds k:=by unfold aH;rw[List.zip_cons_cons,List.find?_cons_of_neg (by simpa using hc)]
   rw[h']at h;have⟨v,h1,h2⟩:=kX n h;exact⟨v,by rw[cN hc];exact h1,h2⟩
def JD(to ti:DE):DE:=λρ M q x=>to ρ M (λd M1=>ti ρ M1 (λdi M2=>∃k ks ds key v,d= .loc k/\M2[k]? =some (.bX ks ds)/\rG di=some key/\aH ks ds key=some v/\q v M2) x) x
def lj:∀(more Η:List (Key×V)),(∀p∈more,fk Η p.1=none)->(more.map (·.1)).Nodup->iO Η more=Η++more
 |[],Η,_,_=>by show Η=Η++[];rw[aa7]
 |p::more,Η,h,nd=>by
  show iO (iQ Η p.1 p.2) more=_;rw[Je p.2 (h p aae),lj more _ (λq hq=>?_) (abC.mp nd).2]
  ·simp
  ·have e:=vx p.1 q.1 p.2 Η (h p aae);rw[show(Η++[(p.1,p.2)])=Η++[(p.1,p.2)] from rfl,e,aaw]
   ·exact h q (aad _ hq)
   ·intro z;exact(abC.mp nd).1 (aaj.mpr ⟨q,hq,z⟩)
def tCs(z:Str):TE:=λ_ H Q=>Q (.str z) H
def pcs{z:Str}{k:Nat}:PE X (.Constant (.str z) k pos) (tCs z):=HG
section
def gh(hr:bT k' X.A)(ho:JE X R o to)(hi:JE X R i ti)(hs:C8 i:=by intro _ _;rfl):JE X R (.Subscript o i pos) (JD to ti):=
 .of (LD (vL hr) ho hi hs) λσ H G L ρ M q x rl n h hx=>by refine⟨G,L,ρ,M,_,x,rl,n,h,hx,λv H1 xz=>?_⟩;have⟨d1,G1,L1,M1,e1,r1,n1,h1⟩:=xz;refine⟨G1,L1,ρ,M1,_,x,r1,n.mono e1,h1,hx.on e1,λv2 H2 xz=>?_⟩;have⟨d2,G2,L2,M2,e2,r2,n2,k,ks,ds,key,y,ed,hm,hk,hg,h2⟩:=xz;subst ed;have⟨a,rfl,yB⟩:=n1;have zq:=e2.l.get yB;have⟨_,vs,hH,hl,dn⟩:=r2.eP k a _ zq hm;have⟨u,hu,du⟩:=kX dn hg;refine⟨a,u,rfl,.inl ⟨_,key,.inl hH,gB hk n2,hu.symm⟩,fin_same (e1.trans e2) r2 du h2⟩
end
structure RB(K:fI)(w:World)(mg:Str->Option Value)(x:Str)(tab:List (Str×Str)):Prop where
 ex:∃a es n,mg x=some (.ref a)/\K.lookup a=some ⟨.type "dict",none,.dict es n,#[]⟩/\PySem.W.KeysLit w.params es.toList/\∀z y,tab.lookup z=some y->∃tk,PySem.W.nsIn K a z=some (some (.str y tk))
def R1(tab:List (Str×Str))(ti:DE):DE:=λρ M q x=>ti ρ M (λd M1=>∃z y,d= .str z/\tab.lookup z=some y/\q (.str y) M1) x
def Zw(tab:List (Str×Str))(ti:TE):TE:=λσ H Q=>ti σ H λv H1=>∃z y,v= .str z/\tab.lookup z=some y/\Q (.str y) H1
section
variable{x:Str}{tab:List (Str×Str)}
def PC{ti:TE}(T:RB X.K X.w X.mg x tab)(hi:PE X i ti)(hs:C8 i)(hg:Gl X x)(oy:(x==("__debug__":Str))=false):PE X (.Subscript (.Name x p) i pos) (Zw tab ti):=by have⟨a,es,n,hm,hl,hk,ht⟩:=T.ex;intro ζ s σ H Q I h;refine xD ace.lookup hs (qG I hg hm ?_ oy);refine bJ (hi ζ s σ H _ I h) λiv s2 xz=>?_;have⟨v,H2,I2,rv,z,y,ev,hy,q2⟩:=xz;subst ev;have⟨t,rfl⟩:=rv;have⟨tk,hn⟩:=ht z y hy;have hM:=PySem.W.mapOf_K (prog:=X.prog) (w:=X.w) I2.qa hl hk;exact⟨hM.typeIs,wpAny_getItem_of (strKind_is X.prog X.w z t) hM (PySem.W.find_K hl hn) ⟨.str y,H2,I2.tok _,⟨tk,rfl⟩,q2⟩⟩
def S_(T:RB X.K X.w X.mg x tab)(hi:JE X R i ti)(hs:C8 i:=by intro _ _;rfl)(hg:Gl X x:=by rfl)(oy:(x==("__debug__":Str))=false:=by decide):JE X R (.Subscript (.Name x p) i pos) (R1 tab ti):=
 .of (PC T hi hs hg oy) λσ H G L ρ M q x rl n h hx=>by refine⟨G,L,ρ,M,_,x,rl,n,h,hx,λv H1 xz=>?_⟩;have⟨d1,G1,L1,M1,e1,r1,n1,z,y,ed,hy,h1⟩:=xz;subst ed;exact⟨z,y,n1,hy,bB e1 r1 h1⟩
end
inductive HA(K:fI)(H:Hp):Nat->V->V->Bool->Prop
 |flat {n:Nat} {x y:V} (h1:dX x=true) (h2:dX y=true):HA K H n x y (qo x y)
 |tup {n:Nat} {a b:Addr} {xs ys:List V} {f:Nat->Bool} (h1:nZ K H a xs) (h2:nZ K H b ys) (h:∀j x y,xs[j]? =some x->ys[j]? =some y->HA K H n x y (f j)):HA K H (n+1) (.ref a) (.ref b) ((List.range (min xs.length ys.length)).all f&&xs.length==ys.length)
 |lst {n:Nat} {a b:Addr} {xs ys:List V} {f:Nat->Bool} (h1:gK K H a xs) (h2:gK K H b ys) (hl:xs.length=ys.length) (h:∀j x y,xs[j]? =some x->ys[j]? =some y->HA K H n x y (f j)):HA K H (n+1) (.ref a) (.ref b) ((List.range xs.length).all f)
 |len {n:Nat} {a b:Addr} {xs ys:List V} (h1:gK K H a xs) (h2:gK K H b ys) (hl:xs.length≠ys.length):HA K H (n+1) (.ref a) (.ref b) false
def yU{x:V}(h:dX x=true):qo x x=true:=by cases x <;> first| rfl| (show(_==_)=true;simp)| cases h
section
variable{H:Hp}
def Ar(I:Inv X ζ σ H s){x y:V}(h:HA X.K H n x y b):x=y->b=true:=by
 induction h with
 |flat h1 h2=>intro e;subst e;exact yU h1
 |@tup n a b xs ys f h1 h2 h ih=>
  intro e;cases e;cases I.vp h1 h2;rw[acn,beq_self_eq_true,Bool.and_true];refine abw.mpr λj hj=>?_;have hj:=aba.mp hj;exact ih j _ _ (aaa hj) (aaa hj) rfl
 |@lst n a b xs ys f h1 h2 hl h ih=>
  intro e;cases e;cases I.gS h1 h2;refine abw.mpr λj hj=>?_;have hj:=aba.mp hj;exact ih j _ _ (aaa hj) (aaa hj) rfl
 |len h1 h2 hl=>
  intro e;cases e;cases I.gS h1 h2;exact aaL rfl hl
def cP{xs:List V}{its:List Value}(r:aF xs its){j:Nat}(h:j<its.toArray.size):∃x,xs[j]? =some x/\aA x its.toArray[j]:=by
 have hj:j<its.length:=by simpa using h
 have hx:j<xs.length:=by rw[r.length];exact hj
 have⟨u,g,ru⟩:=r.get (aaa hx);rw[aaa hj]at g;cases g;exact⟨_,List.getElem?_eq_getElem hx,by simpa using ru⟩
def xC(I:Inv X ζ σ H s){x y:V}(h:HA X.K H n x y b):∀{A:Around}{u v:Value},aA x u->aA y v->A.units+n<cLine->SeqAt.EqAt A s u v b:=by
 induction h with
 |flat h1 h2=>exactλru rv _=>sE ru rv h1 h2
 |@tup n a b xs ys f h1 h2 h ih=>
  intro A u v ru rv hu;cases ru;cases rv;by_cases e:a=b
  ·have:=Ar I (.tup h1 h2 h) (aa0 V.ref e);rw[this,e];exact SeqAt.EqAt.same _
  ·have⟨i1,v1,t1,_⟩:=I.tuple h1;have⟨i2,v2,t2,_⟩:=I.tuple h2
   have:=SeqAt.RcAt.tuples (A:=A) (e:=f) (show s.heap.IsTuple a i1.toArray from t1) (show s.heap.IsTuple b i2.toArray from t2) () (λj g1 g2=>by
    have⟨x,hx,rx⟩:=cP v1 g1;have⟨y,hy,ry⟩:=cP v2 g2
    exact ih j x y hx hy rx ry (by show A.units+1+n<cLine;omega))
   rw[aay,aay,<-v1.length,<-v2.length]at this;exact SeqAt.EqAt.of_refs e this
 |@lst n a b xs ys f h1 h2 hl h ih=>
  intro A u v ru rv hu;cases ru;cases rv;by_cases e:a=b
  ·have:=Ar I (.lst h1 h2 hl h) (aa0 V.ref e);rw[this,e];exact SeqAt.EqAt.same _
  ·have⟨i1,v1,t1,_⟩:=I.list h1;have⟨i2,v2,t2,_⟩:=I.list h2
   have:=SeqAt.RcAt.lists (A:=A) (e:=f) t1.isList t2.isList (by rw[aay,aay,<-v1.length,<-v2.length];exact hl) () (λj g1 g2=>by
    have⟨x,hx,rx⟩:=cP v1 g1;have⟨y,hy,ry⟩:=cP v2 g2
    exact ih j x y hx hy rx ry (by show A.units+1+n<cLine;omega))
   rw[aay,<-v1.length]at this;exact SeqAt.EqAt.of_refs e this
 |@len n a b xs ys h1 h2 hl=>
  intro A u v ru rv hu;cases ru;cases rv;have e:a≠b:=λe=>by subst e;cases I.gS h1 h2;exact hl rfl
  have⟨i1,v1,t1,_⟩:=I.list h1;have⟨i2,v2,t2,_⟩:=I.list h2;exact SeqAt.EqAt.of_refs e (SeqAt.RcAt.lists_lengths t1.isList t2.isList (by rw[List.size_toArray,List.size_toArray,<-v1.length,<-v2.length];simpa using hl) ())
end
def Vo(K:fI)(n:Nat):R2:=λx y H Q=>∃a b c,x= .ref a/\y= .ref b/\HA K H n x y c/\Q (.bl c) H
def SU(K:fI)(n:Nat):R2:=λx y H Q=>∃a b c,x= .ref a/\y= .ref b/\HA K H n x y c/\Q (.bl (!c)) H
section
def Qm(hu:X.A.units+n<cLine):jo X (compareOp .Eq) (Vo X.K n):=by
 intro ζ s σ H x y v u Q I rx ry h;have⟨a,b,c,rfl,rfl,h,q⟩:=h;cases rx;cases ry;cases h with
 |flat h1 h2=>cases h1
 |@tup n _ _ xs ys f h1 h2 h=>
  have⟨i1,v1,t1,_⟩:=I.tuple h1;have⟨i2,v2,t2,_⟩:=I.tuple h2;refine SeqAt.eq_tupleAt (e:=f) (show s.heap.IsTuple a i1.toArray from t1) (show s.heap.IsTuple b i2.toArray from t2) () (λj g1 g2=>?_) ?_
  ·have⟨x,hx,rx⟩:=cP v1 g1;have⟨y,hy,ry⟩:=cP v2 g2;exact xC I (h j x y hx hy) rx ry (by show X.A.units+1+n<cLine;omega)
  ·rw[aay,aay,<-v1.length,<-v2.length];exact⟨.bl _,H,I,rfl,q⟩
 |@lst n _ _ xs ys f h1 h2 hl h=>
  have⟨i1,v1,t1,_⟩:=I.list h1;have⟨i2,v2,t2,_⟩:=I.list h2;refine SeqAt.eq_listAt (e:=f) t1.isList t2.isList (by rw[aay,aay,<-v1.length,<-v2.length];exact hl) () (λj g1 g2=>?_) ?_
  ·have⟨x,hx,rx⟩:=cP v1 g1;have⟨y,hy,ry⟩:=cP v2 g2;exact xC I (h j x y hx hy) rx ry (by show X.A.units+1+n<cLine;omega)
  ·rw[aay,<-v1.length];exact⟨.bl _,H,I,rfl,q⟩
 |@len n _ _ xs ys h1 h2 hl=>
  have⟨i1,v1,t1,_⟩:=I.list h1;have⟨i2,v2,t2,_⟩:=I.list h2;exact SeqAt.eq_list_lengthsAt t1.isList t2.isList (by rw[List.size_toArray,List.size_toArray,<-v1.length,<-v2.length];simpa using hl) () ⟨.bl _,H,I,rfl,q⟩
def QX(hu:X.A.units+n<cLine):jo X (compareOp .NotEq) (SU X.K n):=by
 intro ζ s σ H x y v u Q I rx ry h;have⟨a,b,c,rfl,rfl,h,q⟩:=h;cases rx;cases ry;cases h with
 |flat h1 h2=>cases h1
 |@tup n _ _ xs ys f h1 h2 h=>
  have⟨i1,v1,t1,_⟩:=I.tuple h1;have⟨i2,v2,t2,_⟩:=I.tuple h2;refine SeqAt.RcNeAt.tuples (e:=f) (show s.heap.IsTuple a i1.toArray from t1) (show s.heap.IsTuple b i2.toArray from t2) () (λj g1 g2=>?_) _ _ _ _ ?_
  ·have⟨x,hx,rx⟩:=cP v1 g1;have⟨y,hy,ry⟩:=cP v2 g2;exact xC I (h j x y hx hy) rx ry (by show X.A.units+1+n<cLine;omega)
  ·rw[aay,aay,<-v1.length,<-v2.length];exact⟨.bl _,H,I,rfl,q⟩
 |@lst n _ _ xs ys f h1 h2 hl h=>
  have⟨i1,v1,t1,_⟩:=I.list h1;have⟨i2,v2,t2,_⟩:=I.list h2;refine SeqAt.RcNeAt.lists (e:=f) t1.isList t2.isList (by rw[aay,aay,<-v1.length,<-v2.length];exact hl) () (λj g1 g2=>?_) _ _ _ _ ?_
  ·have⟨x,hx,rx⟩:=cP v1 g1;have⟨y,hy,ry⟩:=cP v2 g2;exact xC I (h j x y hx hy) rx ry (by show X.A.units+1+n<cLine;omega)
  ·rw[aay,<-v1.length];exact⟨.bl _,H,I,rfl,q⟩
 |@len n _ _ xs ys h1 h2 hl=>
  have⟨i1,v1,t1,_⟩:=I.list h1;have⟨i2,v2,t2,_⟩:=I.list h2;exact SeqAt.RcNeAt.lists_lengths t1.isList t2.isList (by rw[List.size_toArray,List.size_toArray,<-v1.length,<-v2.length];simpa using hl) () _ _ _ _ ⟨.bl _,H,I,rfl,q⟩
end
def lX(M:Ms):Dt->Option (List Dt)
 |.lst xs=>some xs
 |.iA ns=>some (ns.map .int)
 |.loc k=>match M[k]? with
  |some (.lst xs)=>some xs
  |_=>none
 |_=>none
inductive xp(M:Ms):Nat->Dt->Dt->Bool->Prop
 |flat {n:Nat} {d e:Dt} {x y:V} (h1:pV d=some x) (h2:pV e=some y):xp M n d e (qo x y)
 |tup {n:Nat} {ds es:List Dt} {f:Nat->Bool} (h:∀j d e,ds[j]? =some d->es[j]? =some e->xp M n d e (f j)):xp M (n+1) (.tup ds) (.tup es) ((List.range (min ds.length es.length)).all f&&ds.length==es.length)
 |lst {n:Nat} {d e:Dt} {ds es:List Dt} {f:Nat->Bool} (h1:lX M d=some ds) (h2:lX M e=some es) (hl:ds.length=es.length) (h:∀j d e,ds[j]? =some d->es[j]? =some e->xp M n d e (f j)):xp M (n+1) d e ((List.range ds.length).all f)
 |len {n:Nat} {d e:Dt} {ds es:List Dt} (h1:lX M d=some ds) (h2:lX M e=some es) (hl:ds.length≠es.length):xp M (n+1) d e false
def gF{K:fI}{H:Hp}{xs:List Dt}(r:Rl K G L M H)(n:Den K G L d v)(h:lX M d=some xs):∃a vs,v= .ref a/\gK K H a vs/\Ψ K G L xs vs:=by
 cases d with
 |lst ds=>cases h;have⟨a,vs,rfl,e,m⟩:=n;exact⟨a,vs,rfl,.of (r.sub _ _ e),m⟩
 |iA ns=>cases h;have⟨a,rfl,e⟩:=n;exact⟨a,_,rfl,r.sub.seq e,i_⟩
 |loc k=>
  have⟨a,rfl,e⟩:=n;have h:(match M[k]? with| some (.lst xs)=>some xs| _=>none)=some xs:=h;split at h
  ·rename_i ys hm;cases h;have⟨_,vs,e1,m1⟩:=r.eP k a _ e hm;exact⟨a,vs,rfl,.of e1,m1⟩
  ·cases h
 |_=>cases h
def Ψ.back{K:fI}{i:Nat}(h:Ψ K G L ds vs)(e:vs[i]? =some v):∃d,ds[i]? =some d/\Den K G L d v:=by
 have hi:i<ds.length:=by rw[h.length];exact(aaf.mp e).1
 have⟨v',e',n⟩:=h.get (aaa hi);rw[e]at e';cases e';exact⟨_,aaa hi,n⟩
def NP{K:fI}{H:Hp}(r:Rl K G L M H){e:Dt}(h:xp M n d e b):∀{v u:V},Den K G L d v->Den K G L e u->HA K H n v u b:=by
 induction h with
 |flat h1 h2=>
  intro v u n1 n2;have⟨rfl,f1⟩:=gT h1 n1;have⟨rfl,f2⟩:=gT h2 n2;exact .flat f1 f2
 |@tup n ds es f h ih=>
  intro v u n1 n2;have⟨a,vs,rfl,e1,m1⟩:=n1;have⟨b,us,rfl,e2,m2⟩:=n2;rw[m1.length,m2.length];refine .tup (.of (r.sub _ _ e1)) (.of (r.sub _ _ e2)) λj x y hx hy=>?_;have⟨d,hd,dn⟩:=m1.back hx;have⟨e,he,en⟩:=m2.back hy;exact ih j d e hd he dn en
 |@lst n d e ds es f h1 h2 hl h ih=>
  intro v u n1 n2;have⟨a,vs,rfl,s1,m1⟩:=gF r n1 h1;have⟨b,us,rfl,s2,m2⟩:=gF r n2 h2;rw[m1.length];refine .lst s1 s2 (by rw[<-m1.length,<-m2.length];exact hl) λj x y hx hy=>?_;have⟨d,hd,dn⟩:=m1.back hx;have⟨e,he,en⟩:=m2.back hy;exact ih j d e hd he dn en
 |@len n d e ds es h1 h2 hl=>
  intro v u n1 n2;have⟨a,vs,rfl,s1,m1⟩:=gF r n1 h1;have⟨b,us,rfl,s2,m2⟩:=gF r n2 h2;exact .len s1 s2 (by rw[<-m1.length,<-m2.length];exact hl)
def JG(M:Ms)(d:Dt):Prop:=(∃ds,d= .tup ds)\/∃xs,lX M d=some xs
def qI{K:fI}{H:Hp}(r:Rl K G L M H)(n:Den K G L d v)(h:JG M d):∃a,v= .ref a:=by
 rcases h with ⟨ds,rfl⟩| ⟨xs,h⟩
 ·have⟨a,vs,rfl,_⟩:=n;exact⟨a,rfl⟩
 ·have⟨a,vs,rfl,_⟩:=gF r n h;exact⟨a,rfl⟩
def Sv(n:Nat):Dt->Dt->Ms->DQ->Prop:=λd e M q=>∃b,JG M d/\JG M e/\xp M n d e b/\q (.bl b) M
def UL(n:Nat):Dt->Dt->Ms->DQ->Prop:=λd e M q=>∃b,JG M d/\JG M e/\xp M n d e b/\q (.bl (!b)) M
def WK{K:fI}:nh K (Vo K n) (Sv n):=by intro G0 L0 H0 G L M H v1 v2 d1 d2 q e r n1 n2 ⟨b,h1,h2,h,hq⟩;have⟨a,rfl⟩:=qI r n1 h1;have⟨a',rfl⟩:=qI r n2 h2;exact⟨a,a',b,rfl,rfl,NP r h n1 n2,bB e r hq⟩
def XC{K:fI}:nh K (SU K n) (UL n):=by intro G0 L0 H0 G L M H v1 v2 d1 d2 q e r n1 n2 ⟨b,h1,h2,h,hq⟩;have⟨a,rfl⟩:=qI r n1 h1;have⟨a',rfl⟩:=qI r n2 h2;exact⟨a,a',b,rfl,rfl,NP r h n1 n2,bB e r hq⟩
section
variable{a b l u:Expr}{tl tu:DE}{p2:Pos}
def Pw{k:Nat}(hr:bT k A)(hn:n<=64):A.units+n<cLine:=aaX (Nat.add_le_add_left hn _) hr.units
def R6(n:Nat)(hr:bT k' X.A)(ja:JE X R a ta)(jb:JE X R b tb)(hn:n<=64:=by decide)(hm:behindInMarks .Eq b=false:=by rfl):JE X R (.Compare a [.Eq] [b] pos) (jO (Sv n) ta tb):=vk (Qm (Pw hr hn)) WK ja jb hm
def PJ(n:Nat)(hr:bT k' X.A)(ja:JE X R a ta)(jb:JE X R b tb)(hn:n<=64:=by decide)(hm:behindInMarks .NotEq b=false:=by rfl):JT X R (.Compare a [.NotEq] [b] pos) (kn (jO (UL n) ta tb)):=fC (QX (Pw hr hn)) XC ja jb hm
def GY(xs:List V)(k:Nat):uH xs none (some (k:Int))=xs.take k:=by
 unfold uH;rw[HT.qP,HT.zM,acy,Nat.sub_zero];by_cases h:k<=xs.length
 ·rw[acs h]
 ·rw[Nat.min_eq_right (),abT (aan _),abT ()]
def TR(te tl:DE):DE:=λρ M q x=>te ρ M (λd M1=>tl ρ M1 (λdi M2=>∃ds n,lX M2 d=some ds/\di= .int (n:Nat)/\q (.loc M2.length) (M2++[.lst (ds.drop n)])) x) x
def ou(he:JE X R e te)(hl:JE X R l tl):JE X R (.Subscript e (.Slice (some l) none none p2) pos) (TR te tl):=
 .of (uf wy he (lA hl) ED) λσ H G L ρ M q x rl n h hx=>by refine⟨G,L,ρ,M,_,x,rl,n,h,hx,λv H1 xz=>?_⟩;have⟨d1,G1,L1,M1,e1,r1,n1,h1⟩:=xz;refine⟨G1,L1,ρ,M1,_,x,r1,n.mono e1,h1,hx.on e1,λv2 H2 xz=>?_⟩;have⟨d2,G2,L2,M2,e2,r2,n2,ds,k,ed,ei,h2⟩:=xz;subst ei;have⟨a,vs,rfl,sq,m⟩:=gF r2 (Den.mono e2.g e2.l _ _ n1) ed;have n2:v2= .int k:=n2;subst n2;refine⟨k,rfl,a,vs,rfl,sq,λp hp=>?_⟩;rw[Gz];exact jH (e1.trans e2) r2 hp (Ψ.of (rW k m.pair)) h2
end
open PySem PySem.SeqAt
def ur(prog:Program)(w:World)(A:Around)(s:Shared)(y x:Value)(b:Bool):Prop:=
 ∀(E:Value->Shared->Prop) (Q:Bool->Shared->Prop),Q b s->wpAny (model prog w) A (eqBool y x) Q E s
def Fc{K:Type} [DecidableEq K]{knd:KeyKind prog w K}{es:List DictEntry}{Κ:List (K×Value)}(p:Pairs knd es Κ):∀{i:Nat}{e:DictEntry},es[i]? =some e->∃k,Κ[i]? =some (k,e.val)/\knd.is k e.key=true:=by
 induction p with
 |nil=>intro i e h;simp at h
 |@cons e0 kv es Κ h1 h2 _ ih=>
  intro i e h;cases i with
  |zero=>
   have:e0=e:=by simpa using h
   subst this;exact⟨kv.1,by rw[h2];rfl,h1⟩
  |succ i=>exact ih (by simpa using h)
def Er{K:Type} [DecidableEq K]{knd:KeyKind prog w K}{es:Array DictEntry}{Κ:List (K×Value)}(p:Pairs knd es.toList Κ)(k:K):
  (valueAt Κ k=none/\(es.findIdx? λe=>knd.is k e.key)=none)\/∃i e,valueAt Κ k=some e.val/\(es.findIdx? λe=>knd.is k e.key)=some i/\es[i]? =some e:=by
 have hf:(es.find? λe=>knd.is k e.key).map (·.val)=valueAt Κ k:=by rw[<-Array.find?_toList];exact p.find k
 cases hi:es.findIdx? λe=>knd.is k e.key with
 |none=>
  left;refine⟨?_,rfl⟩;rw[<-hf];have:(es.find? λe=>knd.is k e.key)=none:=by rw[Array.find?_eq_none];rw[Array.findIdx?_eq_none_iff]at hi;intro x hx;simpa using hi x hx
  rw[this];rfl
 |some i=>
  right;rw[Array.findIdx?_eq_some_iff_getElem]at hi;have⟨NQ,h1,h2⟩:=hi;refine⟨i,es[i],?_,rfl,acf NQ⟩;rw[<-hf];have:(es.find? λe=>knd.is k e.key)=some es[i]:=by rw[Array.find?_eq_some_iff_getElem];exact⟨h1,i,NQ,rfl,λj hj=>by simpa using h2 j hj⟩
  rw[this];rfl
def nP{K:Type} [DecidableEq K]{knd:KeyKind prog w K}{id:String}{b:Addr}{Κ dW:List (K×Value)}(ha:s.heap.DictOf knd a Κ)(hb:s.heap.DictOf knd b dW)(Pe:(a==sysModules)=false)(oy:(b==sysModules)=false)(hl:Κ.length=dW.length)
  {e:Nat->Bool} (he:∀j k v,Κ[j]? =some (k,v)->(valueAt dW k=none/\e j=false)\/∃v',valueAt dW k=some v'/\ur prog w A s v v' (e j)) {Q:Bool->Shared->Prop} (h:Q ((List.range Κ.length).all e) s):
  wpAny (model prog w) A (Builtin.Dict.samePairs id a b) Q E s:=by
 have⟨o1,DJ,ep1,g1,x1,d1,k1,p1,n1⟩:=ha;have⟨o2,WR,ep2,g2,x2,d2,k2,p2,n2⟩:=hb;have sa:∀{c:Addr} {Q:Unit->Shared->Prop},(c==sysModules)=false->Q Unit.unit s->wpAny (model prog w) A (Builtin.Dict.showsAll c) Q E s:=λhc hq=>by unfold Builtin.Dict.showsAll;rw[aaw (by rw[hc];decide)];exact aaR hq
 unfold Builtin.Dict.samePairs;refine aam (sa Pe (aam (sa oy (aam (wpAny_dictEntries g1 d1 (aam (wpAny_dictEntries g2 d2 ?_)))))));have z1:DJ.size=Κ.length:=by rw[<-p1.length];simp
 have z2:WR.size=dW.length:=by rw[<-p2.length];simp
 rw[if_neg (by rw[z1,z2,hl];simp)];refine aam (wpAny_dictEpoch g1 d1 ?_);refine aam ?_;rw[Std.Legacy.Range.forIn_eq_forIn_range'];have sz:[:DJ.size].size=DJ.size:=by simp[Std.Legacy.Range.size]
 rw[sz];refine wpAny_forIn_list _ (λrest b s'=>s'=s/\b.1=none/\∃i,rest=List.range' i (DJ.size-i)/\i<=DJ.size/\((List.range i).all e=true)) _ ?_ ?_ _ _ ⟨rfl,rfl,0,by simp,Nat.zero_le _,rfl⟩
 ·rintro x rest b s' ⟨rfl,hb,i,hr,hi,za⟩;have NQ:i<DJ.size:=by
   rcases Nat.lt_or_ge i DJ.size with h'|h'
   ·exact h'
   ·rw[Nat.sub_eq_zero_of_le h']at hr;cases hr
  rw[show DJ.size-i=(DJ.size-(i+1))+1 by omega,List.range'_succ]at hr;injection hr with hx Uy
  subst hx;refine aam (wpAny_dictEntries g1 d1 ?_);rw[acf NQ];dsimp only;have⟨k,yB,zq⟩:=Fc p1 (i:=x) (e:=DJ[x]) (by rw[Array.getElem?_toList,acf NQ]);have⟨k',yo,hk4⟩:=k1 DJ[x] (Array.getElem_mem NQ);obtain rfl:k=k':=knd.inj _ _ _ zq yo;rw[hk4];refine aam (ab7 (Q:=λr RG=>RG=s'/\r=e x) (E:=E) ?_ (fun r RG ⟨es,er⟩=>?_) λ_ _ h'=>h')
  ·refine wpAny_holding (aam (wpAny_dictFind_of zq g2 d2 k2 ?_));rcases he x k _ yB with ⟨h1,h2⟩| ⟨v',h1,h2⟩
   ·rcases Er p2 k with ⟨_,q⟩| ⟨j,f,q,_⟩
    ·rw[q];exact aaR ⟨rfl,h2.symm⟩
    ·rw[h1]at q;cases q
   ·rcases Er p2 k with ⟨q,_⟩| ⟨j,f,q,q1,q2⟩
    ·rw[h1]at q;cases q
    ·rw[q1];dsimp only;refine aam (wpAny_dictEntries g2 d2 ?_);rw[q2];dsimp only;rw[h1]at q;obtain rfl:v'=f.val:=aar q;exact wpAny_holding (h2 _ _ ⟨rfl,rfl⟩)
  ·subst es er;cases hex:e x with
   |false=>
    rw[aax (by rfl)];refine aaR (aaR ?_);have:(List.range Κ.length).all e=false:=by rw[List.all_eq_false];exact⟨x,aba.mpr (),by rw[hex];decide⟩
    rw[this]at h;exact h
   |true=>
    rw[aaw @_];refine aam (wpAny_dictEpoch g1 d1 ?_);rw[if_neg (by simp)];refine aaR ⟨rfl,rfl,x+1,Uy,(),?_⟩;rw[List.range_succ,List.all_append,za];simp[hex]
 ·rintro⟨b1,b2⟩ s' ⟨rfl,hb,i,hr,hi,za⟩;have hb:b1=none:=hb;subst hb;have:i=DJ.size:=by have:=aa0 List.length hr;rw[List.length_range']at this;simp at this;omega
  subst this;rw[z1]at za;rw[za]at h;exact aaR h
def lK{K:Type} [DecidableEq K]{knd:KeyKind prog w K}{id:String}{b:Addr}{Κ dW:List (K×Value)}(ha:s.heap.DictOf knd a Κ)(hb:s.heap.DictOf knd b dW)(Pe:(a==sysModules)=false)(oy:(b==sysModules)=false)(hl:Κ.length≠dW.length)
  {Q:Bool->Shared->Prop} (h:Q false s):wpAny (model prog w) A (Builtin.Dict.samePairs id a b) Q E s:=by
 have⟨o1,DJ,ep1,g1,x1,d1,k1,p1,n1⟩:=ha;have⟨o2,WR,ep2,g2,x2,d2,k2,p2,n2⟩:=hb;have sa:∀{c:Addr} {Q:Unit->Shared->Prop},(c==sysModules)=false->Q Unit.unit s->wpAny (model prog w) A (Builtin.Dict.showsAll c) Q E s:=λhc hq=>by unfold Builtin.Dict.showsAll;rw[aaw (by rw[hc];decide)];exact aaR hq
 unfold Builtin.Dict.samePairs;refine aam (sa Pe (aam (sa oy (aam (wpAny_dictEntries g1 d1 (aam (wpAny_dictEntries g2 d2 ?_)))))));have z1:DJ.size=Κ.length:=by rw[<-p1.length];simp
 have z2:WR.size=dW.length:=by rw[<-p2.length];simp
 rw[if_pos (by rw[z1,z2];simpa using hl)];exact aam (wpAny_rule (aaR h))
section
variable{K:Type} [DecidableEq K]{knd:KeyKind prog w K}{b:Addr}{Κ dW:List (K×Value)}
def tW(ha:s.heap.DictOf knd a Κ)(hb:s.heap.DictOf knd b dW)(hu:A.units<cLine)(h:∀{E:Value->Shared->Prop}{Q:Bool->Shared->Prop},Q c s->wpAny (model prog w) A.in1 (Builtin.Dict.samePairs (toString "dict."++toString "__eq__") a b) Q E s)(q:Q (.bool c) s):wpAny (model prog w) A (richCompare .Eq (.ref a) (.ref b)) Q E s:=by
 refine wpAny_richCompare_same_room ha.typeIs hb.typeIs F.slot_dict_eq (wpAny_call_entry F.slot_dict_eq ha.typeIs F.entry_dict_eq ?_ (F.args_dict_eq_2 _ _)) hu;show wpAny _ _ (Builtin.Dict.dictSlotArgs "__eq__" ⟨[.ref a,.ref b],[]⟩ >>= _) _ _ s;refine aam ?_;unfold Builtin.Dict.dictSlotArgs;refine aam (wpAny_notOrdered_dict ha.typeIs ?_);refine aam (m:=slotArgs "__eq__" 1 _) (aaR ?_);refine aaR ?_;refine aam (wpAny_isInstance hb.typeIs isSubtype_dict_dict ?_);rw[aaw @_];refine aam (aaR (aam (aaR (aam (h ?_)))));have e:(c==true)=c:=by cases c <;> rfl
 refine aaR ⟨Value.bool (c==true),rfl,⟨λz=>(nomatch z),?_⟩⟩;rw[e];exact q
def Fs(ha:s.heap.DictOf knd a Κ)(hb:s.heap.DictOf knd b dW)(Pe:(a==sysModules)=false)(oy:(b==sysModules)=false)(hu:A.units<cLine)(hl:Κ.length=dW.length){e:Nat->Bool}(he:∀j k v,Κ[j]? =some (k,v)->(valueAt dW k=none/\e j=false)\/∃v',valueAt dW k=some v'/\ur prog w A.in1 s v v' (e j))
   (q:Q (.bool ((List.range Κ.length).all e)) s):wpAny (model prog w) A (richCompare .Eq (.ref a) (.ref b)) Q E s:=tW ha hb hu (λh=>nP ha hb Pe oy hl he h) q
def uG(ha:s.heap.DictOf knd a Κ)(hb:s.heap.DictOf knd b dW)(Pe:(a==sysModules)=false)(oy:(b==sysModules)=false)(hu:A.units<cLine)(hl:Κ.length≠dW.length)
   (q:Q (.bool false) s):wpAny (model prog w) A (richCompare .Eq (.ref a) (.ref b)) Q E s:=tW ha hb hu (λh=>lK ha hb Pe oy hl h) q
def ur.same(v:Value):ur prog w A s v v true:=λE Q h=>SeqAt.EqAt.same v prog w E Q h
def ur.of_refs{k:Bool}(jn:a≠b)(h:∀(E:Value->Shared->Prop) (Q:Value->Shared->Prop),Q (.bool k) s->wpAny (model prog w) A (richCompare .Eq (.ref a) (.ref b)) Q E s):ur prog w A s (.ref a) (.ref b) k:=λE Q hq=>by unfold eqBool;refine wpAny_holding ?_;refine wpAny_ite_split (λU9=>aaL (by have:=eq_of_beq U9;injection this) jn) (λ_=>?_);exact aam (h E _ (wpAny_truthy_bool hq))
end
inductive wk(H:Hp):Nat->V->V->Bool->Prop
 |flat {n:Nat} {x y:V} (h1:dX x=true) (h2:dX y=true):wk H n x y (qo x y)
 | bX {n:Nat} {a b:Addr} {Κ dW:List (Key×V)} {e:Nat->Bool} (h1:Rd H a (.dK Κ)) (h2:Rd H b (.dK dW)) (hl:Κ.length=dW.length) (hn:∀j k v,Κ[j]? =some (k,v)->fk dW k=none->e j=false)
   (h:∀j k v v',Κ[j]? =some (k,v)->fk dW k=some v'->wk H n v v' (e j)):wk H (n+1) (.ref a) (.ref b) ((List.range Κ.length).all e)
 |len {n:Nat} {a b:Addr} {Κ dW:List (Key×V)} (h1:Rd H a (.dK Κ)) (h2:Rd H b (.dK dW)) (hl:Κ.length≠dW.length):wk H (n+1) (.ref a) (.ref b) false
def Al{κ:Type} [DecidableEq κ]:∀{Κ:List (κ×V)}{j:Nat}{k:κ}{v:V},(Κ.map (·.1)).Nodup->Κ[j]? =some (k,v)->fk Κ k=some v
 |[],j,k,v,_,h=>by simp at h
 |p::r,0,k,v,_,h=>by
  have:p=(k,v):=by simpa using h
  subst this;exact dt rfl
 |p::r,j+1,k,v,hn,h=>by
  have h:r[j]? =some (k,v):=by simpa using h
  rw[aaH,abC]at hn;have:¬p.1=k:=λe=>hn.1 (by rw[e];exact aaj.mpr ⟨_,aag h,rfl⟩);rw[cN this];exact Al hn.2 h
def Bk{H:Hp}{u v:HO}(h1:Rd H a u)(h2:Rd H a v)(hu:∀o w,u≠ .vC o w)(hv:∀o w,v≠ .vC o w):u=v:=by
 rcases h1 with h1| ⟨o,h1⟩ <;> rcases h2 with h2| ⟨o',h2⟩ <;> rw[h1]at h2
 ·exact aar h2
 ·exact aaL (aar h2) (hu _ _)
 ·exact aaL (aar h2).symm (hv _ _)
 ·have:=aar h2;injection this
def CM{κ:Type}:∀{Κ:List (κ×V)}{vs:List (κ×Value)},KV Κ vs->∀{j:Nat}{k:κ}{u:Value},vs[j]? =some (k,u)->∃v,Κ[j]? =some (k,v)/\aA v u
 |_,_,.nil,j,k,u,h=>by simp at h
 |_,_,.cons (a:=p) (b:=q) r t,0,k,u,h=>by
  have:q=(k,u):=by simpa using h
  subst this;have e:p.1=k:=r.1;exact⟨p.2,by show some p=_;rw[<-e],r.2⟩
 |_,_,.cons r t,j+1,k,u,h=>by have⟨v,e,rv⟩:=CM t (show _=some (k,u) by simpa using h);exact⟨v,by simpa using e,rv⟩
section
variable{H:Hp}
def Hx(I:Inv X ζ σ H s)(h:Rd H a (.dK Κ)):(Κ.map (·.1)).Nodup:=by have⟨_,_,vs,r,o,es,ep,_,_,_,_,_,n⟩:=eW I.aS h;rw[r.keys];exact n
def Fp(I:Inv X ζ σ H s){x y:V}(h:wk H n x y b):x=y->b=true:=by
 induction h with
 |flat h1 h2=>intro e;subst e;exact yU h1
 |@bX n a b Κ dW f h1 h2 hl hn h ih=>
  intro e;cases e;have:=Bk h1 h2 (λ_ _ z=>nomatch z) (λ_ _ z=>nomatch z);cases this;refine abw.mpr λj hj=>?_;have hj:=aba.mp hj;have g:Κ[j]? =some (Κ[j].1,Κ[j].2):=aaa hj;exact ih j _ _ _ g (Al (Hx I h1) g) rfl
 |len h1 h2 hl=>
  intro e;cases e;have:=Bk h1 h2 (λ_ _ z=>nomatch z) (λ_ _ z=>nomatch z);cases this;exact aaL rfl hl
def DU{vs:List (Key×Value)}(r:KV Κ vs)(k:Key):(fk Κ k=none/\valueAt vs k=none)\/∃v u,fk Κ k=some v/\valueAt vs k=some u/\aA v u:=by
 have:=r.val k;cases h1:fk Κ k with
 |none=>
  cases h2:valueAt vs k with
  |none=>exact .inl ⟨rfl,rfl⟩
  |some u=>rw[h1,h2]at this;exact this.elim
 |some v=>
  cases h2:valueAt vs k with
  |none=>rw[h1,h2]at this;exact this.elim
  |some u=>rw[h1,h2]at this;exact .inr ⟨v,u,rfl,rfl,this⟩
def Qi(I:Inv X ζ σ H s){x y:V}(h:wk H n x y c):∀{A:Around}{u v:Value},aA x u->aA y v->A.units+n<cLine->ur X.prog X.w A s u v c:=by
 induction h with
 |flat h1 h2=>exactλru rv _ E Q q=>sE ru rv h1 h2 X.prog X.w E Q q
 |@bX n a b Κ dW f h1 h2 hl hn h ih=>
  intro A u v ru rv hu;cases ru;cases rv;by_cases e:a=b
  ·have:=Fp I (.bX h1 h2 hl hn h) (aa0 V.ref e);rw[this,e];exact ur.same _
  ·have⟨_,z1,vs,r1,d1⟩:=eW I.aS h1;have⟨_,z2,yE,r2,d2⟩:=eW I.aS h2;refine ur.of_refs e λE Q q=>?_;rw[r1.length]at q;refine Fs d1 d2 z1 z2 () (by rw[<-r1.length,<-r2.length];exact hl) (λj k u hj=>?_) q;have⟨v,hv,rv⟩:=CM r1 hj;rcases DU r2 k with ⟨q1,q2⟩| ⟨v',u',q1,q2,q3⟩
   ·exact .inl ⟨q2,hn j k v hv q1⟩
   ·exact .inr ⟨u',q2,ih j k v v' hv q1 rv q3 (by show A.units+1+n<cLine;omega)⟩
 |@len n a b Κ dW h1 h2 hl=>
  intro A u v ru rv hu;cases ru;cases rv;have e:a≠b:=λe=>by subst e;have:=Bk h1 h2 (λ_ _ z=>nomatch z) (λ_ _ z=>nomatch z);cases this;exact hl rfl
  have⟨_,z1,vs,r1,d1⟩:=eW I.aS h1;have⟨_,z2,yE,r2,d2⟩:=eW I.aS h2;exact ur.of_refs e λE Q q=>uG d1 d2 z1 z2 () (by rw[<-r1.length,<-r2.length];exact hl) q
end
section
variable{a b f:Expr}{tf:DE}{cD:Pos}
def vg{K:fI}{G:Hp}{L:List Addr}{k:Key}:∀{ks:List Key}{ds:List Dt}{vs:List V},Ψ K G L ds vs->aH ks ds k=none->fk (ks.zip vs) k=none
 |[],_,_,_,_=>rfl
 |_::_,[],_,h,_=>by cases h;rfl
 |c::ks,d0::ds,_,⟨v0,vs,e,n0,n⟩,h=>by
  subst e;rw[abd];by_cases hc:c=k
  ·have h':aH (c::ks) (d0::ds) k=some d0:=by unfold aH;rw[List.zip_cons_cons,List.find?_cons_of_pos (by simpa using hc)];rfl
   rw[h']at h;cases h
  ·have h':aH (c::ks) (d0::ds) k=aH ks ds k:=by unfold aH;rw[List.zip_cons_cons,List.find?_cons_of_neg (by simpa using hc)]
   rw[h']at h;rw[cN hc];exact vg n h
end
def Au(M:Ms):Dt->Option (List Dt)
 |.lst xs=>some xs
 |.loc k=>match M[k]? with
  |some (.lst xs)=>some xs
  |_=>none
 |_=>none
def yk{K:fI}{H:Hp}{xs:List Dt}(r:Rl K G L M H)(n:Den K G L d v)(h:Au M d=some xs):∃a vs,v= .ref a/\H a=some (.lst vs)/\Ψ K G L xs vs:=by
 cases d with
 |lst ds=>cases h;have⟨a,vs,rfl,e,m⟩:=n;exact⟨a,vs,rfl,r.sub _ _ e,m⟩
 |loc k=>
  have⟨a,rfl,e⟩:=n;have h:(match M[k]? with| some (.lst xs)=>some xs| _=>none)=some xs:=h;split at h
  ·rename_i ys hm;cases h;have⟨_,vs,e1,m1⟩:=r.eP k a _ e hm;exact⟨a,vs,rfl,e1,m1⟩
  ·cases h
 |_=>cases h
def NY:Dt->Dt->Ms->DQ->Prop:=λd e M q=>∃xs ys,Au M d=some xs/\Au M e=some ys/\xs.length+ys.length<=sizeLine/\q (.lst (xs++ys)) M
def T1{K:fI}:nh K Q6 NY:=by intro G0 L0 H0 G L M H v1 v2 d1 d2 q e r n1 n2 ⟨xs,ys,h1,h2,hz,hq⟩;have⟨p1,w1,rfl,e1,m1⟩:=yk r n1 h1;have⟨p2,w2,rfl,e2,m2⟩:=yk r n2 h2;refine⟨p1,p2,w1,w2,rfl,rfl,e1,e2,by rw[<-m1.length,<-m2.length];exact hz,λp hp=>?_⟩;exact kW e r hp (qM r hp (m1.app m2)) hq
section
variable{a b:Expr}
def mG(ja:JE X R a ta)(jb:JE X R b tb):JE X R (.BinOp a .Add b pos) (jO NY ta tb):=wb HQ T1 ja jb
end
section
variable{l:Expr}{tl:DE}{p2:Pos}
def IV(te tl:DE):DE:=λρ M q x=>te ρ M (λd M1=>tl ρ M1 (λdi M2=>∃ds n,lX M2 d=some ds/\di= .int (n:Nat)/\q (.loc M2.length) (M2++[.lst (ds.take n)])) x) x
def x9(he:JE X R e te)(hl:JE X R l tl):JE X R (.Subscript e (.Slice none (some l) none p2) pos) (IV te tl):=
 .of (uf wy he ED (lA hl)) λσ H G L ρ M q x rl n h hx=>by refine⟨G,L,ρ,M,_,x,rl,n,h,hx,λv H1 xz=>?_⟩;have⟨d1,G1,L1,M1,e1,r1,n1,h1⟩:=xz;refine⟨G1,L1,ρ,M1,_,x,r1,n.mono e1,h1,hx.on e1,λv2 H2 xz=>?_⟩;have⟨d2,G2,L2,M2,e2,r2,n2,ds,k,ed,ei,h2⟩:=xz;subst ei;have⟨a,vs,rfl,sq,m⟩:=gF r2 (Den.mono e2.g e2.l _ _ n1) ed;have n2:v2= .int k:=n2;subst n2;refine⟨k,rfl,a,vs,rfl,sq,λp hp=>?_⟩;rw[GY];exact jH (e1.trans e2) r2 hp (Ψ.of (tZ k m.pair)) h2
end
def AM(g:Dt->En->(En->Prop)->Prop)(te:DE)(ρ0:En)(ok:Ms->Prop):List Dt->List Dt->Ms->(List Dt->Ms->Prop)->Prop
 |[],Η,M,k=>ok M/\k Η M
 |x::xs,Η,M,k=>ok M/\g x ρ0 λρ'=>te ρ' M (λd M2=>AM g te ρ0 ok xs (Η++[d]) M2 k) lS
def CK(n:Nat)(ti:DK)(g:Dt->En->(En->Prop)->Prop)(te:DE)(af:List Nat):DE:=λρ M q x=>ti ρ M (λxs ok M1=>xs.length<=sizeLine/\AM g te (List.replicate n none++oZ af ρ) ok xs [] M1 (λys M2=>q (.lst ys) M2)) x
def Dh{g:Dt->En->(En->Prop)->Prop}{te:DE}{cs:En}{ok:Ms->Prop}:∀xs,AM g te cs ok xs=jh g p_ te cs ok xs
 |[]=>rfl
 |x::xs=>funext λΗ=>funext λM=>funext λk=>by show(ok M/\g x cs λρ'=>te ρ' M (λd M1=>AM g te cs ok xs (Η++[d]) M1 k) lS)=(ok M/\g x cs λρ'=>te ρ' M (λd M1=>jh g p_ te cs ok xs (Η++[d]) M1 k) lS);rw[Dh xs]
section
variable{elt iter:Expr}{x y:Str}{px py tp:Pos}{ti:DK}{kk:Nat}
def Dj(S:aL X scope [x,y] ys af)(hi:JK X R (.Tuple [.Name x px,.Name y py] kk tp) iter ti)(he:∀C s H fp,JE (Cx.comp X (x::y::ys) scope C s H fp) (λ_=>E0) elt te)(hc:X.calm=true:=by rfl)(hs:∀x,foldedSetIterable iter X.env x=pure x:=by intro _;rfl):JE X R (.ListComp elt [⟨.Tuple [.Name x px,.Name y py] kk tp,iter,[],0⟩] scope pos) (CK 2 ti (g2 0 1) te af):=Up false S hi (DV hc S) oX (vU (Nat.zero_lt_succ 1) (Nat.lt_succ_self 1)) (λ_ _ _ _=>ni) he hc hs λρ M q x h=>by unfold CK at h;simp only[Dh]at h;exact h
end
def pF{g:Dt->En->(En->Prop)->Prop}{te:DE}{ρ0:En}{ok:Ms->Prop}{M:Ms}{k:List Dt->Ms->Prop}(ho:ok M)(f:Dt->Dt):∀(xs Η:List Dt),(∀x∈xs,∀q:DQ,q (f x) M->g x ρ0 λρ'=>te ρ' M q lS)->k (Η++xs.map f) M->AM g te ρ0 ok xs Η M k
 |[],Η,_,h=>⟨ho,by simpa using h⟩
 |x::xs,Η,ht,h=>⟨ho,ht x List.mem_cons_self _ (pF ho f xs _ (λy hy=>ht y (List.mem_cons_of_mem _ hy)) (by simpa using h))⟩
def GN(xs:List V)(a b:Nat):uH xs (some (a:Int)) (some (b:Int))=(xs.drop a).take (b-a):=by
 unfold uH;rw[HT.qP,HT.qP];by_cases ha:a<=xs.length
 ·rw[acs ha];by_cases hb:b<=xs.length
  ·rw[acs hb]
  ·rw[Nat.min_eq_right (),abT (by rw[abP];omega),abT (by rw[abP];omega)]
 ·have h1:min a xs.length=xs.length:=Nat.min_eq_right ();rw[h1,List.drop_of_length_le (aan xs.length),List.drop_of_length_le (show xs.length<=a by omega)];simp
section
variable{l u a b:Expr}{tl tu:DE}{p2:Pos}
def Sj(te tl tu:DE):DE:=λρ M q x=>te ρ M (λd M1=>tl ρ M1 (λdi M2=>∃n:Nat,di= .int n/\tu ρ M2 (λdu M3=>∃ds m,lX M3 d=some ds/\du= .int (m:Nat)/\q (.loc M3.length) (M3++[.lst ((ds.drop n).take (m-n))])) x) x) x
def vt(he:JE X R e te)(hl:JE X R l tl)(hu:JE X R u tu):JE X R (.Subscript e (.Slice (some l) (some u) none p2) pos) (Sj te tl tu):=
 .of (uf wy he (lA hl) (lA hu)) λσ H G L ρ M q x rl n h hx=>by refine⟨G,L,ρ,M,_,x,rl,n,h,hx,λv H1 xz=>?_⟩;have⟨d1,G1,L1,M1,e1,r1,n1,h1⟩:=xz;refine⟨G1,L1,ρ,M1,_,x,r1,n.mono e1,h1,hx.on e1,λv2 H2 xz=>?_⟩;have⟨d2,G2,L2,M2,e2,r2,n2,k,ek,h2⟩:=xz;subst ek;have n2:v2= .int k:=n2;subst n2;refine⟨k,rfl,G2,L2,ρ,M2,_,x,r2,(n.mono e1).mono e2,h2,(hx.on e1).on e2,λv3 H3 xz=>?_⟩;have⟨d3,G3,L3,M3,e3,r3,n3,ds,m,ed,em,h3⟩:=xz;subst em;have Gv:=e2.trans e3;have⟨a,vs,rfl,sq,dn⟩:=gF r3 (Den.mono Gv.g Gv.l _ _ n1) ed;have n3:v3= .int m:=n3;subst n3;refine⟨m,rfl,a,vs,rfl,sq,λp hp=>?_⟩;rw[GN];exact jH (e1.trans Gv) r3 hp (Ψ.of (tZ (m-k) (rW k dn.pair))) h3
def Ov:Dt->Dt->Ms->DQ->Prop:=λd e M q=>∃xs k,Au M d=some xs/\e= .int k/\ -(2^63)<=k/\k<2^63/\xs.length*k.toNat<=sizeLine/\q (.loc M.length) (M++[.lst (List.replicate k.toNat xs).flatten])
def T_{K:fI}:nh K QP Ov:=by intro G0 L0 H0 G L M H v1 v2 d1 d2 q e r n1 n2 ⟨xs,k,h1,h2,a,b,hz,hq⟩;have⟨p1,w1,rfl,e1,m1⟩:=yk r n1 h1;subst h2;have n2:v2= .int k:=n2;subst n2;refine⟨p1,k,w1,rfl,rfl,e1,a,b,by rw[<-m1.length];exact hz,λp hp=>?_⟩;exact jH e r hp (Ψ.of (xK m1.pair k.toNat)) hq
def Bx(ja:JE X R a ta)(jb:JE X R b tb):JE X R (.BinOp a .Mult b pos) (jO Ov ta tb):=wb HC T_ ja jb
end
def Hf(ks:List Key)(k:Key):Bool:=ks.any λc=>decide (c=k)
def nM{k:Key}:∀{ks:List Key}{vs:List V},ks.length=vs.length->(fk (ks.zip vs) k).isSome=Hf ks k
 |[],[],_=>rfl
 |c::ks,v::vs,h=>by
  have h:ks.length=vs.length:=by simpa using h
  rw[abd];by_cases e:c=k
  ·rw[dt e];subst e;simp[Hf]
  ·rw[cN e,nM h];unfold Hf;rw[ab5,aaJ e,Bool.false_or]
section
variable{a b:Expr}
def xH:JE X R (.Dict [] [] pos) (λ_ M q _=>q (.loc M.length) (M++[.bX [] []])):=
 .of IA λσ H G L ρ M q x rl n h hx=>by intro p hp;exact⟨.loc M.length,G,L++[p],_,rl.VN hp,rl.M7 (m:=.bX [] []) hp ⟨[],Ω,rfl,rfl⟩,⟨p,rfl,by rw[<-rl.len,List.getElem?_append_right (Nat.le_refl _)];simp⟩,h⟩
def Rt:Dt->Dt->Ms->DQ->Prop:=λdi d M q=>∃k ks ds key,d= .loc k/\M[k]? =some (.bX ks ds)/\rG di=some key/\q (.bl (Hf ks key)) M
def JN(hu:X.A.units+1<cLine):jo X (compareOp .In) (λy x H Q=>∃a o,x=V.ref a/\sF H a y o/\Q (.bl o.isSome) H):=by intro ζ s σ H x y u v Q I rx ry ⟨a,o,ex,g,q⟩;subst ex;obtain rfl:v=Value.ref a:=ry;exact Zb hu I g rx λs3 I3=>⟨.bl o.isSome,H,I3,rfl,q⟩
def SA{K:fI}:nh K (λy x H Q=>∃a o,x=V.ref a/\sF H a y o/\Q (.bl o.isSome) H) Rt:=by intro G0 L0 H0 G L M H v1 v2 d1 d2 q e r n1 n2 ⟨k,ks,ds,key,ed,hm,hk,h⟩;subst ed;have⟨a,rfl,yB⟩:=n2;have⟨_,vs,hH,hl,dn⟩:=r.eP k a _ yB hm;refine⟨a,_,rfl,.inl ⟨_,key,.inl hH,gB hk n1,rfl⟩,?_⟩;have GU:ks.length=vs.length:=hl.trans dn.length;rw[nM GU];exact bB e r h
def Ue(hr:bT k' X.A)(ja:JE X R a ta)(jb:JE X R b tb)(hm:behindInMarks .In b=false:=by rfl):JE X R (.Compare a [.In] [b] pos) (jO Rt ta tb):=vk (JN (vL hr)) SA ja jb hm
def Ql(hr:bT k' X.A)(ja:JE X R a ta)(jb:JE X R b tb)(hm:behindInMarks .In b=false:=by rfl):JT X R (.Compare a [.In] [b] pos) (kn (jO Rt ta tb)):=fC (JN (vL hr)) SA ja jb hm
end
def eV(ks:List Key)(k:Key):List Key:=if Hf ks k=true then ks else ks++[k]
def lT{α:Type}(k:Key)(v:α):List Key->List α->List α
 |c::ks,x::xs=>(if c=k then v else x)::lT k v ks xs
 |_,_=>[]
def dM{α:Type}(ks:List Key)(k:Key)(xs:List α)(v:α):List α:=if Hf ks k=true then lT k v ks xs else xs++[v]
def ow{α:Type}{k:Key}{v:α}:∀{ks:List Key}{xs:List α},ks.length=xs.length->(lT k v ks xs).length=ks.length
 |[],[],_=>rfl
 |_::ks,_::xs,h=>by
  have h:ks.length=xs.length:=by simpa using h
  show(lT k v ks xs).length+1=ks.length+1;rw[ow h]
def vi{k:Key}{v:V}:∀{ks:List Key}{vs:List V},ks.length=vs.length->(ks.zip vs).map (λkv=>if kv.1=k then (kv.1,v) else kv)=ks.zip (lT k v ks vs)
 |[],[],_=>rfl
 |c::ks,x::vs,h=>by
  have h:ks.length=vs.length:=by simpa using h
  rw[abd,aaH,vi h];show _=(c,if c=k then v else x)::ks.zip (lT k v ks vs)
  congr 1
  show(if c=k then (c,v) else (c,x))=_;split <;> rfl
def oC{K:fI}{G:Hp}{L:List Addr}{k:Key}{d:Dt}{v:V}(n:Den K G L d v):∀{ks:List Key}{ds:List Dt}{vs:List V},Ψ K G L ds vs->ks.length=ds.length->Ψ K G L (lT k d ks ds) (lT k v ks vs)
 |[],[],_,h,_=>by cases h;rfl
 |c::ks,x::ds,_,⟨y,vs,e,n0,ns⟩,hl=>by
  subst e;have hl:ks.length=ds.length:=by simpa using hl
  refine⟨_,_,rfl,?_,oC n ns hl⟩;show Den K G L (if c=k then d else x) (if c=k then v else y);split
  ·exact n
  ·exact n0
def Kq{k:Key}(h:ks.length=vs.length):iQ (ks.zip vs) k v=(eV ks k).zip (dM ks k vs v):=by
 unfold iQ eV dM;rw[nB,nM h];split
 ·exact vi h
 ·rw[List.zip_append h];rfl
def lZ(to ti tv:DE):DS:=λDn ρ M=>tv ρ M (λy M1=>to ρ M1 (λd M2=>ti ρ M2 (λdi M3=>∃k ks ds key,d= .loc k/\M3[k]? =some (.bX ks ds)/\rG di=some key/\ks.length<1000/\Dn.nx ρ (M3.set k (.bX (eV ks key) (dM ks key ds y)))) Dn.x) Dn.x) Dn.x
section
variable{value:Expr}{tv:DE}{pos':Pos}
def jD(hr:bT k' X.A)(ho:JE X R o to)(hi:JE X R i ti)(hv:JE X R value tv)(hs:swapsWith value (some (.Subscript o i pos')) pos.line X.env=pure false:=by rfl):JS X R (.Assign [.Subscript o i pos'] value pos) (lZ to ti tv):=
 .of (M6 (vL hr) ho hi hv hs) λσ H G L ρ M Dn rl n h hx=>by
  refine⟨G,L,ρ,M,_,_,rl,n,h,hx,λv H1 xz=>?_⟩;have⟨dv,G1,L1,M1,e1,r1,n1,h1⟩:=xz;refine⟨G1,L1,ρ,M1,_,_,r1,n.mono e1,h1,hx.on e1,λov H2 xz=>?_⟩;have⟨d,G2,L2,M2,e2,r2,n2,h2⟩:=xz;refine⟨G2,L2,ρ,M2,_,_,r2,(n.mono e1).mono e2,h2,(hx.on e1).on e2,λiv H3 xz=>?_⟩;have⟨di,G3,L3,M3,e3,r3,n3,k,ks,ds,key,ed,hm,hk,hlen,h3⟩:=xz;subst ed;have⟨a,rfl,A7⟩:=n2;have yo:=e3.l.get A7;have⟨_,vs,hH,hl,dn⟩:=r3.eP k a _ yo hm;have Gv:=e2.trans e3;have V9:=Den.mono Gv.g Gv.l _ _ n1;have GU:ks.length=vs.length:=hl.trans dn.length;obtain rfl:iv=kV key:=gB hk n3;have z:(ks.zip vs).length<sizeLine:=by rw[abe];exact aaX (Nat.min_le_left _ _) (Nat.lt_trans hlen @_)
  refine⟨a,_,rfl,IQ.k hH z,ρ,G3,L3,_,((e1.trans e2).trans e3).trans (r3.EW yo),r3.setM (m:=.bX (eV ks key) (dM ks key ds dv)) yo ⟨dM ks key vs v,by rw[Ω,Kq GU],?_,?_⟩,(((n.mono e1).mono e2).mono e3).mono (r3.EW (o:=.own a) yo),h3⟩
  ·unfold eV dM;split
   ·rw[ow hl]
   ·rw[aah,aah,hl];rfl
  ·unfold dM;split
   ·exact oC V9 dn hl
   ·exact dn.app ⟨_,_,rfl,V9,rfl⟩
end
inductive K6(M:Ms):Nat->Dt->Dt->Bool->Prop
 |flat {n:Nat} {d e:Dt} {x y:V} (h1:pV d=some x) (h2:pV e=some y):K6 M n d e (qo x y)
 | bX {n k1 k2:Nat} {ks ly:List Key} {ds qD:List Dt} {f:Nat->Bool} (h1:M[k1]? =some (.bX ks ds)) (h2:M[k2]? =some (.bX ly qD)) (hl:ks.length=ly.length) (hn:∀j k,ks[j]? =some k->aH ly qD k=none->f j=false)
   (h:∀j k d d',ks[j]? =some k->ds[j]? =some d->aH ly qD k=some d'->K6 M n d d' (f j)):K6 M (n+1) (.loc k1) (.loc k2) ((List.range ks.length).all f)
 |len {n k1 k2:Nat} {ks ly:List Key} {ds qD:List Dt} (h1:M[k1]? =some (.bX ks ds)) (h2:M[k2]? =some (.bX ly qD)) (hl:ks.length≠ly.length):K6 M (n+1) (.loc k1) (.loc k2) false
def vy{K:fI}{G:Hp}{L:List Addr}:∀{ds:List Dt}{vs:List V},Ψ K G L ds vs->∀{j:Nat}{v:V},vs[j]? =some v->∃d,ds[j]? =some d/\Den K G L d v
 |[],vs,h,j,v,e=>by cases h;simp at e
 |d::ds,_,⟨y,r,e0,n0,ns⟩,0,v,e=>by
  subst e0;have:y=v:=by simpa using e
  subst this;exact⟨d,rfl,n0⟩
 |d::ds,_,⟨y,r,e0,n0,ns⟩,j+1,v,e=>by subst e0;have⟨d',h1,h2⟩:=vy ns (show r[j]? =some v by simpa using e);exact⟨d',by simpa using h1,h2⟩
def xX{K:fI}{G:Hp}{L:List Addr}{k:Key}:∀{ks:List Key}{ds:List Dt}{vs:List V},Ψ K G L ds vs->ks.length=ds.length->(aH ks ds k=none/\fk (ks.zip vs) k=none)\/∃d v,aH ks ds k=some d/\fk (ks.zip vs) k=some v/\Den K G L d v
 |[],ds,vs,_,_=>.inl ⟨rfl,rfl⟩
 |c::ks,[],vs,_,hl=>by simp at hl
 |c::ks,d::ds,_,⟨y,r,e0,n0,ns⟩,hl=>by
  subst e0;have hl:ks.length=ds.length:=by simpa using hl
  have e1:aH (c::ks) (d::ds) k=if c=k then some d else aH ks ds k:=by
   unfold aH;rw[abd,List.find?_cons];by_cases e:c=k
   ·rw[if_pos e];simp[e]
   ·rw[if_neg e];simp[e]
  rw[abd,e1];by_cases e:c=k
  ·rw[aax e,dt e];exact .inr ⟨d,y,rfl,rfl,n0⟩
  ·rw[aaw e,cN e];exact xX ns hl
def TB{K:fI}{H:Hp}(r:Rl K G L M H){e:Dt}(h:K6 M n d e c):∀{x y:V},Den K G L d x->Den K G L e y->wk H n x y c:=by
 induction h with
 |flat h1 h2=>
  intro x y n1 n2;have⟨e1,f1⟩:=gT h1 n1;have⟨e2,f2⟩:=gT h2 n2;subst e1 e2;exact .flat f1 f2
 |@bX n k1 k2 ks ly ds qD f h1 h2 hl hn h ih=>
  intro x y n1 n2;have⟨a,rfl,a1⟩:=n1;have⟨b,rfl,b1⟩:=n2;have⟨_,vs,hH,hz,dn⟩:=r.eP k1 a _ a1 h1;have⟨_,yE,Nz,N6,He⟩:=r.eP k2 b _ b1 h2;have l1:(ks.zip vs).length=ks.length:=by rw[abe,<-dn.length,hz,acn]
  have l2:(ly.zip yE).length=ly.length:=by rw[abe,<-He.length,N6,acn]
  have:=wk.bX (H:=H) (n:=n) (e:=f) (.inl hH) (.inl Nz) (by rw[l1,l2];exact hl) (λj k v hj hv=>by
   have⟨g1,g2⟩:=abJ.mp hj;rcases xX (k:=k) He N6 with ⟨q1,_⟩| ⟨d',v',_,q2,_⟩
   ·exact hn j k g1 q1
   ·rw[hv]at q2;cases q2) (λj k v v' hj hv=>by
   have⟨g1,g2⟩:=abJ.mp hj;have⟨d0,g3,g4⟩:=vy dn g2;rcases xX (k:=k) He N6 with ⟨_,q1⟩| ⟨d',v2,q1,q2,q3⟩
   ·rw[hv]at q1;cases q1
   ·rw[hv]at q2;obtain rfl:v'=v2:=aar q2
    exact ih j k d0 d' g1 g3 q1 g4 q3)
  rwa[l1]at this
 |@len n k1 k2 ks ly ds qD h1 h2 hl=>
  intro x y n1 n2;have⟨a,rfl,a1⟩:=n1;have⟨b,rfl,b1⟩:=n2;have⟨_,vs,hH,hz,dn⟩:=r.eP k1 a _ a1 h1;have⟨_,yE,Nz,N6,He⟩:=r.eP k2 b _ b1 h2;have l1:(ks.zip vs).length=ks.length:=by rw[abe,<-dn.length,hz,acn]
  have l2:(ly.zip yE).length=ly.length:=by rw[abe,<-He.length,N6,acn]
  exact .len (.inl hH) (.inl Nz) (by rw[l1,l2];exact hl)
section
variable{f a b v1 v2:Expr}{tx t1 t2:DE}{cD:Pos}
def Di:Dt->Dt->Ms->DQ->Prop:=λdi d M q=>∃k ks ds key,d= .loc k/\M[k]? =some (.bX ks ds)/\rG di=some key/\q (.bl (!Hf ks key)) M
def Fj(hu:X.A.units+1<cLine):jo X (compareOp .NotIn) (λy x H Q=>∃a o,x=V.ref a/\sF H a y o/\Q (.bl (!o.isSome)) H):=by intro ζ s σ H x y u v Q I rx ry ⟨a,o,ex,g,q⟩;subst ex;obtain rfl:v=Value.ref a:=ry;exact MW hu I g rx λs3 I3=>⟨.bl (!o.isSome),H,I3,rfl,q⟩
def NH{K:fI}:nh K (λy x H Q=>∃a o,x=V.ref a/\sF H a y o/\Q (.bl (!o.isSome)) H) Di:=by intro G0 L0 H0 G L M H v1 v2 d1 d2 q e r n1 n2 ⟨k,ks,ds,key,ed,hm,hk,h⟩;subst ed;have⟨a,rfl,yB⟩:=n2;have⟨_,vs,hH,hl,dn⟩:=r.eP k a _ yB hm;refine⟨a,_,rfl,.inl ⟨_,key,.inl hH,gB hk n1,rfl⟩,?_⟩;have GU:ks.length=vs.length:=hl.trans dn.length;rw[nM GU];exact bB e r h
def pG(hr:bT k' X.A)(ja:JE X R a ta)(jb:JE X R b tb)(hm:behindInMarks .NotIn b=false:=by rfl):JT X R (.Compare a [.NotIn] [b] pos) (kn (jO Di ta tb)):=fC (Fj (vL hr)) NH ja jb hm
def wA:dU X (.type "dict") (λxs H Q=>∃a Κ,xs=[V.ref a]/\Rd H a (.dK Κ)/\∀p,H p=none->Q (.ref p) (upd H p (.dK Κ))):=by
 intro ζ s σ H xs us Q I r ⟨a,Κ,ex,e,q⟩;subst ex;cases r with
 |cons r1 r2=>
  cases r2;cases r1;exact Kw I e λp s' hp I'=>⟨.ref p,_,I',rfl,q p hp⟩
def J9:List Dt->Ms->DQ->Prop
 |[d],M,q=>∃k ks ds,d= .loc k/\M[k]? =some (.bX ks ds)/\q (.loc M.length) (M++[.bX ks ds])
 |_,_,_=>False
def Tb{K:fI}:B4 K (λxs H Q=>∃a Κ,xs=[V.ref a]/\Rd H a (.dK Κ)/\∀p,H p=none->Q (.ref p) (upd H p (.dK Κ))) J9:=by
 intro G0 L0 H0 G L M H vs ds q e r n h;unfold J9 at h;split at h
 ·rename_i d;have⟨v,rfl,n1⟩:=bF n;have⟨k,ks,ds,ed,hm,h⟩:=h;subst ed;have⟨a,rfl,hk⟩:=n1;have⟨_,vs,hH,hl,dn⟩:=r.eP k a _ hk hm;refine⟨a,_,rfl,.inl hH,λp hp=>?_⟩;exact⟨.loc M.length,G,L++[p],_,e.trans (r.VN hp),r.M7 (m:=.bX ks ds) hp ⟨vs,Ω,hl,Ψ.mono (.refl _) ⟨[p],rfl⟩ _ _ dn⟩,⟨p,rfl,by rw[<-r.len,List.getElem?_append_right (Nat.le_refl _)];simp⟩,h⟩
 ·exact h.elim
def rf:bootBuiltins "dict"=some (.type "dict"):=by decide+kernel
def wu(hm:X.mg "dict"=none)(ha:JA X R [e] t)(hg:Gl X "dict":=by rfl)(he:starEach [e] X.env=(false,eval e X.env)::starEach [] X.env:=by rfl)(gz:(backTo pos (starEach [] X.env)).any (·.1)=false:=by rfl):JE X R (.Call (.Name "dict" p) [e] [] pos) (A6 J9 t):=
 r_ wA Tb hm rf ha hg @_ @_ he gz
end
section
variable{f v1 v2:Expr}{tx t1 t2:DE}{cD:Pos}
def Ed{K:fI}{G1:Hp}{L1:List Addr}{H1:Hp}{H:Hp}{p:Addr}{q:DQ}(e:Ex G1 L1 H1 G L H)(r:Rl K G L M H)(Hg:H1 p=none)(hg:G p=none)(hl:p∉L)(h:H p=some (.dK (ks.zip vs)))(hk:ks.length=ds.length)(n:Ψ K G L ds vs)(k:q (.loc M.length) (M++[.bX ks ds])):Fin K G1 L1 H1 q (.ref p) H:=by
 refine⟨.loc M.length,G,L++[p],M++[.bX ks ds],⟨e.g,e.l.trans ⟨[p],rfl⟩,e.fr,e.out,λb hb=>?_,e.Dc⟩,⟨r.sub,by rw[List.length_append,List.length_append,r.len];rfl,List.nodup_append.mpr ⟨r.nd,by simp,λa ha b hb=>?_⟩,λk a m h1 h2=>?_⟩,⟨p,rfl,by rw[<-r.len,List.getElem?_append_right (Nat.le_refl _)];simp⟩,k⟩
 ·rcases aaV.mp hb with z| z
  ·exact e.new b z
  ·have e:b=p:=by simpa using z
   right;rw[e];exact Hg
 ·have e:b=p:=by simpa using hb
  rw[e];exactλz=>hl (z▸ha)
 ·by_cases qv:k<L.length
  ·rw[aas qv]at h1;rw[aas (by rw[<-r.len];exact qv)]at h2;have⟨q1,q2⟩:=r.eP k a m h1 h2;exact⟨q1,q2.mono (.refl _) ⟨[p],rfl⟩ rfl⟩
  ·have e:k=L.length:=by have:=(aaf.mp h1).1;rw[aah]at this;simp at this;omega
   rw[e,aao (aan _)]at h1;rw[e,r.len,aao (aan _)]at h2;simp at h1 h2;subst h1 h2;exact⟨hg,vs,h,hk,Ψ.mono (.refl _) ⟨[p],rfl⟩ _ _ n⟩
def NG{z1 z2:Str}{c1 c2:Nat}{p1 p2:Pos}(U1:JE X R v1 t1)(YA:JE X R v2 t2)(jn:z1≠z2:=by decide):
  JE X R (.Dict [some (.Constant (.str z1) c1 p1),some (.Constant (.str z2) c2 p2)] [v1,v2] pos) (λρ M q x=>t1 ρ M (λd1 M1=>t2 ρ M1 (λd2 M2=>q (.loc M2.length) (M2++[.bX [Sum.inr z1,Sum.inr z2] [d1,d2]])) x) x):=
 .of (yx (kT pcs U1 (kT pcs YA xi)) rfl rfl (by simp) (by show 2<=15;decide)) λσ H G L ρ M q x rl n h hx=>by
  intro p hp;have gn:G p=none:=rl.sub.free hp;have ln:p∉L:=rl.Lz hp;have e0:Ex G L H G L (upd H p (.dK [])):=⟨.refl _,.refl _,λ_ h _=>h,λb u h1 _=>by rw[Μ (λz=>by rw[z,hp]at h1;cases h1)];exact h1,λ_ h=>.inl h,λb h=>by rw[Μ (λz=>h (by rw[z];exact hp))];exact h⟩
  have r0:Rl X.K G L M (upd H p (.dK [])):=⟨λb u e=>by rw[Μ (λz=>by rw[z,gn]at e;cases e)];exact rl.sub b u e,rl.len,rl.nd,λi a m h1 h2=>by
   have⟨q1,q2⟩:=rl.eP i a m h1 h2
   exact⟨q1,q2.mono (.refl _) (.refl _) (Μ λz=>q2.there (by rw[z];exact hp))⟩⟩
  refine⟨G,L,ρ,M,_,x,r0,n,h,hx.on e0,λu1 H1 xz=>?_⟩;have⟨d1,G1,L1,M1,e1,r1,n1,h1⟩:=xz;have Hg:H1 p=some (.dK []):=e1.out _ _ Ω ln;have g1:G1 p=none:=e1.fr _ gn (by rw[Ω];simp);have l1:p∉L1:=λz=>(e1.new _ z).elim ln λq=>by rw[Ω]at q;cases q
  refine⟨G1,L1,ρ,M1,_,x,r1,n.mono (e0.trans e1),h1,hx.on (e0.trans e1),λu2 H2 xz=>?_⟩;have⟨d2,G2,L2,M2,e2,r2,n2,h2⟩:=xz;have SX:H2 p=some (.dK []):=e2.out _ _ Hg l1;have g2:G2 p=none:=e2.fr _ g1 (by rw[Hg];simp);have l2:p∉L2:=λz=>(e2.new _ z).elim l1 λq=>by rw[Hg]at q;cases q
  refine⟨SX,[(Sum.inr z1,u1),(Sum.inr z2,u2)],rfl,by show 2<=15;decide,?_⟩;rw[lj _ [] (λ_ _=>rfl) (by simp[jn]),List.nil_append];have RF:=(e0.trans e1).trans e2;have W9:∀{b:Addr} {w:HO},G2 b=some w->b≠p:=λe z=>by rw[z,g2]at e;cases e
  refine Ed (G:=G2) (L:=L2) (M:=M2) (ks:=[Sum.inr z1,Sum.inr z2]) (ds:=[d1,d2]) (vs:=[u1,u2]) ⟨RF.g,RF.l,RF.fr,λb w h1 h2=>?_,RF.new,λb h=>?_⟩ ⟨λb w e=>?_,r2.len,r2.nd,λi a m h1 h2=>?_⟩ hp g2 l2 Ω rfl ⟨_,_,rfl,Den.mono e2.g e2.l _ _ n1,_,_,rfl,n2,rfl⟩ h2
  ·rw[Μ (λz=>by rw[z,hp]at h1;cases h1)];exact RF.out b w h1 h2
  ·by_cases hb:b=p
   ·rw[hb,Ω];simp
   ·rw[Μ hb];exact RF.Dc b h
  ·rw[Μ (W9 e)];exact r2.sub b w e
  ·have⟨q1,q2⟩:=r2.eP i a m h1 h2;exact⟨q1,q2.mono (.refl _) (.refl _) (Μ λz=>l2 (by rw[<-z];exact aag h1))⟩
end
def Uk:Dt->Bool
 |.bj=>true
 |_=>false
def Lv{K:fI}(n:Den K G L d v):decide (v= .bj)=Uk d:=by
 cases d with
 |bj=>cases n;rfl
 |bl b=>cases n;rfl
 |int i=>cases n;rfl
 |str x=>cases n;rfl
 |tup ds=>have⟨a,vs,rfl,_⟩:=n;rfl
 |lst ds=>have⟨a,vs,rfl,_⟩:=n;rfl
 |obj C ns ds=>have⟨a,dx,vs,rfl,_⟩:=n;rfl
 |loc k=>have⟨a,rfl,_⟩:=n;rfl
 |ref a=>cases n;rfl
 |ty m=>cases n;rfl
 |iA ns=>have⟨a,rfl,_⟩:=n;rfl
 |kt ds=>have⟨a,vs,rfl,_⟩:=n;rfl
 |exc C ns ds=>have⟨a,od,vs,rfl,_⟩:=n;rfl
 |RT x C od ns ds=>have⟨vs,rfl,_⟩:=n;rfl
def N0:Dt->Dt->Ms->DQ->Prop:=λd e M q=>e= .bj/\q (.bl (!Uk d)) M
def Vc{K:fI}:nh K (λx y H Q=>y= .bj/\Q (.bl (!decide (x= .bj))) H) N0:=by intro G0 L0 H0 G L M H v1 v2 d1 d2 q e r n1 n2 ⟨e2,h⟩;subst e2;refine⟨n2,?_⟩;rw[Lv n1];exact bB e r h
section
variable{a b:Expr}
def Nl(ja:JE X R a ta)(jb:JE X R b tb):JT X R (.Compare a [.IsNot] [b] pos) (kn (jO N0 ta tb)):=fC MH Vc ja jb (hJ _)
end
def iV{α:Type}(is:List Nat)(xs:List α):List α:=is.filterMap λi=>xs[i]?
def Bm{α β:Type}{F:α->β->Prop}:∀{xs:List α}{ys:List β},Paired F xs ys->∀{i:Nat}{x:α},xs[i]? =some x->∃y,ys[i]? =some y/\F x y
 |_,_,.nil,i,x,h=>by simp at h
 |_,_,.cons r t,0,x,h=>by obtain rfl:=aar h;exact⟨_,rfl,r⟩
 |_,_,.cons r t,i+1,x,h=>by have⟨y,e,f⟩:=Bm t (show _=some x by simpa using h);exact⟨y,by simpa using e,f⟩
def rD{α β:Type}{F:α->β->Prop}{xs:List α}{ys:List β}(p:Paired F xs ys):∀is:List Nat,Paired F (iV is xs) (iV is ys)
 |[]=>.nil
 |i::is=>by
  have ih:=rD p is;unfold iV at ih⊢;rw[acj,acj];cases hx:xs[i]? with
  |none=>
   have:ys[i]? =none:=by rw[List.getElem?_eq_none_iff]at hx⊢;rw[<-Paired.length p];exact hx
   rw[this];exact ih
  |some x=>
   have⟨y,hy,r⟩:=Bm p hx;rw[hy];exact .cons r ih
def GR{a b:Nat}(its:List Value)(hb:0<b)(ha:a<=its.length):slicePick its.toArray (some (a:Int)) none (some (b:Int))=(iV (sliceRange a its.length b) its).toArray:=by
 have hs:sliceBounds (some (a:Int)) none (some (b:Int)) its.length=((a:Int),(its.length:Int),(b:Int)):=by
  unfold sliceBounds;have h1:(b:Int) > 0:=()
  have h2:¬(a:Int)<0:=()
  simp only[Option.getD_some,h1,if_true,h2,if_false];refine Prod.ext ?_ rfl;show max (0:Int) (min (a:Int) (its.length:Int))=a;omega
 unfold slicePick;rw[aay,hs]
 congr 1
 unfold iV
 congr 1
 funext i
 simp
section
variable{l k:Expr}{te tl tk:TE}{p2:Pos}
def U_(K:fI)(a b:Nat)(te tl tk:TE):TE:=λσ H Q=>te σ H λx H1=>tl σ H1 λy H2=>∃i:Int,y= .int i/\some i=some (a:Int)/\tk σ H2 λz H3=>∃j:Int,z= .int j/\some j=some (b:Int)/\∃c xs,x= .ref c/\gK K H3 c xs/\a<=xs.length/\(sliceRange a xs.length b).length<=xs.length/\∀p,H3 p=none->Q (.ref p) (upd H3 p (.lst (iV (sliceRange a xs.length b) xs)))
def HI{α:Type}{xs:List α}:∀is:List Nat,(iV is xs).length<=is.length:=λis=>List.length_filterMap_le _ _
def LR{a b:Nat}(hb:0<b)(he:PE X e te)(hl:PE X l tl)(hk:PE X k tk):PE X (.Subscript e (.Slice (some l) none (some k) p2) pos) (U_ X.K a b te tl tk):=by intro ζ s σ H Q I h;refine Subscript_ (bJ (he ζ s σ H _ I h) λv s1 xz=>?_);have⟨x,H1,I1,r1,q1⟩:=xz;refine wpAny_Slice (bJ (lA hl ζ s1 σ H1 (λo H2=>o=some (a:Int)/\tk σ H2 λz H3=>∃j:Int,z= .int j/\some j=some (b:Int)/\∃c xs,x= .ref c/\gK X.K H3 c xs/\a<=xs.length/\(sliceRange a xs.length b).length<=xs.length/\∀p,H3 p=none->Q (.ref p) (upd H3 p (.lst (iV (sliceRange a xs.length b) xs)))) I1 q1) λvl s2 xz=>?_);have⟨o1,H2,I2,pl,el,q2⟩:=xz;rw[evalPart_none];refine aaR ?_;refine bJ (lA hk ζ s2 σ H2 (λo H3=>o=some (b:Int)/\∃c xs,x= .ref c/\gK X.K H3 c xs/\a<=xs.length/\(sliceRange a xs.length b).length<=xs.length/\∀p,H3 p=none->Q (.ref p) (upd H3 p (.lst (iV (sliceRange a xs.length b) xs)))) I2 q2) λvs s3 xz=>?_;have⟨o,H3,I3,ps,eo,c,xs,ex,hx,ha,hn,q⟩:=xz;subst el eo ex;cases r1;have I4:Inv X ζ σ H3 {s3 with heap:=s3.heap.push {cls:=.type "slice",data:=.fields #[vl,.none,vs]}}:=I3.kept (t':=s3.toks) λb ob q=>aal _ q;have⟨its,r,ht,hz⟩:=I4.list hx;have hlen:=r.length;show wpAny (model X.prog X.w) X.A (subscriptTail e (.Slice (some l) none (some k) p2) (.ref c) (.ref s3.heap.objs.size)) (EP X ζ σ Q) X.xe {s3 with heap:=s3.heap.push {cls:=.type "slice",data:=.fields #[vl,.none,vs]}};refine tail_any (ops:=[.ref c,.ref s3.heap.objs.size]) ht.isList.typeIs slot_list_getitem.lookup ?_ (by with_unfolding_all rfl);refine wpAny_getItem_list_slice ht.isList (Heap.IsSliceOf.new ..) pl .none ps (λz=>by injection z with z;omega) ?_ (by rw[aay] <;> omega);rw[GR its hb (),<-hlen];refine⟨.ref _,_,I4.laid (t':=s3.toks) (o:=.lst (iV (sliceRange a xs.length b) xs)) (λb ob q=>aal _ q) (aan _) ?_,rfl,q _ (I4.aS.fresh (aan _))⟩;exact⟨aaE (HI _) (aaE hn hz),_,0,rD r _,aaS _ rfl⟩
end
def Us(td te:TE):TE:=λσ H Q=>td σ H λx H1=>∃a,x= .ref a/\Zm H1 a/\te σ H1 λy H2=>∃b Κ more,y= .ref b/\a≠b/\H2 a=some (.dK Κ)/\Rd H2 b (.dK more)/\Κ.length+more.length<=sizeLine/\Q .bj (upd H2 a (.dK (iO Κ more)))
section
variable{cD:Pos}{td te:TE}
def LZ(ho:PE X o td)(he:PE X e te)(m:M1 X o "update" apos e cD):PE X (.Call (.Attribute o "update" apos) [e] [] cD) (Us td te):=by
 intro ζ s σ H Q I h;refine wpAny_Call_method m.base m.few m.line PySem.F.plainAttrs_dict PySem.F.slot_dict_update PySem.F.type_dict_update (bJ (ho ζ s σ H _ I h) λu s1 xz=>?_);have⟨x,H1,I1,rx,a,ex,d,q1⟩:=xz;subst ex;obtain rfl:u=Value.ref a:=rx;have⟨t1,t2,_⟩:=Jp I1 d;refine⟨t1,t2,?_⟩;rw[m.trees];refine Calls.callWith_builtin rfl (Calls.evalArgs_plain (Calls.spliced_cons (bJ (he ζ s1 σ H1 _ I1 q1) fun iv s2 ⟨y,H2,I2,ry,b,Κ,more,ey,jn,hA,hB,hz,q2⟩=>Calls.spliced_nil ?_)));subst ey;obtain rfl:iv=Value.ref b:=ry;have⟨z1,d1,vs,r1,dd1⟩:=Eb I2.aS hA;have⟨z2,d2,rs,r2,VL⟩:=eW I2.aS hB;refine call_meetsIn PySem.F.slot_dict_update dd1.typeIs PySem.F.entry_dict_update (PySem.F.args_dict_update_2 _ _) (meets_dict_update (bA X.prog X.w) a b jn d2) ⟨vs,rs,dd1,VL,by rw[<-r1.length,<-r2.length];exact hz,λh' hm _ hs=>?_⟩;have hex:∃q,h'.get? a=some q:=let ⟨q,_,_,hq,_⟩:=hm;⟨q,hq⟩
 exact⟨.bj,_,qN (t':=s2.toks) I2 (by rw[hA];exact True.intro) hs hex (sA (aaE (iF more Κ) hz) d1 (KV.merge r2 r1) hm),rfl,q2⟩
end
section
variable{l k a b:Expr}{tl tk:DE}{p2 cD:Pos}
def Oa(a b:Nat)(te tl tk:DE):DE:=λρ M q x=>te ρ M (λd M1=>tl ρ M1 (λdi M2=>di= .int a/\tk ρ M2 (λdk M3=>∃ds,lX M3 d=some ds/\dk= .int b/\a<=ds.length/\(sliceRange a ds.length b).length<=ds.length/\q (.loc M3.length) (M3++[.lst (iV (sliceRange a ds.length b) ds)])) x) x) x
def QK{a b:Nat}(he:JE X R e te)(hl:JE X R l tl)(hk:JE X R k tk)(hb:0<b:=by decide):JE X R (.Subscript e (.Slice (some l) none (some k) p2) pos) (Oa a b te tl tk):=
 .of (LR hb he hl hk) λσ H G L ρ M q x rl n h hx=>by refine⟨G,L,ρ,M,_,x,rl,n,h,hx,λv H1 xz=>?_⟩;have⟨d1,G1,L1,M1,e1,r1,n1,h1⟩:=xz;refine⟨G1,L1,ρ,M1,_,x,r1,n.mono e1,h1,hx.on e1,λv2 H2 xz=>?_⟩;have⟨d2,G2,L2,M2,e2,r2,n2,ei,h2⟩:=xz;subst ei;have n2:v2= .int a:=n2;subst n2;refine⟨_,rfl,rfl,G2,L2,ρ,M2,_,x,r2,(n.mono e1).mono e2,h2,(hx.on e1).on e2,λv3 H3 xz=>?_⟩;have⟨d3,G3,L3,M3,e3,r3,n3,ds,ed,ek,ha,hn,h3⟩:=xz;subst ek;have n3:v3= .int b:=n3;subst n3;have Gv:=e2.trans e3;have⟨c,vs,rfl,sq,m⟩:=gF r3 (Den.mono Gv.g Gv.l _ _ n1) ed;have hl:=m.length;refine⟨_,rfl,rfl,c,vs,rfl,sq,by rw[<-hl];exact ha,by rw[<-hl];exact hn,λp hp=>?_⟩;rw[<-hl];exact jH (e1.trans Gv) r3 hp (Ψ.of (rD m.pair _)) h3
def Oz(to te:DE):DE:=λρ M q x=>to ρ M (λd M1=>(∃k ks ds,d= .loc k/\M1[k]? =some (.bX ks ds))/\te ρ M1 (λdi M2=>∃k ks ds key,d= .loc k/\M2[k]? =some (.bX ks ds)/\rG di=some key/\q ((aH ks ds key).getD .bj) M2) x) x
def IW(hr:bT k' X.A)(ho:JE X R o to)(he:JE X R e te)(m:M1 X o "get" apos e cD:=by exact⟨rfl,rfl,rfl,rfl⟩):JE X R (.Call (.Attribute o "get" apos) [e] [] cD) (Oz to te):=
 .of (Jx (vL hr) ho he m) λσ H G L ρ M q x rl n h hx=>by
  refine⟨G,L,ρ,M,_,x,rl,n,h,hx,λv H1 xz=>?_⟩;have⟨d1,G1,L1,M1,e1,r1,n1,⟨k0,ks0,ds0,WO,VJ⟩,h1⟩:=xz;subst WO;have⟨a,rfl,hk⟩:=n1;have⟨_,vs0,ZN,_,_⟩:=r1.eP k0 a _ hk VJ;refine⟨a,rfl,.inl ⟨_,.inl ZN⟩,G1,L1,ρ,M1,_,x,r1,n.mono e1,h1,hx.on e1,λv2 H2 xz=>?_⟩;have⟨d2,G2,L2,M2,e2,r2,n2,k,ks,ds,key,ed,hm,Hl,h3⟩:=xz;cases ed;have yo:=e2.l.get hk;have⟨_,vs,hH,_,dn⟩:=r2.eP k0 a _ yo hm;refine⟨_,.inl ⟨_,key,.inl hH,gB Hl n2,rfl⟩,?_⟩;cases hg:aH ks ds key with
  |none=>
   rw[hg]at h3;rw[vg dn hg];exact fin_same (e1.trans e2) r2 (show Den X.K G2 L2 .bj V.bj from rfl) h3
  |some d=>
   rw[hg]at h3;have⟨u,hu,du⟩:=kX dn hg;rw[hu];exact fin_same (e1.trans e2) r2 du h3
def qh(ks:List Key):List Key->List Key
 |[]=>ks
 |k::r=>qh (eV ks k) r
def sN(ks:List Key)(ds:List Dt):List Key->List Dt->List Dt
 |k::r,d::qD=>sN (eV ks k) (dM ks k ds d) r qD
 |_,_=>ds
def QR{α:Type}{k:Key}{xs:List α}{v:α}(h:ks.length=xs.length):(eV ks k).length=(dM ks k xs v).length:=by
 unfold eV dM;split
 ·rw[ow h]
 ·rw[aah,aah,h];rfl
def Qz{K:fI}{k:Key}(n:Den K G L d v)(h:Ψ K G L ds vs)(hl:ks.length=ds.length):Ψ K G L (dM ks k ds d) (dM ks k vs v):=by
 unfold dM;split
 ·exact oC n h hl
 ·exact h.app ⟨_,_,rfl,n,rfl⟩
def EI{K:fI}{G:Hp}{L:List Addr}:∀{ly:List Key}{qD:List Dt}{yE:List V}{ks:List Key}{ds:List Dt}{vs:List V},ly.length=qD.length->Ψ K G L qD yE->ks.length=ds.length->Ψ K G L ds vs->
  ∃us,iO (ks.zip vs) (ly.zip yE)=(qh ks ly).zip us/\(qh ks ly).length=(sN ks ds ly qD).length/\Ψ K G L (sN ks ds ly qD) us
 |[],[],_,ks,ds,vs,_,h2,hl,h=>by cases h2;exact⟨vs,rfl,hl,h⟩
 |k::ly,d::qD,_,ks,ds,vs,GU,⟨v,yE,e,n0,ns⟩,hl,h=>by
  subst e;have GU:ly.length=qD.length:=by simpa using GU
  have⟨us,e1,e2,e3⟩:=EI (ks:=eV ks k) (ds:=dM ks k ds d) (vs:=dM ks k vs v) GU ns (QR hl) (Qz n0 h hl);refine⟨us,?_,e2,e3⟩;rw[abd];show iO (iQ (ks.zip vs) k v) (ly.zip yE)=(qh (eV ks k) ly).zip us;rw[Kq (hl.trans h.length),e1]
def Ih(to te:DE):DE:=λρ M q x=>to ρ M (λd M1=>(∃k ks ds,d= .loc k/\M1[k]? =some (.bX ks ds))/\te ρ M1 (λd2 M2=>∃k k2 ks ds ly qD,d= .loc k/\d2= .loc k2/\k≠k2/\M2[k]? =some (.bX ks ds)/\M2[k2]? =some (.bX ly qD)/\ks.length+ly.length<=1000/\q .bj (M2.set k (.bX (qh ks ly) (sN ks ds ly qD)))) x) x
def JM(ho:JE X R o to)(he:JE X R e te)(m:M1 X o "update" apos e cD:=by exact⟨rfl,rfl,rfl,rfl⟩):JE X R (.Call (.Attribute o "update" apos) [e] [] cD) (Ih to te):=
 .of (LZ ho he m) λσ H G L ρ M q x rl n h hx=>by
  refine⟨G,L,ρ,M,_,x,rl,n,h,hx,λv H1 xz=>?_⟩;have⟨d1,G1,L1,M1,e1,r1,n1,⟨k0,ks0,ds0,WO,VJ⟩,h1⟩:=xz;subst WO;have⟨a,rfl,hk⟩:=n1;have⟨_,vs0,ZN,_,_⟩:=r1.eP k0 a _ hk VJ;refine⟨a,rfl,.inl ⟨_,.inl ZN⟩,G1,L1,ρ,M1,_,x,r1,n.mono e1,h1,hx.on e1,λv2 H2 xz=>?_⟩;have⟨d2,G2,L2,M2,e2,r2,n2,k,k2,ks,ds,ly,qD,ed,ed2,jn,hm,ZE,hz,h3⟩:=xz;cases ed;subst ed2;have yo:=e2.l.get hk;have⟨b,rfl,Uu⟩:=n2;have⟨_,vs,hH,hl,dn⟩:=r2.eP k0 a _ yo hm;have⟨_,yE,Nz,GU,He⟩:=r2.eP k2 b _ Uu ZE;have z1:(ks.zip vs).length<=ks.length:=by rw[abe];exact Nat.min_le_left _ _
  have z2:(ly.zip yE).length<=ly.length:=by rw[abe];exact Nat.min_le_left _ _
  have sz:(1000:Nat)<=sizeLine:=@_
  have⟨us,u1,u2,u3⟩:=EI GU He hl dn;have ab:a≠b:=λz=>by subst z;have i1:=(aaf.mp yo).1;have:=(List.getElem?_inj (l:=L2) i1 r2.nd).mp (yo.trans Uu.symm);exact jn this
  refine⟨b,_,_,rfl,ab,hH,.inl Nz,(),?_⟩;exact⟨.bj,G2,L2,_,(e1.trans e2).trans (r2.EW yo),r2.setM (m:=.bX (qh ks ly) (sN ks ds ly qD)) yo ⟨us,by rw[Ω,u1],u2,u3⟩,rfl,h3⟩
end
def IL(P:Program)(w:World)(a:Addr)(Κ:List (Key×V))(ep:Nat)(h:Heap):Prop:=Κ.length<=sizeLine/\(a==sysModules)=false/\∃vs,KV Κ vs/\h.DictAt (bA P w) a vs ep
def u7(P:Program)(w:World)(a:Addr)(Κ:List (Key×V))(ep:Nat):HO:=.ext (IL P w a Κ ep)
section
variable{P':Program}{w':World}{H:Hp}{h:Heap}{ep:Nat}
def Eh(ok:lD P w H h)(e:H a=some (u7 P' w' a Κ ep)):IL P' w' a Κ ep h:=(ok a _ e).1
def P4(x:IL P' w' a Κ ep h):cn P w H h a (u7 P' w' a Κ ep):=by
 refine⟨x,?_,λh1 h2 y k=>?_⟩
 ·have⟨_,_,vs,_,o,es,e,_⟩:=x;exact⟨o,e⟩
 ·have⟨z,hd,vs,r,o,es,e,c⟩:=y;exact⟨z,hd,vs,r,o,es,k _ e,c⟩
end
section
variable{H:Hp}{ep:Nat}
def Inv.O8(I:Inv X ζ σ H s)(mu:RN (H a))(x:IL X.prog X.w a Κ ep s.heap):Inv X ζ σ (upd H a (u7 X.prog X.w a Κ ep)) s:=by
 have he:∃u,s.heap.get? a=some u:=let ⟨_,_,_,_,o,_,e,_⟩:=x;⟨o,e⟩
 exact I.write (x:=a) (e:=a) (h':=s.heap) (t':=s.toks) mu (.inl rfl) (λb u _ q=>q) he (P4 x)
def Inv.walkOut(I:Inv X ζ σ H s)(e:H a=some (u7 X.prog X.w a Κ ep)):Inv X ζ σ (upd H a (.dK Κ)) s:=by
 have⟨z,hd,vs,r,dd⟩:=Eh I.aS e;have he:∃u,s.heap.get? a=some u:=let ⟨o,_,e,_⟩:=dd;⟨o,e⟩
 exact I.write (x:=a) (e:=a) (h':=s.heap) (t':=s.toks) (by rw[e];exact True.intro) (.inl rfl) (λb u _ q=>q) he (sA z hd r dd.dictOf)
def Uv{k:Key}{u:Value}(h:(bA P w).is k u=true):aA (kV k) u:=by
 rcases bI h with ⟨i,t,rfl,rfl⟩| ⟨x,t,rfl,rfl⟩
 ·exact⟨t,rfl⟩
 ·exact⟨t,rfl⟩
end
def Wh(P:Program)(w:World)(a:Addr)(Κ:List (Key×V))(ep:Nat):It:=
 ⟨λi H=>H a=some (u7 P w a Κ ep)/\i<Κ.length,λi H x H'=>H'=H/\∃kv,Κ[i]? =some kv/\x=kV kv.1,λi H=>H a=some (u7 P w a Κ ep)/\Κ.length<=i⟩
def FY{K:fI}(a it:Addr)(Κ:List (Key×V))(ep:Nat):Turn P w K tg (Wh P w a Κ ep) [it] it (λi h=>h.IsKeyIter it a i Κ.length ep) where
 mem:=by simp
 obj:=λi h st b hb=>by
  have e:b=it:=by simpa using hb
  subst e;have⟨o,e,c,d⟩:=st;exact⟨o,e,λv z=>by rw[d]at z;cases z⟩
 keep:=λi h h' st k=>by have⟨o,e,r⟩:=st;exact⟨o,k it (by simp) o e,r⟩
 item:=by
  intro X hP hw hK hc i ζ s σ H E I hf st hg;subst hP hw hK;have⟨hq,hi⟩:=hg;have⟨z,hd,vs,rel,dd⟩:=Eh I.aS hq;have⟨f0,f1,f2,f3,f4,f5⟩:=hf it (by simp);have hx:Κ[i]? =some Κ[i]:=aaa hi;have⟨q,RD,r1,r2⟩:=Bm rel hx;have⟨k,v⟩:=q;have WD:s.heap.IsKeyIter it a i vs.length ep:=by rw[<-rel.length];exact st
  refine wpAny_pyNext_dict_item WD dd RD λkey h' hk xQ sb=>?_;have xQ:h'.IsKeyIter it a (i+1) Κ.length ep:=by rw[rel.length];exact xQ
  have I1:Inv X ζ σ H {s with heap:=h'}:=I.turned (t':=s.toks) (λb o hb e=>(sb.2 b hb).trans e) f0 f1 f3 f4 f5;have⟨o,e,c,d⟩:=id xQ;exact⟨key,rfl,vR (s:={s with heap:=h'}) e c d @_ ⟨kV k,H,I1,Uv hk,⟨rfl,Κ[i],hx,by rw[r1]⟩,xQ,λb hb=>(hf b hb).1⟩⟩
 done:=by
  intro X hP hw hK hc i ζ s σ H E I hf st hg;subst hP hw hK;have⟨hq,hi⟩:=hg;have⟨z,hd,vs,rel,dd⟩:=Eh I.aS hq;have⟨f0,f1,f2,f3,f4,f5⟩:=hf it (by simp);have WD:s.heap.IsKeyIter it a i vs.length ep:=by rw[<-rel.length];exact st
  exact wpAny_pyNext_dict_end (I.ok.hd hc) WD dd (List.getElem?_eq_none (by rw[<-rel.length];exact hi)) λh' eb=>⟨rfl,I.turned (t':=s.toks) (λb o hb e=>eb b o hb e) f0 f1 f3 f4 f5⟩
 self:=λ_ _ _ _ _ st h=>wpAny_pyIter_keyiter st h
section
variable{H:Hp}{Q:It->Hp->Prop}
def LU(I:Inv X ζ σ H s)(e:H a=some (.dK Κ))(q:∀ep,Q (Wh X.prog X.w a Κ ep) (upd H a (u7 X.prog X.w a Κ ep))):wpAny (model X.prog X.w) X.A (pyIter (.ref a)) (Le X ζ σ tg Q) E s:=by
 have⟨z,hd,vs,rel,dd⟩:=Eb I.aS e;have⟨ep,dd⟩:=dd.dictAt;refine wpAny_pyIter_dict hd dd ?_;have I1:=I.O8 (by rw[e];exact True.intro) (show IL X.prog X.w a Κ ep s.heap from⟨z,hd,vs,rel,dd⟩);refine⟨s.heap.objs.size,[s.heap.objs.size],_,_,_,rfl,I1.kept (t':=s.toks) λb o e=>aal _ e,FY a _ Κ ep,⟨_,aaS _ rfl,rfl,by rw[rel.length];rfl⟩,λb hb=>?_,q ep⟩;have e:b=s.heap.objs.size:=by simpa using hb
 subst e;exact I1.Bq (aan _) (I1.aS.fresh (aan _))
end
def NxW(P:Program)(w:World)(D:yz):St->Hp->Prop:=λσ H=>∃a Κ ep,H a=some (u7 P w a Κ ep)/\D.nx σ (upd H a (.dK Κ))
section
variable{st:Stmt}{t:TS}{td ty:TE}
def FE(h:PS X st t):PS X st (λD σ H=>t {D with nx:=NxW X.prog X.w D} σ H):=by
 intro ζ s σ H D I h';refine bJ (h ζ s σ H _ I h') λf s' sp=>?_;cases f with
 |next=>
  have⟨σ',H',I',a,Κ,ep,e,q⟩:=sp;exact⟨σ',_,I'.walkOut e,q⟩
 |brk=>exact sp
 |cont=>exact sp
 |ret u=>exact sp
def PN(P:Program)(w:World)(td ty:TE):TE:=λσ H Q=>td σ H λx H1=>ty σ H1 λy H2=>∃a Κ ep k v,x= .ref a/\H2 a=some (u7 P w a Κ ep)/\y=kV k/\fk Κ k=some v/\Q v H2
def KI(ho:PE X o td)(hi:PE X i ty)(hs:C8 i):PE X (.Subscript o i pos) (PN X.prog X.w td ty):=by intro ζ s σ H Q I h;refine xD ace.lookup hs (bJ (ho ζ s σ H _ I h) fun u s1 ⟨x,H1,I1,rx,q1⟩=>bJ (hi ζ s1 σ H1 _ I1 q1) λiv s2 xz=>?_);have⟨y,H2,I2,ry,a,Κ,ep,k,v,ex,e,ey,l,q2⟩:=xz;subst ex ey;obtain rfl:u=Value.ref a:=rx;have⟨z,hd,vs,rel,dd⟩:=Eh I2.aS e;have dd:=dd.dictOf;have⟨w',hw,Cj⟩:=jE.some_of (v:=v) (o:=valueAt vs k) (by rw[<-l];exact rel.val k);exact⟨dd.typeIs,wpAny_getItem_of (qk ry) dd.mapOf hw ⟨v,H2,I2.tok _,Cj,q2⟩⟩
end
def vS:Key->Dt
 |.inl i=>.int i
 |.inr x=>.str x
def EB{K:fI}{G:Hp}{L:List Addr}:∀k:Key,Den K G L (vS k) (kV k)
 |.inl _=>rfl
 |.inr _=>rfl
def nR{K:fI}{G:Hp}{L:List Addr}:∀is:List Int,Ψ K G L (is.map Dt.int) (is.map V.int)
 |[]=>rfl
 |_::is=>⟨_,_,rfl,rfl,nR is⟩
def rS{K:fI}{G:Hp}{L:List Addr}:∀{is:List Int}{vs:List V},Ψ K G L (is.map Dt.int) vs->vs=is.map V.int
 |[],vs,h=>h
 |i::is,vs,h=>by have⟨v,r,rfl,h1,h2⟩:=h;have h1:v= .int i:=h1;rw[h1,rS h2];rfl
def G9(P:Program)(w:World)(ks:List Key)(is:List Int)(ep:Nat):Addr->HO:=λa=>u7 P w a (ks.zip (is.map V.int)) ep
def uy(g:Dt->En->(En->Prop)->Prop)(tb:DS)(Dn:lL)(k:Nat)(u:Addr->HO)(m:MO):List Key->En->Ms->Prop
 |[],ρ,M=>M[k]? =some (.raw u)/\Dn.nx ρ (M.set k m)
 |x::xs,ρ,M=>M[k]? =some (.raw u)/\g (vS x) ρ λρ'=>tb {Dn with nx:=uy g tb Dn k u m xs,ct:=uy g tb Dn k u m xs,bk:=λρ M=>M[k]? =some (.raw u)/\Dn.nx ρ (M.set k m)} ρ' M
def UD(P:Program)(w:World)(te:DE)(g:Dt->En->(En->Prop)->Prop)(tb:DS):DS:=λDn ρ M=>te ρ M (λd M1=>∃k ks is,d= .loc k/\M1[k]? =some (.bX ks (is.map Dt.int))/\∀ep,uy g tb Dn k (G9 P w ks is ep) (.bX ks (is.map Dt.int)) ks ρ (M1.set k (.raw (G9 P w ks is ep)))) Dn.x
def QC(P:Program)(w:World)(t:TE):TI:=λσ H R=>t σ H λv H1=>∃a Κ,v= .ref a/\H1 a=some (.dK Κ)/\∀ep,R (Wh P w a Κ ep) (upd H1 a (u7 P w a Κ ep))
def Ez{t:TE}(h:PE X e t):PI X tg e (QC X.prog X.w t):=by intro ζ s σ H R I ht;refine bJ (h ζ s σ H _ I ht) λu s1 xz=>?_;have⟨v,H1,I1,rv,a,Κ,ev,ha,q⟩:=xz;subst ev;obtain rfl:u=Value.ref a:=rv;exact LU I1 ha q
section
variable{iter:Expr}{body:List Stmt}{gg:TG}{g:Dt->En->(En->Prop)->Prop}{tb:DS}
def MT(hi:JE X R iter te)(hg:PG X tg gg)(gd:GD X.K gg g)(hb:DP X R body tb)(hp:PassesOwn (model X.prog X.w) X.A X.env X.xe:=by first| exact PassesOwn.never| exact PassesOwn.leaving)(hc:X.calm=true:=by rfl)(hs:∀x,foldedSetIterable iter X.env x=pure x:=by intro _;rfl):
  JS X R (.For tg iter body [] pos) (UD X.prog X.w te g tb):=.of (FE (Bl hp hc (Ez hi) hg hb hs)) λσ H G L ρ M Dn rl n h hx=>by
 refine⟨G,L,ρ,M,_,_,rl,n,h,hx,λv H1 xz=>?_⟩;have⟨d,G1,L1,M1,e1,r1,n1,k,ks,is,ed,hk,h1⟩:=xz;subst ed;have⟨a,rfl,A7⟩:=n1;have⟨hGa,vs,hH,hl,dn⟩:=r1.eP k a _ A7 hk;have WB:=rS dn;subst WB;rw[aac]at hl;refine⟨a,_,rfl,hH,λep=>?_⟩;have h1:=h1 ep;generalize hu:G9 X.prog X.w ks is ep=u at h1;have Ld:u7 X.prog X.w a (ks.zip (is.map V.int)) ep=u a:=by rw[<-hu];rfl
 have r2:Rl X.K G1 L1 (M1.set k (.raw u)) (upd H1 a (u7 X.prog X.w a (ks.zip (is.map V.int)) ep)):=r1.setM (m:=.raw u) A7 (show upd H1 a _ a=some (u a) by rw[Ω,Ld]);have e2:Ex G1 L1 H1 G1 L1 (upd H1 a (u7 X.prog X.w a (ks.zip (is.map V.int)) ep)):=r1.EW A7;have zl:(ks.zip (is.map V.int)).length=ks.length:=by rw[abe,aac];omega
 generalize Nz:upd H1 a (u7 X.prog X.w a (ks.zip (is.map V.int)) ep)=H2 at r2 e2;have HV:=e1.trans e2;have out:∀{G':Hp} {L':List Addr} {H':Hp} {M':Ms} {ρ':En} {σ':St},Ex G1 L1 H2 G' L' H'->Rl X.K G' L' M' H'->lN X.K G' L' ρ' σ'->M'[k]? =some (.raw u)->Dn.nx ρ' (M'.set k (.bX ks (is.map Dt.int)))->NxW X.prog X.w (uV X.K G L H Dn) σ' H':=λ{G' L' H' M' ρ' σ'} e' r' n' hm Vv=>by have BQ:=e'.l.get A7;have Lw:H' a=some (u a):=(r'.eP k a _ BQ hm).2;refine⟨a,ks.zip (is.map V.int),ep,by rw[Ld];exact Lw,ρ',G',L',_,(HV.trans e').trans (r'.EW BQ),r'.setM (m:=.bX ks (is.map Dt.int)) BQ ⟨is.map V.int,Ω,by rw[aac];exact hl,nR is⟩,n'.mono (r'.EW (o:=.own a) BQ),Vv⟩
 refine⟨λi m σ' H'=>m+i=ks.length/\fb X.K G1 L1 H2 (λρ' M'=>uy g tb Dn k u (.bX ks (is.map Dt.int)) (ks.drop i) ρ' M') σ' H',⟨ks.length,rfl,ρ,G1,L1,_,.refl _ _ _,r2,n.mono e1,by rw[acy];exact h1⟩,?_⟩;rintro i m σ' H' ⟨hm,ρ',G',L',M',e',r',n',h'⟩;have BQ:=e'.l.get A7;by_cases hi:i<ks.length
 ·right;rw[abt hi]at h';have⟨MR,h'⟩:=h';have Lw:H' a=some (u a):=(r'.eP k a _ BQ MR).2;refine⟨⟨by rw[Ld];exact Lw,()⟩,fb X.K G1 L1 H2 (λρ' M'=>uy g tb Dn k u (.bX ks (is.map Dt.int)) (ks.drop (i+1)) ρ' M'),λσ2 H3 f=>⟨m-1,(),(),f⟩,λv H3 hy=>?_⟩;have⟨rfl,kv,Vw,rfl⟩:=hy;have yB:kv.1=ks[i]:=by rw[abJ]at Vw;have:=Vw.1;rw[aaa hi]at this;exact(aar this).symm
  rw[yB];refine gd G' L' M' H3 _ _ ρ' σ' _ _ r' (EB _) n' h' λρ3 σ3 n3 h3=>?_;refine⟨G',L',ρ3,M',_,r',n3,h3,hx.on (HV.trans e'),⟨λ_ _ f=>fb.back e' f,λ_ _ f=>Fin.back (HV.trans e') f,λσ4 H4 f=>?_,λ_ _ f=>fb.back e' f⟩⟩;have⟨ρ4,G4,L4,M4,e4,r4,n4,hm4,h4⟩:=f;exact out (e'.trans e4) r4 n4 hm4 h4
 ·left;rw[ab8 ()]at h';have Lw:H' a=some (u a):=(r'.eP k a _ BQ h'.1).2;exact⟨⟨by rw[Ld];exact Lw,()⟩,out e' r' n' h'.1 h'.2⟩
def OO(P:Program)(w:World)(to ti:DE):DE:=λρ M q x=>to ρ M (λd M1=>ti ρ M1 (λdi M2=>∃k ks is ep key j,d= .loc k/\M2[k]? =some (.raw (G9 P w ks is ep))/\rG di=some key/\aH ks (is.map Dt.int) key=some (.int j)/\q (.int j) M2) x) x
def MU(ho:JE X R o to)(hi:JE X R i ti)(hs:C8 i:=by intro _ _;rfl):JE X R (.Subscript o i pos) (OO X.prog X.w to ti):=
 .of (KI ho hi hs) λσ H G L ρ M q x rl n h hx=>by refine⟨G,L,ρ,M,_,x,rl,n,h,hx,λv H1 xz=>?_⟩;have⟨d1,G1,L1,M1,e1,r1,n1,h1⟩:=xz;refine⟨G1,L1,ρ,M1,_,x,r1,n.mono e1,h1,hx.on e1,λv2 H2 xz=>?_⟩;have⟨d2,G2,L2,M2,e2,r2,n2,k,ks,is,ep,key,j,ed,hm,hk,hg,h2⟩:=xz;subst ed;have⟨a,rfl,yB⟩:=n1;have zq:=e2.l.get yB;have hH:H2 a=some (G9 X.prog X.w ks is ep a):=(r2.eP k a _ zq hm).2;obtain rfl:v2=kV key:=gB hk n2;have⟨v,hv,dv⟩:=kX (K:=X.K) (G:=G2) (L:=L2) (nR is) hg;exact⟨a,_,ep,key,v,rfl,hH,rfl,hv,_,G2,L2,M2,e1.trans e2,r2,dv,h2⟩
end
section
variable{k1 v1 k2 v2:Expr}{s1 t1 s2 t2:DE}
structure G7(K:fI)(G0:Hp)(L0:List Addr)(H0:Hp)(p:Addr)(G:Hp)(L:List Addr)(M:Ms)(H:Hp):Prop where
 ex:Ex G0 L0 (upd H0 p (.dK [])) G L H
 rl:Rl K G L M H
 at_:H p=some (.dK [])
 g:G p=none
 l:p∉L
def G7.on{K:fI}{G0:Hp}{L0:List Addr}{H0:Hp}{p:Addr}{H:Hp}(a:G7 K G0 L0 H0 p G L M H){G':Hp}{L':List Addr}{M':Ms}{H':Hp}(e:Ex G L H G' L' H')(r:Rl K G' L' M' H'):G7 K G0 L0 H0 p G' L' M' H':=
 ⟨a.ex.trans e,r,e.out _ _ a.at_ a.l,e.fr _ a.g (by rw[a.at_];simp),λz=>(e.new _ z).elim a.l λq=>by rw[a.at_]at q;cases q⟩
def N7{K:fI}{H:Hp}{p:Addr}(rl:Rl K G L M H)(hp:H p=none):Ex G L H G L (upd H p (.dK []))/\G7 K G L H p G L M (upd H p (.dK [])):=by
 have gn:G p=none:=rl.sub.free hp;have ln:p∉L:=rl.Lz hp;have e0:Ex G L H G L (upd H p (.dK [])):=⟨.refl _,.refl _,λ_ h _=>h,λb u h1 _=>by rw[Μ (λz=>by rw[z,hp]at h1;cases h1)];exact h1,λ_ h=>.inl h,λb h=>by rw[Μ (λz=>h (by rw[z];exact hp))];exact h⟩
 have r0:Rl K G L M (upd H p (.dK [])):=⟨λb u e=>by rw[Μ (λz=>by rw[z,gn]at e;cases e)];exact rl.sub b u e,rl.len,rl.nd,λi a m h1 h2=>by
  have⟨q1,q2⟩:=rl.eP i a m h1 h2
  exact⟨q1,q2.mono (.refl _) (.refl _) (Μ λz=>q2.there (by rw[z];exact hp))⟩⟩
 exact⟨e0,.refl _ _ _,r0,Ω,gn,ln⟩
def G7.fin{K:fI}{G0:Hp}{L0:List Addr}{H0:Hp}{p:Addr}{H:Hp}{q:DQ}(a:G7 K G0 L0 H0 p G L M H)(e0:Ex G0 L0 H0 G0 L0 (upd H0 p (.dK [])))(hp:H0 p=none)(hk:ks.length=ds.length)(n:Ψ K G L ds vs)(k:q (.loc M.length) (M++[.bX ks ds])):Fin K G0 L0 H0 q (.ref p) (upd H p (.dK (ks.zip vs))):=by
 have e:=e0.trans a.ex;have W9:∀{b:Addr} {w:HO},G b=some w->b≠p:=λe z=>by rw[z,a.g]at e;cases e
 refine Ed (G:=G) (L:=L) (M:=M) (ks:=ks) (ds:=ds) (vs:=vs) ⟨e.g,e.l,e.fr,λb w h1 h2=>?_,e.new,λb h=>?_⟩ ⟨λb w e=>?_,a.rl.len,a.rl.nd,λi c m h1 h2=>?_⟩ hp a.g a.l Ω hk n k
 ·rw[Μ (λz=>by rw[z,hp]at h1;cases h1)];exact e.out b w h1 h2
 ·by_cases hb:b=p
  ·rw[hb,Ω];simp
  ·rw[Μ hb];exact e.Dc b h
 ·rw[Μ (W9 e)];exact a.rl.sub b w e
 ·have⟨q1,q2⟩:=a.rl.eP i c m h1 h2;exact⟨q1,q2.mono (.refl _) (.refl _) (Μ λz=>a.l (by rw[<-z];exact aag h1))⟩
def IC(s1 t1:DE):DE:=λρ M q x=>s1 ρ M (λc1 M1=>t1 ρ M1 (λd1 M2=>∃y1,rG c1=some y1/\q (.loc M2.length) (M2++[.bX [y1] [d1]])) x) x
def Jd(yB:JE X R k1 s1)(U1:JE X R v1 t1):JE X R (.Dict [some k1] [v1] pos) (IC s1 t1):=
 .of (yx (kT yB U1 xi) rfl rfl (by simp) (by show 1<=15;decide)) λσ H G L ρ M q x rl n h hx=>by intro p hp;have⟨e0,a0⟩:=N7 rl hp;refine⟨G,L,ρ,M,_,x,a0.rl,n,h,hx.on e0,λu1 H1 xz=>?_⟩;have⟨d1,G1,L1,M1,e1,r1,n1,h1⟩:=xz;have a1:=a0.on e1 r1;refine⟨G1,L1,ρ,M1,_,x,r1,n.mono (e0.trans e1),h1,hx.on (e0.trans e1),λu2 H2 xz=>?_⟩;have⟨d2,G2,L2,M2,e2,r2,n2,y1,hy,h2⟩:=xz;have a2:=a1.on e2 r2;obtain rfl:u1=kV y1:=gB hy n1;refine⟨a2.at_,[(y1,u2)],rfl,by show 1<=15;decide,?_⟩;rw[lj _ [] (λ_ _=>rfl) (by simp),List.nil_append];exact a2.fin (ks:=[y1]) (ds:=[d2]) (vs:=[u2]) e0 hp rfl ⟨_,_,rfl,n2,rfl⟩ h2
def Ky(s1 t1 s2 t2:DE):DE:=λρ M q x=>s1 ρ M (λc1 M1=>t1 ρ M1 (λd1 M2=>s2 ρ M2 (λc2 M3=>t2 ρ M3 (λd2 M4=>∃y1 y2,rG c1=some y1/\rG c2=some y2/\y1≠y2/\q (.loc M4.length) (M4++[.bX [y1,y2] [d1,d2]])) x) x) x) x
def HM(yB:JE X R k1 s1)(U1:JE X R v1 t1)(zq:JE X R k2 s2)(YA:JE X R v2 t2):JE X R (.Dict [some k1,some k2] [v1,v2] pos) (Ky s1 t1 s2 t2):=
 .of (yx (kT yB U1 (kT zq YA xi)) rfl rfl (by simp) (by show 2<=15;decide)) λσ H G L ρ M q x rl n h hx=>by intro p hp;have⟨e0,a0⟩:=N7 rl hp;refine⟨G,L,ρ,M,_,x,a0.rl,n,h,hx.on e0,λu1 H1 xz=>?_⟩;have⟨c1,G1,L1,M1,e1,r1,n1,h1⟩:=xz;have a1:=a0.on e1 r1;have x1:=e0.trans e1;refine⟨G1,L1,ρ,M1,_,x,r1,n.mono x1,h1,hx.on x1,λu2 H2 xz=>?_⟩;have⟨d1,G2,L2,M2,e2,r2,n2,h2⟩:=xz;have a2:=a1.on e2 r2;have x2:=x1.trans e2;refine⟨G2,L2,ρ,M2,_,x,r2,n.mono x2,h2,hx.on x2,λu3 H3 xz=>?_⟩;have⟨c2,G3,L3,M3,e3,r3,n3,h3⟩:=xz;have a3:=a2.on e3 r3;have x3:=x2.trans e3;refine⟨G3,L3,ρ,M3,_,x,r3,n.mono x3,h3,hx.on x3,λu4 H4 xz=>?_⟩;have⟨d2,G4,L4,M4,e4,r4,n4,y1,y2,hy1,V1,jn,h4⟩:=xz;have a4:=a3.on e4 r4;obtain rfl:u1=kV y1:=gB hy1 n1;obtain rfl:u3=kV y2:=gB V1 n3;refine⟨a4.at_,[(y1,u2),(y2,u4)],rfl,by show 2<=15;decide,?_⟩;rw[lj _ [] (λ_ _=>rfl) (by simp[jn]),List.nil_append];have Pn:=e3.trans e4;exact a4.fin (ks:=[y1,y2]) (ds:=[d1,d2]) (vs:=[u2,u4]) e0 hp rfl ⟨_,_,rfl,Den.mono Pn.g Pn.l _ _ n2,_,_,rfl,n4,rfl⟩ h4
end
def Jj:List Dt->Ms->DQ->Prop
 |[d],M,q=>∃k ks ds,d= .loc k/\M[k]? =some (.bX ks ds)/\q (.int ks.length) M
 |_,_,_=>False
def Um{K:fI}:B4 K (λxs H Q=>∃a Κ,xs=[V.ref a]/\H a=some (.dK Κ)/\Q (.int Κ.length) H) Jj:=by
 intro G0 L0 H0 G L M H vs ds q e r n h;unfold Jj at h;split at h
 ·have⟨k,ks,ds,rfl,hm,h⟩:=h;have⟨v,rfl,n1⟩:=bF n;have⟨a,rfl,hk⟩:=n1;have⟨_,vs,hH,hl,dn⟩:=r.eP k a _ hk hm;refine⟨a,_,rfl,hH,.int ks.length,G,L,M,e,r,?_,h⟩;show V.int _=V.int _;rw[abe,<-dn.length,<-hl,acn]
 ·exact h.elim
section
def HN(hm:X.mg "len"=none)(ha:JA X R [e] t)(hg:Gl X "len":=by rfl)(he:starEach [e] X.env=(false,eval e X.env)::starEach [] X.env:=by rfl)(gz:(backTo pos (starEach [] X.env)).any (·.1)=false:=by rfl):JE X R (.Call (.Name "len" p) [e] [] pos) (A6 Jj t):=
 gD EY Um hm PySem.boot_len ha hg @_ @_ he gz
end
def FD{t:TE}(h:PE X e t):PE X e (λσ H Q=>t σ H λv H1=>∃a Κ ep,H1 a=some (u7 X.prog X.w a Κ ep)/\Q v (upd H1 a (.dK Κ))):=by intro ζ s σ H Q I ht;exact bJ (h ζ s σ H _ I ht) λu s1 ⟨v,H1,I1,rv,a,Κ,ep,e,q⟩=>⟨v,_,I1.walkOut e,rv,q⟩
def Ht(P:Program)(w:World)(to te:DE)(af:List Nat):DE:=λρ M q x=>to ρ M (λd M1=>∃k ks is,d= .loc k/\M1[k]? =some (.bX ks (is.map Dt.int))/\ks.length<=sizeLine/\∀ep,rH te (oZ af ρ) (λM'=>M'[k]? =some (.raw (G9 P w ks is ep))) (ks.map vS) [] (M1.set k (.raw (G9 P w ks is ep))) λys M2=>M2[k]? =some (.raw (G9 P w ks is ep))/\q (.lst ys) (M2.set k (.bX ks (is.map Dt.int)))) x
section
variable{elt iter:Expr}{x:Str}{px:Pos}
def Nn(S:aL X scope [x] ys af)(hi:JE X R iter to)(he:∀C s H fp,JE (Cx.comp X (x::ys) scope C s H fp) (λ_=>E0) elt te)(hc:X.calm=true:=by rfl)(hs:∀x,foldedSetIterable iter X.env x=pure x:=by intro _;rfl):JE X R (.ListComp elt [⟨.Name x px,iter,[],0⟩] scope pos) (Ht X.prog X.w to te af):=
 .of (FD (zD (tc:=BG X.K (λ_=>E0) p_) (te:=yv X.K (λ_=>E0) te) S hc (Ez hi) (hW S (i:=0) rfl) (gQ (Nat.zero_lt_succ 0)) (λ_ _ _ _=>ni) he hs)) λσ H G L ρ M q x rl n h hx=>by
  refine⟨G,L,ρ,M,_,x,rl,n,h,hx,λv H1 xz=>?_⟩;have⟨d,G1,L1,M1,e1,r1,n1,k,ks,is,ed,hk,hz,h1⟩:=xz;subst ed;have⟨a,rfl,A7⟩:=n1;have⟨hGa,vs,hH,hl,dn⟩:=r1.eP k a _ A7 hk;have WB:=rS dn;subst WB;rw[aac]at hl;refine⟨a,_,rfl,hH,λep D hD=>?_⟩;have h1:=h1 ep;generalize hu:G9 X.prog X.w ks is ep=u at h1;have Ld:u7 X.prog X.w a (ks.zip (is.map V.int)) ep=u a:=by rw[<-hu];rfl
  have r2:Rl X.K G1 L1 (M1.set k (.raw u)) (upd H1 a (u7 X.prog X.w a (ks.zip (is.map V.int)) ep)):=r1.setM (m:=.raw u) A7 (show upd H1 a _ a=some (u a) by rw[Ω,Ld]);have e2:Ex G1 L1 H1 G1 L1 (upd H1 a (u7 X.prog X.w a (ks.zip (is.map V.int)) ep)):=r1.EW A7;have zl:(ks.zip (is.map V.int)).length=ks.length:=by rw[abe,aac];omega
  generalize Nz:upd H1 a (u7 X.prog X.w a (ks.zip (is.map V.int)) ep)=H2 at r2 e2 hD;have yl:N4 X.K (Wh X.prog X.w a (ks.zip (is.map V.int)) ep) (ks.map vS) (λM'=>M'[k]? =some (.raw u)) G1 L1:=by
   refine⟨λi G' L' M' H' d g l r' aS hd=>?_,λi G' L' M' H' g l r' aS hd=>?_⟩
   ·have Lw:H' a=some (u a):=(r'.eP k a _ (l.get A7) aS).2;have hi:i<ks.length:=by have:=(aaf.mp hd).1;rwa[aac]at this
    refine⟨⟨by rw[Ld];exact Lw,()⟩,λv H3 hy=>?_⟩;have⟨rfl,kv,Vw,rfl⟩:=hy;rw[abJ]at Vw;rw[aaq,Vw.1]at hd;have hd:vS kv.1=d:=aar hd;rw[<-hd];exact⟨G',.refl _ _ _,r',EB _⟩
   ·have Lw:H' a=some (u a):=(r'.eP k a _ (l.get A7) aS).2;rw[aac]at hd;exact⟨by rw[Ld];exact Lw,()⟩
  rw[qQ]at h1;refine rT aI r2 ((n.mono e1).mono e2) yl hD (by rw[aac];exact hz) h1 fun G3 L3 M3 H3 ds vs e3 r3 g3 l3 Y1 n3 ⟨hm,hq⟩=>?_;have Rb:=e3.l.get A7;have VA:H3 a=some (u a):=(r3.eP k a _ Rb hm).2;refine⟨a,ks.zip (is.map V.int),ep,by rw[Ld];exact VA,?_⟩;have ne:D≠a:=λz=>by rw[z,VA,<-Ld]at Y1;cases Y1
  exact Fin.back (e1.trans e2) (Dx (e3.trans (r3.EW Rb)) (r3.setM (m:=.bX ks (is.map Dt.int)) Rb ⟨is.map V.int,Ω,by rw[aac];exact hl,nR is⟩) hD g3 l3 (by rw[Μ ne];exact Y1) n3 hq)
end
def N2(K:fI):List Dt->Ms->DQ->Prop:=λds M q=>∃k c ks es t' b,ds=[.loc k,c]/\M[k]? =some (.bX ks es)/\QN c=some t'/\PySem.W.kitOne K (.type "dict") t'=some b/\q (.bl b) M
def R8{K:fI}:B4 K (λxs H Q=>∃x c t t' b,xs=[x,c]/\j2 K H x t/\JV c=some t'/\PySem.W.kitOne K t t'=some b/\Q (.bl b) H) (N2 K):=by intro G0 L0 H0 G L M H vs ds q e r n ⟨k,c,ks,es,t',b,ed,h1,h2,hb,h⟩;subst ed;have⟨v,u,rfl,n1,n2⟩:=fW n;have⟨a,rfl,ka⟩:=n1;have⟨_,vs,e1,_⟩:=r.eP k a _ ka h1;exact⟨_,u,_,t',b,rfl,.dK e1,DZ n2 h2,hb,bB e r h⟩
section
variable{e2:Expr}
def Q9(K:fI)(hm:X.mg "isinstance"=none)(ha:JA X R [e,e2] t)(he:starEach [e,e2] X.env=(false,eval e X.env)::starEach [e2] X.env:=by rfl)(gz:(backTo pos (starEach [e2] X.env)).any (·.1)=false:=by rfl)(hg:Gl X "isinstance":=by rfl)(hK:X.K=K:=by rfl):JE X R (.Call (.Name "isinstance" p) [e,e2] [] pos) (A6 (N2 K) t):=by subst hK;exact gD pX R8 hm iX ha hg @_ @_ he gz
end
section
variable{K:Type} [DecidableEq K]{knd:KeyKind prog w K}{b:Addr}{Κ dW:List (K×Value)}
def sH(ha:s.heap.DictOf knd a Κ)(hb:s.heap.DictOf knd b dW)(hu:A.units<cLine)(h:∀{E:Value->Shared->Prop}{Q:Bool->Shared->Prop},Q c s->wpAny (model prog w) A.in1 (Builtin.Dict.samePairs (toString "dict."++toString "__ne__") a b) Q E s)(q:Q (.bool (!c)) s):wpAny (model prog w) A (richCompare .NotEq (.ref a) (.ref b)) Q E s:=by
 refine wpAny_richCompare_same_room ha.typeIs hb.typeIs F.slot_dict_ne (wpAny_call_entry F.slot_dict_ne ha.typeIs F.entry_dict_ne ?_ (F.args_dict_ne_2 _ _)) hu;show wpAny _ _ (Builtin.Dict.dictSlotArgs "__ne__" ⟨[.ref a,.ref b],[]⟩ >>= _) _ _ s;refine aam ?_;unfold Builtin.Dict.dictSlotArgs;refine aam (wpAny_notOrdered_dict ha.typeIs ?_);refine aam (m:=slotArgs "__ne__" 1 _) (aaR ?_);refine aaR ?_;refine aam (wpAny_isInstance hb.typeIs isSubtype_dict_dict ?_);rw[aaw @_];refine aam (aaR (aam (aaR (aam (h ?_)))));have e:(c==false)= !c:=by cases c <;> rfl
 refine aaR ⟨Value.bool (c==false),rfl,⟨λz=>(nomatch z),?_⟩⟩;rw[e];exact q
end
def Oo(n:Nat):R2:=λx y H Q=>∃a b c,x= .ref a/\y= .ref b/\wk H n x y c/\Q (.bl (!c)) H
def Lr(hu:X.A.units+n<cLine):jo X (compareOp .NotEq) (Oo n):=by
 intro ζ s σ H x y v u Q I rx ry h;have⟨a,b,c,rfl,rfl,h,q⟩:=h;cases rx;cases ry;cases h with
 |flat h1 h2=>cases h1
 |@bX n _ _ Κ dW f h1 h2 hl hn h=>
  have⟨_,z1,vs,r1,d1⟩:=eW I.aS h1;have⟨_,z2,yE,r2,d2⟩:=eW I.aS h2;rw[r1.length]at q;show wpAny _ _ (richCompare .NotEq _ _) _ _ s;refine sH d1 d2 () (λhq=>nP d1 d2 z1 z2 (by rw[<-r1.length,<-r2.length];exact hl) (e:=f) (λj k u hj=>?_) hq) ⟨.bl _,H,I,rfl,q⟩;have⟨v,hv,rv⟩:=CM r1 hj;rcases DU r2 k with ⟨q1,q2⟩| ⟨v',u',q1,q2,q3⟩
  ·exact .inl ⟨q2,hn j k v hv q1⟩
  ·exact .inr ⟨u',q2,Qi I (h j k v v' hv q1) rv q3 (by show X.A.units+1+n<cLine;omega)⟩
 |@len n _ _ Κ dW h1 h2 hl=>
  have⟨_,z1,vs,r1,d1⟩:=eW I.aS h1;have⟨_,z2,yE,r2,d2⟩:=eW I.aS h2;show wpAny _ _ (richCompare .NotEq _ _) _ _ s;exact sH d1 d2 () (λhq=>lK d1 d2 z1 z2 (by rw[<-r1.length,<-r2.length];exact hl) hq) ⟨.bl _,H,I,rfl,q⟩
def UE(n:Nat):Dt->Dt->Ms->DQ->Prop:=λd e M q=>∃k1 k2 c,d= .loc k1/\e= .loc k2/\K6 M n d e c/\q (.bl (!c)) M
def WG{K:fI}:nh K (Oo n) (UE n):=by intro G0 L0 H0 G L M H v1 v2 d1 d2 q e r n1 n2 ⟨k1,k2,c,e1,e2,h,hq⟩;have:=TB r h n1 n2;subst e1 e2;have⟨a,rfl,_⟩:=n1;have⟨b,rfl,_⟩:=n2;exact⟨a,b,c,rfl,rfl,this,bB e r hq⟩
section
variable{a b:Expr}
def O3(n:Nat)(hr:bT k' X.A)(ja:JE X R a ta)(jb:JE X R b tb)(hn:n<=64:=by decide)(hm:behindInMarks .NotEq b=false:=by rfl):JT X R (.Compare a [.NotEq] [b] pos) (kn (jO (UE n) ta tb)):=fC (Lr (Pw hr hn)) WG ja jb hm
end
end L2
namespace Fr0
variable{b t:Int}
def g(a b:Int):Int:=(Int.gcd a b:Nat)
def z_{a:Int}(h:b≠0):0<g a b:=by have:=Int.gcd_pos_of_ne_zero_right a h;unfold g;omega
def HD{a:Int}(h:0<=a):g a 0=a:=by unfold g;rw[Int.gcd_zero_right];omega
def KO{a:Int}(hb:0<b):g b (a.fmod b)=g a b:=by
 unfold g;rw[abV a (aak hb),Int.gcd_comm a b]
 congr 1
 refine Int.gcd_right_eq_iff.mpr λc hc=>?_;rw[Int.emod_def];constructor
 ·intro h;have:=Int.dvd_add h (Int.dvd_mul_of_dvd_left (c:=a/b) hc);rwa[Int.sub_add_cancel]at this
 ·intro h;exact Int.dvd_sub h (Int.dvd_mul_of_dvd_left (c:=a/b) hc)
def NS(a b:Int):g (if a<0 then -a else a) (if b<0 then -b else b)=g a b:=by unfold g;split <;> split <;> simp
def dv(t b:Int):Int:=if b<0 then -(g t b) else g t b
def aB(t b:Int):Int×Int:=(t.fdiv (dv t b),b.fdiv (dv t b))
def Ea(h:b≠0):dv t b≠0:=by have:=z_ (a:=t) h;unfold dv;split <;> omega
def AA{k p:Int}(h:k≠0):(k*p).fdiv k=p:=by rw[aa6];exact Int.mul_fdiv_cancel p h
def Jt(h:b≠0):∃p q:Int,t=dv t b*p/\b=dv t b*q/\0<q/\Int.gcd p q=1:=by
 have hg:=z_ (a:=t) h;have h0:0<Int.gcd t b:=Int.gcd_pos_of_ne_zero_right t h;have⟨p,hp⟩:=Int.gcd_dvd_left t b;have⟨q,hq⟩:=Int.gcd_dvd_right t b;have hc:Int.gcd p q=1:=by
  have e:=Int.gcd_ediv_gcd_ediv_gcd h0;have n0:(Int.gcd t b:Int)≠0:=()
  have e1:t/(Int.gcd t b:Int)=p:=by
   conv=>lhs;arg 1;rw[hp]
   exact abA p n0
  have e2:b/(Int.gcd t b:Int)=q:=by
   conv=>lhs;arg 1;rw[hq]
   exact abA q n0
  rwa[e1,e2]at e
 have Ee:t=g t b*p:=hp;have yC:b=g t b*q:=hq;by_cases hb:b<0
 ·have hd:dv t b= -(g t b):=by unfold dv;rw[if_pos hb]
  refine⟨-p,-q,?_,?_,?_,?_⟩
  ·rw[hd,Int.neg_mul_neg];exact Ee
  ·rw[hd,Int.neg_mul_neg];exact yC
  ·have:g t b*q<0:=by rw[<-yC];exact hb
   by_cases q0:0<=q
   ·exact aaL (abi (aak hg) q0) ()
   ·omega
  ·simpa using hc
 ·have hd:dv t b=g t b:=by unfold dv;rw[if_neg hb]
  refine⟨p,q,by rw[hd];exact Ee,by rw[hd];exact yC,?_,hc⟩;have:0<g t b*q:=by rw[<-yC];omega
  exact Int.pos_of_mul_pos_right this hg
def gJ  (h : b ≠ 0) : ∃p q : Int,aB t b = (p,q) /\ 0<q /\ Int.gcd p q = 1 /\ t = dv t b*p /\ b = dv t b*q :=by
  obtain⟨p,q,hp,hq,h0,hc⟩ :=Jt (t :=t) h;have n0 :=Ea (t :=t) h;refine⟨p,q,?_,h0,hc,hp,hq⟩;unfold aB
  have e1 : t.fdiv (dv t b) = p := by conv => lhs; arg 1; rw [hp]
                                      exact AA n0
  have e2 : b.fdiv (dv t b) = q := by conv => lhs; arg 1; rw [hq]
                                      exact AA n0
  rw[e1,e2]
def cI(h:b≠0):t*(aB t b).2=b*(aB t b).1:=by
 have⟨p,q,e,_,_,hp,hq⟩:=gJ (t:=t) h;rw[e];show t*q=b*p
 calc t*q=dv t b*p*q:=by rw[<-hp]
  _=dv t b*q*p:=by rw[Int.mul_assoc,aa6 p q,<-Int.mul_assoc]
  _=b*p:=by rw[<-hq]
def cR(h:b≠0):0<(aB t b).2:=by have⟨p,q,e,h0,_⟩:=gJ (t:=t) h;rw[e];exact h0
def zJ(h:b≠0):Int.gcd (aB t b).1 (aB t b).2=1:=by have⟨p,q,e,_,hc,_⟩:=gJ (t:=t) h;rw[e];exact hc
def pY{k m n:Int}(h:k∣m*n)(hc:Int.gcd k m=1):k∣n:=by have:=(Int.dvd_gcd_mul_iff_dvd_mul (k:=k) (n:=m) (m:=n)).mpr h;rw[hc]at this;simpa using this
def CU{p q p' q':Int}(hq:0<q)(yC:0<q')(h:Int.gcd p q=1)(h':Int.gcd p' q'=1)(e:p*q'=p'*q):p=p'/\q=q':=by
 have d1:q∣q':=by have:q∣p*q':=⟨p',by rw[e,aa6]⟩;exact pY this (by rw[Int.gcd_comm];exact h)
 have d2:q'∣q:=by have:q'∣p'*q:=⟨p,by rw[<-e,aa6]⟩;exact pY this (by rw[Int.gcd_comm];exact h')
 have eq:q=q':=Int.le_antisymm (ab6 yC d1) (ab6 hq d2);subst eq;exact⟨Int.eq_of_mul_eq_mul_right () e,rfl⟩
def wU{p q:Int}(h:b≠0)(hq:0<q)(hc:Int.gcd p q=1)(e:t*q=b*p):aB t b=(p,q):=by
 have h1:=cI (t:=t) h;have h2:=cR (t:=t) h;have h3:=zJ (t:=t) h;have h4:(aB t b).1*q=p*(aB t b).2:=by
  have:b*((aB t b).1*q)=b*(p*(aB t b).2):=by rw[<-Int.mul_assoc,<-h1,Int.mul_right_comm,e,Int.mul_assoc]
  exact aaU h this
 have:=CU h2 hq h3 hc h4;exact Prod.ext this.1 this.2
def vQ{p q:Int}(hq:0<q)(hc:Int.gcd p q=1):aB p q=(p,q):=wU () hq hc (aa6 _ _)
def yq(h:b≠0):(dv t b).natAbs<=b.natAbs:=by
 have e:(dv t b).natAbs=Int.gcd t b:=by unfold dv g;split <;> omega
 rw[e];exact Int.gcd_le_natAbs_right t h
def tO  (h : b ≠ 0) : (aB t b).1.natAbs <= t.natAbs :=by
  obtain⟨p,q,e,_,_,hp,_⟩ :=gJ (t :=t) h;have n0 :=Ea (t :=t) h;rw[e];show p.natAbs <= t.natAbs
  have : t.natAbs = (dv t b).natAbs * p.natAbs := by conv => lhs; rw [hp]
                                                     exact abj _ _
  rw[this];exact Nat.le_mul_of_pos_left _ ()
def j6  (h : b ≠ 0) : (aB t b).2.natAbs <= b.natAbs :=by
  obtain⟨p,q,e,_,_,_,hq⟩ :=gJ (t :=t) h;have n0 :=Ea (t :=t) h;rw[e];show q.natAbs <= b.natAbs
  have : b.natAbs = (dv t b).natAbs * q.natAbs := by conv => lhs; rw [hq]
                                                     exact abj _ _
  rw[this];exact Nat.le_mul_of_pos_left _ ()
def Mn(h:0<b):aB t b=(t.fdiv (g t b),b.fdiv (g t b)):=by unfold aB dv;rw[aaw ()]
end Fr0
namespace Tx
open PySem PySem.NumText
end Tx
namespace Bz
variable{f:Nat->Int}{n i a m:Nat}{ν ρ:List Nat}{d B:Int}
abbrev Row:=Nat->Int
variable{γ:List Row}{A W:Nat->Row}{w:Row}
abbrev Fn:=List Nat->Int
def Lx(x:Row):Fn->Fn
 |_,[]=>0
 |F,c::cs=>x c*F cs-Lx x (λt=>F (c::t)) cs
def Bo(x:Row):∀(cs:List Nat) (F G:Fn),Lx x (λt=>F t+G t) cs=Lx x F cs+Lx x G cs
 |[],F,G=>by simp[Lx]
 |c::cs,F,G=>by have:=Bo x cs (λt=>F (c::t)) (λt=>G (c::t));simp only[Lx];rw[this];grind
def mR(x:Row)(k:Int):∀(cs:List Nat) (F:Fn),Lx x (λt=>k*F t) cs=k*Lx x F cs
 |[],F=>by simp[Lx]
 |c::cs,F=>by have:=mR x k cs (λt=>F (c::t));simp only[Lx];rw[this];grind
def HP(x:Row)(cs:List Nat)(F G:Fn):Lx x (λt=>F t-G t) cs=Lx x F cs-Lx x G cs:=by
 have h1:=Bo x cs F (λt=>(-1)*G t);have h2:=mR x (-1) cs G;have e:(λt=>F t-G t)=λt=>F t+(-1)*G t:=by funext t;grind
 rw[e,h1,h2];grind
def D5(x:Row):∀(cs:List Nat),Lx x (λ_=>0) cs=0
 |[]=>rfl
 |c::cs=>by simp only[Lx];rw[D5 x cs];simp
def wI(x y:Row):∀(cs:List Nat) (F:Fn),Lx x (Lx y F) cs= - Lx y (Lx x F) cs
 |[],F=>rfl
 |c::cs,F=>by have ih:=wI x y cs (λt=>F (c::t));have e1:(λt=>Lx y F (c::t))=λt=>y c*F t-Lx y (λu=>F (c::u)) t:=rfl;have e2:(λt=>Lx x F (c::t))=λt=>x c*F t-Lx x (λu=>F (c::u)) t:=rfl;show x c*Lx y F cs-Lx x (λt=>Lx y F (c::t)) cs= -(y c*Lx x F cs-Lx y (λt=>Lx x F (c::t)) cs);rw[e1,e2,HP,HP,mR,mR,ih];grind
def ML(x:Row)(cs:List Nat)(F:Fn):Lx x (Lx x F) cs=0:=by have:=wI x x cs F;omega
def x_(x:Row)(d:Nat):∀(cs:List Nat) (F:Fn),Lx x F (cs++[d])=Lx x (λt=>F (t++[d])) cs+(-1)^cs.length*(x d*F cs)
 |[],F=>by simp[Lx]
 |c::cs,F=>by have:=x_ x d cs (λt=>F (c::t));show x c*F (cs++[d])-Lx x (λt=>F (c::t)) (cs++[d])=_;rw[this];show _=(x c*F (cs++[d])-Lx x (λt=>F (c::(t++[d]))) cs)+(-1)^(cs.length+1)*(x d*F (c::cs));have e:(λt=>F (c::(t++[d])))=λt=>(λu=>F (c::u)) (t++[d]):=rfl;rw[e,abX];grind
def zz(x:Row){F G:Fn}{n:Nat}:∀(cs:List Nat),(∀t,t.length+1=cs.length->F t=G t)->Lx x F cs=Lx x G cs:=by
 intro cs
 induction cs generalizing F G with
 |nil=>intro _;rfl
 |cons c cs ih=>
  intro h;simp only[Lx];rw[h cs (by simp),ih (F:=λt=>F (c::t)) (G:=λt=>G (c::t)) λt ht=>h (c::t) (by simp;omega)]
def Δ(f:Nat->Int):Nat->Int
 |0=>0
 |n+1=>Δ f n+f n
def g8(f g:Nat->Int):∀n,Δ (λi=>f i+g i) n=Δ f n+Δ g n
 |0=>rfl
 |n+1=>by simp only[Δ];rw[g8 f g n];omega
def Χ(k:Int)(f:Nat->Int):∀n,Δ (λi=>k*f i) n=k*Δ f n
 |0=>by simp[Δ]
 |n+1=>by simp only[Δ];rw[Χ k f n,Int.mul_add]
def Α{f g:Nat->Int}:∀{n:Nat},(∀i,i<n->f i=g i)->Δ f n=Δ g n
 |0,_=>rfl
 |n+1,h=>by simp only[Δ];rw[Α λi hi=>h i (),h n ()]
def iT(h:∀i,i<n->f i=0):Δ f n=0:=by
 rw[Α h];clear h
 induction n with
 |zero=>rfl
 |succ n ih=>simp only[Δ];rw[ih];rfl
def iW{j:Nat}(hj:j<n)(h:∀i,i<n->i≠j->f i=0):Δ f n=f j:=by
 induction n with
 |zero=>omega
 |succ n ih=>
  simp only[Δ];by_cases e:j=n
  ·subst e;rw[iT λi hi=>h i () ()];omega
  ·rw[ih () λi hi jn=>h i () jn,h n () ()];omega
def lW(f:Nat->Int):∀n,Δ f (n+1)=f 0+Δ (λi=>f (i+1)) n
 |0=>by simp[Δ]
 |n+1=>by have:=lW f n;rw[show Δ f (n+1+1)=Δ f (n+1)+f (n+1) from rfl,this];simp only[Δ];omega
def dJ(f:Nat->Nat->Int)(m:Nat):∀n,Δ (λi=>Δ (f i) m) n=Δ (λj=>Δ (λi=>f i j) n) m
 |0=>by rw[show Δ (λi=>Δ (f i) m) 0=0 from rfl];exact(iT λ_ _=>rfl).symm
 |n+1=>by rw[show Δ (λi=>Δ (f i) m) (n+1)=Δ (λi=>Δ (f i) m) n+Δ (f n) m from rfl,dJ f m n,<-g8];rfl
def xt(x:Row):∀(cs:List Nat) (F:Fn),Lx x F cs=Δ (λp=>(-1)^p*(x (cs.getD p 0)*F (cs.eraseIdx p))) cs.length
 |[],F=>rfl
 |c::cs,F=>by
  have ih:=xt x cs (λt=>F (c::t));show x c*F cs-Lx x (λt=>F (c::t)) cs=_;rw[aaB,lW,ih];have e:Δ (λp=>(-1)^(p+1)*(x ((c::cs).getD (p+1) 0)*F ((c::cs).eraseIdx (p+1)))) cs.length= -1*Δ (λp=>(-1)^p*(x (cs.getD p 0)*F (c::cs.eraseIdx p))) cs.length:=by rw[<-Χ];refine Α λp _=>?_;simp only[List.getD_cons_succ,List.eraseIdx_cons_succ];rw[Int.pow_succ];grind
  rw[e];simp only[List.getD_cons_zero,List.eraseIdx_cons_zero,Int.pow_zero];omega
def F0:Fn:=λcs=>if cs=[] then 1 else 0
def D:List Row->Fn
 |[]=>F0
 |x::xs=>Lx x (D xs)
def nv(y:Row):∀(xs ys:List Row) (cs:List Nat),D (xs++y::ys) cs=(-1)^xs.length*D (y::(xs++ys)) cs
 |[],ys,cs=>by simp
 |x::xs,ys,cs=>by
  show Lx x (D (xs++y::ys)) cs=_;have e:D (xs++y::ys)=λt=>(-1)^xs.length*D (y::(xs++ys)) t:=by funext t;exact nv y xs ys t
  rw[e,mR];show(-1)^xs.length*Lx x (Lx y (D (xs++ys))) cs=(-1)^(xs.length+1)*Lx y (Lx x (D (xs++ys))) cs;rw[wI x y,Int.pow_succ];grind
def UC(y:Row)(xs ys zs:List Row)(cs:List Nat):D (xs++y::(ys++y::zs)) cs=0:=by
 rw[nv];have e:D (y::(xs++(ys++y::zs))) cs=Lx y (λt=>D (xs++(ys++y::zs)) t) cs:=rfl;have e2:(λt=>D (xs++(ys++y::zs)) t)=λt=>(-1)^(xs++ys).length*Lx y (D (xs++ys++zs)) t:=by
  funext t
  rw[<-abb,nv];rfl
 rw[e,e2,mR,ML];simp
def fe(γ:List Row)(ν:List Nat)(p k:Nat):Int:=(-1)^(p+k)*D (γ.eraseIdx k) (ν.eraseIdx p)
def zr:Row:=λ_=>0
def QL(n:Nat):((-1:Int)^n)*(-1)^n=1:=by
 induction n with
 |zero=>rfl
 |succ n ih=>rw[Int.pow_succ];grind
def HK{α:Type}:∀{l:List α}{k:Nat}(h:k<l.length),l=l.take k++l[k]::l.drop (k+1):=by intro l k h;rw[List.getElem_cons_drop,List.take_append_drop]
def G8{α:Type}{l:List α}{k:Nat}(hi:i<l.length)(jn:i≠k):l[i]∈l.eraseIdx k:=by rw[List.mem_eraseIdx_iff_getElem];exact⟨i,hi,jn,rfl⟩
def PA{k:Nat}(hl:ν.length=γ.length)(hi:i<γ.length)(hk:k<γ.length):Δ (λp=>γ.getD i zr (ν.getD p 0)*fe γ ν p k) γ.length=if i=k then D γ ν else 0:=by
 have gi:γ.getD i zr=γ[i]:=by rw[aab,aaa hi];rfl
 have e:Δ (λp=>γ.getD i zr (ν.getD p 0)*fe γ ν p k) γ.length=(-1)^k*D (γ.getD i zr::γ.eraseIdx k) ν:=by show _=(-1)^k*Lx (γ.getD i zr) (D (γ.eraseIdx k)) ν;rw[xt,<-Χ,hl];refine Α λp _=>?_;unfold fe;rw[Int.pow_add];grind
 rw[e,gi];by_cases h:i=k
 ·subst h;rw[aax rfl];have s:=HK hi;have f:=nv γ[i] (γ.take i) (γ.drop (i+1)) ν;rw[<-s,ach,acs ()]at f;rw[f,List.eraseIdx_eq_take_drop_succ]
 ·rw[aaw h];have⟨ys,zs,e2⟩:=List.append_of_mem (G8 hi h);rw[e2];have:=UC γ[i] [] ys zs ν;rw[show D (γ[i]::(ys++γ[i]::zs)) ν=0 from this];simp
def yd(x:Row)(g:Nat->Int)(F:Nat->Fn)(cs:List Nat):∀n,Lx x (λt=>Δ (λk=>g k*F k t) n) cs=Δ (λk=>g k*Lx x (F k) cs) n
 |0=>D5 x cs
 |n+1=>by have:=Bo x cs (λt=>Δ (λk=>g k*F k t) n) (λt=>g n*F n t);show Lx x (λt=>Δ (λk=>g k*F k t) n+g n*F n t) cs=_;rw[this,yd x g F cs n,mR];rfl
def OD(c:Nat):∀(γ:List Row) (t:List Nat),D γ (t++[c])=Δ (λk=>(-1)^(t.length+k)*(γ.getD k zr c*D (γ.eraseIdx k) t)) γ.length
 |[],t=>by show F0 (t++[c])=0;unfold F0;simp
 |x::xs,t=>by
  show Lx x (D xs) (t++[c])=_;rw[x_,aaB,lW];have e:Lx x (λu=>D xs (u++[c])) t=Δ (λk=>(-1)^(t.length+(k+1))*((x::xs).getD (k+1) zr c*D ((x::xs).eraseIdx (k+1)) t)) xs.length:=by
   have e1:Lx x (λu=>D xs (u++[c])) t=Lx x (λu=>Δ (λk=>((-1)^(t.length+(k+1))*xs.getD k zr c)*D (xs.eraseIdx k) u) xs.length) t:=by refine zz x (n:=0) t λu hu=>?_;rw[OD c xs u];refine Α λk _=>?_;rw[<-hu,show u.length+1+(k+1)=u.length+k+1+1 by omega,Int.pow_succ,Int.pow_succ];grind
   rw[e1,yd x (λk=>(-1)^(t.length+(k+1))*xs.getD k zr c) (λk=>D (xs.eraseIdx k))];refine Α λk _=>?_;simp only[List.getD_cons_succ,List.eraseIdx_cons_succ];show _=(-1)^(t.length+(k+1))*(xs.getD k zr c*Lx x (D (xs.eraseIdx k)) t);grind
  rw[e];simp only[List.getD_cons_zero,List.eraseIdx_cons_zero,Nat.add_zero];omega
def JF{y:Row}{c:Nat}(hl:ν.length=γ.length):D (γ++[y]) (ν++[c])=y c*D γ ν-Δ (λp=>y (ν.getD p 0)*Δ (λk=>fe γ ν p k*γ.getD k zr c) γ.length) γ.length:=by
 rw[nv,aa7];show(-1)^γ.length*Lx y (D γ) (ν++[c])=_;rw[x_];have e1:Lx y (λt=>D γ (t++[c])) ν= - ((-1)^γ.length*Δ (λp=>y (ν.getD p 0)*Δ (λk=>fe γ ν p k*γ.getD k zr c) γ.length) γ.length):=by
  have e2:Lx y (λt=>D γ (t++[c])) ν=Lx y (λt=>Δ (λk=>(-((-1)^(γ.length+k)*γ.getD k zr c))*D (γ.eraseIdx k) t) γ.length) ν:=by refine zz y (n:=0) ν λt ht=>?_;rw[OD c γ t];refine Α λk _=>?_;rw[<-hl,<-ht,show t.length+1+k=t.length+k+1 by omega,Int.pow_succ];grind
  rw[e2,yd y (λk=> -((-1)^(γ.length+k)*γ.getD k zr c)) (λk=>D (γ.eraseIdx k))];have e3:Δ (λk=> -((-1)^(γ.length+k)*γ.getD k zr c)*Lx y (D (γ.eraseIdx k)) ν) γ.length=Δ (λk=>Δ (λp=> -((-1)^γ.length)*(y (ν.getD p 0)*(fe γ ν p k*γ.getD k zr c))) γ.length) γ.length:=by refine Α λk _=>?_;rw[xt,<-Χ,hl];refine Α λp _=>?_;unfold fe;rw[Int.pow_add,Int.pow_add];grind
  rw[e3,dJ];have e4:Δ (λp=>Δ (λk=> -((-1)^γ.length)*(y (ν.getD p 0)*(fe γ ν p k*γ.getD k zr c))) γ.length) γ.length=Δ (λp=> -((-1)^γ.length)*(y (ν.getD p 0)*Δ (λk=>fe γ ν p k*γ.getD k zr c) γ.length)) γ.length:=by refine Α λp _=>?_;rw[Χ,Χ]
  rw[e4,Χ];grind
 rw[e1,hl];have s:=QL γ.length;generalize ((-1:Int)^γ.length)=z at *
 generalize Δ _ γ.length=q;grind
def Jz{v:Nat->Int}{e:Int}{k:Nat}(hl:ν.length=γ.length)(hi:i<γ.length)(hk:k<γ.length)
  (h:∀p,p<γ.length->Δ (λj=>v j*γ.getD j zr (ν.getD p 0)) γ.length=if i=p then e else 0):v k*D γ ν=e*fe γ ν i k:=by
 have a:Δ (λp=>Δ (λj=>v j*γ.getD j zr (ν.getD p 0)) γ.length*fe γ ν p k) γ.length=e*fe γ ν i k:=by rw[iW hi λp hp jn=>by rw[h p hp,if_neg (Ne.symm jn)];simp];rw[h i hi,aax rfl]
 have b:Δ (λp=>Δ (λj=>v j*γ.getD j zr (ν.getD p 0)) γ.length*fe γ ν p k) γ.length=Δ (λj=>v j*Δ (λp=>γ.getD j zr (ν.getD p 0)*fe γ ν p k) γ.length) γ.length:=by
  have e1:Δ (λp=>Δ (λj=>v j*γ.getD j zr (ν.getD p 0)) γ.length*fe γ ν p k) γ.length=Δ (λp=>Δ (λj=>v j*(γ.getD j zr (ν.getD p 0)*fe γ ν p k)) γ.length) γ.length:=by refine Α λp _=>?_;rw[aa6,<-Χ];refine Α λj _=>?_;grind
  rw[e1,dJ];refine Α λj _=>?_;rw[<-Χ]
 rw[<-a,b,iW hk λj hj jn=>by rw[PA hl hj hk,if_neg jn];simp];rw[PA hl hk hk,aax rfl]
def ind(a k:Nat):Int:=if a=k then 1 else 0
def rv(A:Nat->Row)(n:Nat)(w:Row)(x:Nat):Int:=Δ (λk=>w k*A k x) n
def nC(h:a<n):Δ (λk=>ind a k*f k) n=f a:=by rw[iW h λi _ jn=>by unfold ind;rw[if_neg (Ne.symm jn)];simp];unfold ind;rw[if_pos rfl];simp
def yt{u v:Row}{a b:Int}(h:∀k,w k=a*u k-b*v k)(x:Nat):rv A n w x=a*rv A n u x-b*rv A n v x:=by
 unfold rv;have e:Δ (λk=>w k*A k x) n=Δ (λk=>a*(u k*A k x)+(-b)*(v k*A k x)) n:=Α λk _=>by rw[h k];grind
 rw[e,g8,Χ,Χ];grind
def Kh{r:Nat}{g:Nat->Int}{u:Nat->Row}(h:∀k,w k=Δ (λj=>g j*u j k) r)(x:Nat):rv A n w x=Δ (λj=>g j*rv A n (u j) x) r:=by
 unfold rv;have e:Δ (λk=>w k*A k x) n=Δ (λk=>Δ (λj=>g j*(u j k*A k x)) r) n:=Α λk _=>by rw[h k,aa6,<-Χ];exact Α λj _=>by grind
 rw[e,dJ];exact Α λj _=>Χ _ _ _
def A9(h:a<n)(x:Nat):rv A n (ind a) x=A a x:=by unfold rv;exact nC (f:=λk=>A k x) h
structure St(A:Nat->Row)(n:Nat)(ρ ν:List Nat)(q:Nat->Nat)(d:Int)(W:Nat->Row):Prop where
 lc:ν.length=ρ.length
 rn:ρ.length<=n
 Ly:∀i,i<n->q i<n
 AK:∀j,j<ρ.length->ρ.getD j 0<n
 det:D (ρ.map A) ν=d
 wp:∀i,i<ρ.length->∀k,W i k=Δ (λj=>fe (ρ.map A) ν i j*ind (ρ.getD j 0) k) ρ.length
 wn:∀i,ρ.length<=i->i<n->∀k,W i k=d*ind (q i) k-Δ (λp=>A (q i) (ν.getD p 0)*W p k) ρ.length
 one:∀i p,i<ρ.length->p<ρ.length->rv A n (W i) (ν.getD p 0)=if i=p then d else 0
section
variable{q:Nat->Nat}
def um{j:Nat}(h:j<ρ.length):(ρ.map A).getD j zr=A (ρ.getD j 0):=by rw[aab,aaq,aaa h,aab,aaa h];rfl
def St.RJ(s:St A n ρ ν q d W)(hi:i<ρ.length)(x:Nat):rv A n (W i) x=Δ (λj=>fe (ρ.map A) ν i j*A (ρ.getD j 0) x) ρ.length:=by rw[Kh (u:=λj=>ind (ρ.getD j 0)) (s.wp i hi)];exact Α λj hj=>by rw[A9 (s.AK j hj)]
def St.Pd(s:St A n ρ ν q d W)(h1:ρ.length<=i)(hi:i<n)(x:Nat):rv A n (W i) x=d*A (q i) x-Δ (λp=>A (q i) (ν.getD p 0)*rv A n (W p) x) ρ.length:=by
 have h:∀k,W i k=d*ind (q i) k-1*Δ (λp=>A (q i) (ν.getD p 0)*W p k) ρ.length:=λk=>by rw[s.wn i h1 hi k];omega
 rw[yt h x,A9 (s.Ly i hi),Kh (w:=λk=>Δ (λp=>A (q i) (ν.getD p 0)*W p k) ρ.length) (u:=W) (λk=>rfl)];omega
def St.zero(s:St A n ρ ν q d W){p:Nat}(h1:ρ.length<=i)(hi:i<n)(hp:p<ρ.length):rv A n (W i) (ν.getD p 0)=0:=by
 rw[s.Pd h1 hi];have e:Δ (λp'=>A (q i) (ν.getD p' 0)*rv A n (W p') (ν.getD p 0)) ρ.length=A (q i) (ν.getD p 0)*d:=by rw[iW hp λp' Ee jn=>by rw[s.one p' p Ee hp,if_neg jn];simp];rw[s.one p p hp hp,aax rfl]
 rw[e];grind
def St.head(s:St A n ρ ν q d W)(hr:ρ.length<n)(c:Nat):D ((ρ++[q ρ.length]).map A) (ν++[c])=rv A n (W ρ.length) c:=by
 rw[aa8,s.Pd (aan _) hr];show D (ρ.map A++[A (q ρ.length)]) (ν++[c])=_;rw[JF (by rw[aac];exact s.lc),s.det,aac,aa6]
 congr 1
 refine Α λp hp=>?_;rw[s.RJ hp]
 congr 1
 exact Α λk hk=>by rw[um hk]
def nW{j:Nat}{l:List Nat}(h:j<l.length):(l++[a]).getD j 0=l.getD j 0:=by rw[aab,aas h,<-aab]
def nF{l:List Nat}:(l++[a]).getD l.length 0=a:=by simp
def mix(f:Nat->Int)(s:St A n ρ ν q d W)(a L:Int)(g:Nat->Int):
  Δ (λj=>(if j<ρ.length then a*g j+L*Δ (λp=>A (q ρ.length) (ν.getD p 0)*fe (ρ.map A) ν p j) ρ.length else -(L*d))*f ((ρ++[q ρ.length]).getD j 0)) (ρ.length+1)
  =a*Δ (λj=>g j*f (ρ.getD j 0)) ρ.length-L*(d*f (q ρ.length)-Δ (λp=>A (q ρ.length) (ν.getD p 0)*Δ (λj=>fe (ρ.map A) ν p j*f (ρ.getD j 0)) ρ.length) ρ.length):=by
 rw[show∀F:Nat->Int,Δ F (ρ.length+1)=Δ F ρ.length+F ρ.length fromλ_=>rfl,nF,aaw (abI _)]
 have e:Δ (λj=>(if j<ρ.length then a*g j+L*Δ (λp=>A (q ρ.length) (ν.getD p 0)*fe (ρ.map A) ν p j) ρ.length else -(L*d))*f ((ρ++[q ρ.length]).getD j 0)) ρ.length
   =Δ (λj=>a*(g j*f (ρ.getD j 0))+L*Δ (λp=>A (q ρ.length) (ν.getD p 0)*(fe (ρ.map A) ν p j*f (ρ.getD j 0))) ρ.length) ρ.length:=by
  refine Α λj hj=>?_;rw[aax hj,nW hj];have e2:Δ (λp=>A (q ρ.length) (ν.getD p 0)*(fe (ρ.map A) ν p j*f (ρ.getD j 0))) ρ.length=f (ρ.getD j 0)*Δ (λp=>A (q ρ.length) (ν.getD p 0)*fe (ρ.map A) ν p j) ρ.length:=by rw[<-Χ];exact Α λp _=>by grind
  rw[e2];grind
 rw[e,g8,Χ,Χ,dJ (λj p=>A (q ρ.length) (ν.getD p 0)*(fe (ρ.map A) ν p j*f (ρ.getD j 0)))]
 have e3:Δ (λp=>Δ (λj=>A (q ρ.length) (ν.getD p 0)*(fe (ρ.map A) ν p j*f (ρ.getD j 0))) ρ.length) ρ.length=Δ (λp=>A (q ρ.length) (ν.getD p 0)*Δ (λj=>fe (ρ.map A) ν p j*f (ρ.getD j 0)) ρ.length) ρ.length:=
  Α λp _=>Χ _ _ _
 rw[e3];grind
def St.step(s:St A n ρ ν q d W)(hr:ρ.length<n)(c:Nat)(d0:d≠0)(h0:rv A n (W ρ.length) c≠0):
  ∃W':Nat->Row,St A n (ρ++[q ρ.length]) (ν++[c]) q (rv A n (W ρ.length) c) W'/\(∀k,W' ρ.length k=W ρ.length k)/\
   ∀i,i<n->i≠ρ.length->∀k,d*W' i k=rv A n (W ρ.length) c*W i k-rv A n (W i) c*W ρ.length k:=by
 have hd:=s.head hr c;generalize hE:rv A n (W ρ.length) c=E at *
 have lr:((ρ++[q ρ.length]).map A).length=ρ.length+1:=by simp
 have lc':(ν++[c]).length=((ρ++[q ρ.length]).map A).length:=by rw[lr];simp[s.lc]
 have cg:∀p,p<ρ.length->(ν++[c]).getD p 0=ν.getD p 0:=λp hp=>nW (by rw[s.lc];exact hp);have cl:(ν++[c]).getD ρ.length 0=c:=by rw[<-s.lc];exact nF
 have rg:∀j,j<ρ.length+1->((ρ++[q ρ.length]).map A).getD j zr=A ((ρ++[q ρ.length]).getD j 0):=λj hj=>um (by simp;omega);have head:∀j,j<ρ.length+1->(if j<ρ.length then (0:Int)*0+(-1)*Δ (λp=>A (q ρ.length) (ν.getD p 0)*fe (ρ.map A) ν p j) ρ.length else -((-1)*d))=fe ((ρ++[q ρ.length]).map A) (ν++[c]) ρ.length j:=λj hj=>by
  have:=Jz (γ:=(ρ++[q ρ.length]).map A) (ν:=ν++[c]) (v:=λj=>if j<ρ.length then (0:Int)*0+(-1)*Δ (λp=>A (q ρ.length) (ν.getD p 0)*fe (ρ.map A) ν p j) ρ.length else -((-1)*d)) (e:=E) (i:=ρ.length) (k:=j) lc' (by rw[lr];omega) (by rw[lr];exact hj) (λp hp=>by
   rw[lr]at hp⊢;have e1:=mix (λa=>A a ((ν++[c]).getD p 0)) s 0 (-1) (λ_=>0);have e2:Δ (λj=>(if j<ρ.length then (0:Int)*0+(-1)*Δ (λp=>A (q ρ.length) (ν.getD p 0)*fe (ρ.map A) ν p j) ρ.length else -((-1)*d))*((ρ++[q ρ.length]).map A).getD j zr ((ν++[c]).getD p 0)) (ρ.length+1)=_:=(Α λj hj=>by rw[rg j hj]).trans e1;rw[e2];have e3:d*A (q ρ.length) ((ν++[c]).getD p 0)-Δ (λp'=>A (q ρ.length) (ν.getD p' 0)*Δ (λj=>fe (ρ.map A) ν p' j*A (ρ.getD j 0) ((ν++[c]).getD p 0)) ρ.length) ρ.length=rv A n (W ρ.length) ((ν++[c]).getD p 0):=by
    rw[s.Pd (aan _) hr]
    congr 1
    exact Α λp' Ee=>by rw[s.RJ Ee]
   rw[e3];by_cases GC:p<ρ.length
   ·rw[cg p GC,s.zero (Nat.le_refl _) hr GC,if_neg ()];simp
   ·have:p=ρ.length:=()
    subst this
    rw[cl,hE,aax rfl];omega)
  rw[hd]at this;refine aaU h0 ?_;rw[<-this];grind
 have hk:∀k,W ρ.length k=Δ (λj=>fe ((ρ++[q ρ.length]).map A) (ν++[c]) ρ.length j*ind ((ρ++[q ρ.length]).getD j 0) k) (ρ.length+1):=λk=>by
  have e1:=mix (λa=>ind a k) s 0 (-1) (λ_=>0);have e2:Δ (λj=>fe ((ρ++[q ρ.length]).map A) (ν++[c]) ρ.length j*ind ((ρ++[q ρ.length]).getD j 0) k) (ρ.length+1)=_:=(Α λj hj=>by rw[<-head j hj]).trans e1;rw[e2,s.wn _ (aan _) hr k];have e3:Δ (λp=>A (q ρ.length) (ν.getD p 0)*W p k) ρ.length=Δ (λp=>A (q ρ.length) (ν.getD p 0)*Δ (λj=>fe (ρ.map A) ν p j*ind (ρ.getD j 0) k) ρ.length) ρ.length:=Α λp hp=>by rw[s.wp p hp k]
  rw[e3];omega
 have above:∀i,i<ρ.length->∀j,j<ρ.length+1->(if j<ρ.length then E*fe (ρ.map A) ν i j+rv A n (W i) c*Δ (λp=>A (q ρ.length) (ν.getD p 0)*fe (ρ.map A) ν p j) ρ.length else -(rv A n (W i) c*d))=d*fe ((ρ++[q ρ.length]).map A) (ν++[c]) i j:=λi hi j hj=>by
  have:=Jz (γ:=(ρ++[q ρ.length]).map A) (ν:=ν++[c]) (v:=λj=>if j<ρ.length then E*fe (ρ.map A) ν i j+rv A n (W i) c*Δ (λp=>A (q ρ.length) (ν.getD p 0)*fe (ρ.map A) ν p j) ρ.length else -(rv A n (W i) c*d)) (e:=d*E) (i:=i) (k:=j) lc' (by rw[lr];omega) (by rw[lr];exact hj) (λp hp=>by
   rw[lr]at hp⊢;have e1:=mix (λa=>A a ((ν++[c]).getD p 0)) s E (rv A n (W i) c) (λj=>fe (ρ.map A) ν i j);have e2:Δ (λj=>(if j<ρ.length then E*fe (ρ.map A) ν i j+rv A n (W i) c*Δ (λp=>A (q ρ.length) (ν.getD p 0)*fe (ρ.map A) ν p j) ρ.length else -(rv A n (W i) c*d))*((ρ++[q ρ.length]).map A).getD j zr ((ν++[c]).getD p 0)) (ρ.length+1)=_:=(Α λj hj=>by rw[rg j hj]).trans e1;rw[e2];have e3:d*A (q ρ.length) ((ν++[c]).getD p 0)-Δ (λp'=>A (q ρ.length) (ν.getD p' 0)*Δ (λj=>fe (ρ.map A) ν p' j*A (ρ.getD j 0) ((ν++[c]).getD p 0)) ρ.length) ρ.length=rv A n (W ρ.length) ((ν++[c]).getD p 0):=by
    rw[s.Pd (aan _) hr]
    congr 1
    exact Α λp' Ee=>by rw[s.RJ Ee]
   rw[e3,<-s.RJ hi];by_cases GC:p<ρ.length
   ·rw[cg p GC,s.zero (aan _) hr GC,s.one i p hi GC];split <;> grind
   ·have:p=ρ.length:=()
    subst this
    rw[cl,hE,if_neg ()];grind)
  rw[hd]at this;refine aaU h0 ?_;rw[Int.mul_comm,this];grind
 have abk:∀i,i<ρ.length->∀k,d*Δ (λj=>fe ((ρ++[q ρ.length]).map A) (ν++[c]) i j*ind ((ρ++[q ρ.length]).getD j 0) k) (ρ.length+1)=E*W i k-rv A n (W i) c*W ρ.length k:=λi hi k=>by
  have e1:=mix (λa=>ind a k) s E (rv A n (W i) c) (λj=>fe (ρ.map A) ν i j);have e2:d*Δ (λj=>fe ((ρ++[q ρ.length]).map A) (ν++[c]) i j*ind ((ρ++[q ρ.length]).getD j 0) k) (ρ.length+1)=_:=((Χ _ _ _).symm.trans (Α λj hj=>by rw[above i hi j hj];grind)).trans e1;rw[e2,s.wn _ (aan _) hr k,s.wp i hi k];have e3:Δ (λp=>A (q ρ.length) (ν.getD p 0)*W p k) ρ.length=Δ (λp=>A (q ρ.length) (ν.getD p 0)*Δ (λj=>fe (ρ.map A) ν p j*ind (ρ.getD j 0) k) ρ.length) ρ.length:=Α λp hp=>by rw[s.wp p hp k]
  rw[e3]
 let V:Nat->Row:=λi k=>if i=ρ.length then W ρ.length k else Δ (λj=>fe ((ρ++[q ρ.length]).map A) (ν++[c]) i j*ind ((ρ++[q ρ.length]).getD j 0) k) (ρ.length+1)
 let W':Nat->Row:=λi k=>if i<ρ.length+1 then V i k else E*ind (q i) k-Δ (λp=>A (q i) ((ν++[c]).getD p 0)*V p k) (ρ.length+1)
 have Wr:∀k,W' ρ.length k=W ρ.length k:=λk=>by show(if ρ.length<ρ.length+1 then (if ρ.length=ρ.length then W ρ.length k else _) else _)=_;rw[aax (abu _),aax rfl]
 have Wi:∀i,i<ρ.length->∀k,W' i k=Δ (λj=>fe ((ρ++[q ρ.length]).map A) (ν++[c]) i j*ind ((ρ++[q ρ.length]).getD j 0) k) (ρ.length+1):=λi hi k=>by show(if i<ρ.length+1 then (if i=ρ.length then _ else _) else _)=_;rw[aax (),aaw ()]
 have WV:∀p,p<ρ.length+1->∀k,W' p k=V p k:=λp hp k=>by show(if p<ρ.length+1 then V p k else _)=_;rw[aax hp]
 have Wn:∀i,ρ.length+1<=i->∀k,W' i k=E*ind (q i) k-Δ (λp=>A (q i) ((ν++[c]).getD p 0)*W' p k) (ρ.length+1):=λi hi k=>by
  show(if i<ρ.length+1 then V i k else _)=_;rw[aaw ()]
  congr 1
  exact Α λp hp=>by rw[WV p hp]
 have H:∀i,i<n->i≠ρ.length->∀k,d*W' i k=E*W i k-rv A n (W i) c*W ρ.length k:=λi hi jn k=>by
  by_cases wV:i<ρ.length
  ·rw[Wi i wV k];exact abk i wV k
  ·rw[Wn i () k,s.wn i () hi k,s.Pd () hi c];rw[show∀F:Nat->Int,Δ F (ρ.length+1)=Δ F ρ.length+F ρ.length fromλ_=>rfl,cl,Wr];have e1:d*Δ (λp=>A (q i) ((ν++[c]).getD p 0)*W' p k) ρ.length=Δ (λp=>E*(A (q i) (ν.getD p 0)*W p k)+(-(W ρ.length k))*(A (q i) (ν.getD p 0)*rv A n (W p) c)) ρ.length:=by rw[<-Χ];refine Α λp hp=>?_;have:=abk p hp k;rw[cg p hp,Wi p hp k];grind
   rw[g8,Χ,Χ]at e1;grind
 refine⟨W',⟨by simp[s.lc],by simp;omega,s.Ly,λj hj=>?_,hd,λi hi k=>?_,λi h1 hi k=>?_,λi p hi hp=>?_⟩,Wr,H⟩
 ·by_cases hjr:j<ρ.length
  ·rw[nW hjr];exact s.AK j hjr
  ·have:j=ρ.length:=by simp at hj;omega
   rw[this,nF];exact s.Ly _ hr
 ·rw[show(ρ++[q ρ.length]).length=ρ.length+1 by simp]at hi⊢;by_cases wV:i<ρ.length
  ·exact Wi i wV k
  ·have:i=ρ.length:=()
   subst this;rw[Wr k];exact hk k
 ·rw[show(ρ++[q ρ.length]).length=ρ.length+1 by simp]at h1⊢;exact Wn i h1 k
 ·rw[show(ρ++[q ρ.length]).length=ρ.length+1 by simp]at hi hp;have hrr:∀x,rv A n (W' ρ.length) x=rv A n (W ρ.length) x:=λx=>by unfold rv;exact Α λk _=>by rw[Wr k]
  by_cases wV:i<ρ.length
  ·have Yb:d*rv A n (W' i) ((ν++[c]).getD p 0)=E*rv A n (W i) ((ν++[c]).getD p 0)-rv A n (W i) c*rv A n (W ρ.length) ((ν++[c]).getD p 0):=by have:=yt (A:=A) (n:=n) (w:=λk=>d*W' i k) (u:=W i) (v:=W ρ.length) (a:=E) (b:=rv A n (W i) c) (λk=>H i () () k) ((ν++[c]).getD p 0);rw[<-this];unfold rv;rw[<-Χ];exact Α λk _=>by grind
   refine aaU d0 ?_;rw[Yb];by_cases GC:p<ρ.length
   ·rw[cg p GC,s.zero (aan _) hr GC,s.one i p wV GC];split <;> grind
   ·have:p=ρ.length:=()
    subst this;rw[cl,hE,if_neg ()];grind
  ·have:i=ρ.length:=()
   subst this;rw[hrr];by_cases GC:p<ρ.length
   ·rw[cg p GC,s.zero (aan _) hr GC,aaw ()]
   ·have:p=ρ.length:=()
    subst this;rw[cl,hE,aax rfl]
end
def St.start:St A n [] [] id 1 (λi=>ind i) where
 lc:=rfl
 rn:=ab9 _
 Ly:=λ_ h=>h
 AK:=λ_ h=>aaL h (abL _)
 det:=rfl
 wp:=λ_ h=>aaL h (abL _)
 wn:=λi _ _ k=>by show ind i k=1*ind i k-0;omega
 one:=λ_ _ h=>aaL h (abL _)
def St.perm{q:Nat->Nat}(s:St A n ρ ν q d W){π:Nat->Nat}(h1:∀i,i<ρ.length->π i=i)(h2:∀i,ρ.length<=i->i<n->ρ.length<=π i/\π i<n):St A n ρ ν (λi=>q (π i)) d (λi=>W (π i)) where
 lc:=s.lc
 rn:=s.rn
 Ly:=λi hi=>s.Ly _ (by
  by_cases h:i<ρ.length
  ·rw[h1 i h];exact hi
  ·exact(h2 i () hi).2)
 AK:=s.AK
 det:=s.det
 wp:=λi hi k=>by show W (π i) k=_;rw[h1 i hi];exact s.wp i hi k
 wn:=λi hi hn k=>by
  have⟨a,b⟩:=h2 i hi hn;have:=s.wn (π i) a b k;rw[this]
  congr 1
  exact Α λp hp=>by rw[h1 p hp]
 one:=λi p hi hp=>by show rv A n (W (π i)) _=_;rw[h1 i hi];exact s.one i p hi hp
def Ab(x B:Int):Prop:= -B<=x/\x<=B
def Ab.mul{x y C:Int}(h:Ab x B)(h':Ab y C):Ab (x*y) (B*C):=by
 have⟨a,b⟩:=h;have⟨c,d⟩:=h';have B0:0<=B:=()
 have C0:0<=C:=()
 have hb:x.natAbs<=B.natAbs:=()
 have hc:y.natAbs<=C.natAbs:=()
 have hm:=Nat.mul_le_mul hb hc;rw[<-abj,<-abj]at hm;have p:=abi B0 C0;exact⟨(),()⟩
def Ab.add{x y C:Int}(h:Ab x B)(h':Ab y C):Ab (x+y) (B+C):=⟨by have:=h.1;have:=h'.1;omega,by have:=h.2;have:=h'.2;omega⟩
def Ab.sub{x y C:Int}(h:Ab x B)(h':Ab y C):Ab (x-y) (B+C):=⟨by have:=h.1;have:=h'.2;omega,by have:=h.2;have:=h'.1;omega⟩
def Ab.mono{x C:Int}(h:Ab x B)(h':B<=C):Ab x C:=⟨by have:=h.1;omega,by have:=h.2;omega⟩
def Ab.sum{f:Nat->Int}{B:Int}:∀{n:Nat},(∀i,i<n->Ab (f i) B)->Ab (Δ f n) (n*B)
 |0,_=>⟨by simp[Δ],by simp[Δ]⟩
 |n+1,h=>by
  have i:=Ab.sum (n:=n) λi hi=>h i ();have:=Ab.add i (h n ());have e:(n:Int)*B+B=((n+1:Nat):Int)*B:=by rw[show((n+1:Nat):Int)=(n:Int)+1 from rfl,Int.add_mul,Int.one_mul]
  rw[e]at this;exact this
def Ab.pow{k:Nat}{x:Int}(h:Ab x B):Ab ((-1)^k*x) B:=by
 rcases(by induction k with
  |zero=>exact .inl rfl
  |succ k ih=>rw[Int.pow_succ];rcases ih with e|e <;> rw[e] <;> simp:((-1:Int)^k=1\/(-1:Int)^k= -1)) with e|e
 ·rw[e,Int.one_mul];exact h
 ·rw[e];have⟨a,b⟩:=h;exact⟨(),()⟩
def Ab.det{B:Int}(B0:1<=B):∀(γ:List Row) (ν:List Nat),(∀x∈γ,∀c∈ν,Ab (x c) B)->ν.length<=12->Ab (D γ ν) ((12*B)^γ.length)
 |[],ν,_,_=>by
  show Ab (F0 ν) ((12*B)^0);rw[Int.pow_zero];unfold F0;split
  ·exact⟨@_,@_⟩
  ·exact⟨@_,@_⟩
 |x::γ,ν,h,hl=>by
  show Ab (Lx x (D γ) ν) _;rw[xt,aaB,abX];have P0:(0:Int)<=(12*B)^γ.length:=abY ();have each:∀p,p<ν.length->Ab ((-1)^p*(x (ν.getD p 0)*D γ (ν.eraseIdx p))) (B*(12*B)^γ.length):=λp hp=>by
   refine Ab.pow (Ab.mul ?_ (Ab.det B0 γ (ν.eraseIdx p) (λy hy c hc=>h y (aad _ hy) c (aco hc)) ?_))
   ·rw[aab,aaa hp];exact h x aae _ (aaG hp)
   ·rw[List.length_eraseIdx];split <;> omega
  refine(Ab.sum each).mono ?_;have Q0:0<=B*(12*B)^γ.length:=abi () P0;have:=aaO (show(ν.length:Int)<=12 by omega) Q0;refine abM this ?_;have e:12*(B*(12*B)^γ.length)=(12*B)^γ.length*(12*B):=by grind
  omega
section
variable{q:Nat->Nat}
structure Bd(A:Nat->Row)(n m:Nat)(B:Int):Prop where
 b1:1<=B
 ab:∀k x,k<n->x<m->Ab (A k x) B
def top(B:Int)(r:Nat):Int:=(12*B)^(r+3)
def w_{b:Nat}(h:1<=B)(U9:a<=b):(12*B)^a<=(12*B)^b:=by
 have⟨c,rfl⟩:=Nat.exists_eq_add_of_le U9;rw[Int.pow_add];have p:(1:Int)<=(12*B)^c:=by have:0<(12*B)^c:=Int.pow_pos ();omega
 have q:(0:Int)<=(12*B)^a:=abY ();have:=aaC p q;omega
def St.abs(s:St A n ρ ν q d W)(b:Bd A n m B)(hc:∀c∈ν,c<m)(hr:ρ.length<=12):
  (∀i k,i<n->Ab (W i k) (top B ρ.length))/\(∀i x,i<n->x<m->Ab (rv A n (W i) x) (top B ρ.length))/\Ab d (top B ρ.length):=by
 have B0:=b.b1;have mem:∀j,j<ρ.length->ρ.getD j 0∈ρ:=λj hj=>by rw[aab,aaa hj];exact aaG hj
 have ρn:∀a∈ρ,a<n:=λa ha=>by have⟨j,hj,e⟩:=abl ha;have:=s.AK j hj;rw[aab,aaa hj]at this;rw[<-e];exact this
 have ent:∀x∈ρ.map A,∀c∈ν,Ab (x c) B:=λx hx c C2=>by have⟨a,ha,rfl⟩:=aaj.mp hx;exact b.ab a c (ρn a ha) (hc c C2)
 have cl:ν.length<=12:=by rw[s.lc];exact hr
 have hd:Ab d ((12*B)^ρ.length):=by have:=Ab.det B0 (ρ.map A) ν ent cl;rw[s.det,aac]at this;exact this
 have VW:∀p k,Ab (fe (ρ.map A) ν p k) ((12*B)^ρ.length):=λp k=>by
  unfold fe;refine Ab.pow ((Ab.det B0 _ _ (λx hx c C2=>ent x (aco hx) c (aco C2)) ?_).mono (w_ B0 ?_))
  ·rw[List.length_eraseIdx];split <;> omega
  ·rw[List.length_eraseIdx,aac];split <;> omega
 have i1:∀a k,Ab (ind a k) 1:=λa k=>by unfold ind;split <;> exact⟨@_,@_⟩
 have P0:(0:Int)<=(12*B)^ρ.length:=abY ();have Ni:∀{C:Int},0<=C->(ρ.length:Int)*C<=12*C:=λh=>aaO () h;have c1:12*(12*B)^ρ.length<=(12*B)^(ρ.length+1):=by rw[abX];have:=aaC (show(12:Int)<=12*B by omega) P0;omega
 have wp:∀i k,i<ρ.length->Ab (W i k) ((12*B)^(ρ.length+1)):=λi k hi=>by rw[s.wp i hi k];refine(Ab.sum (B:=(12*B)^ρ.length) λj hj=>?_).mono (abM (Ni P0) c1);have:=Ab.mul (VW i j) (i1 (ρ.getD j 0) k);rw[Int.mul_one]at this;exact this
 have rp:∀i x,i<ρ.length->x<m->Ab (rv A n (W i) x) ((12*B)^(ρ.length+1)):=λi x hi hx=>by
  rw[s.RJ hi];have Q0:0<=(12*B)^ρ.length*B:=abi P0 ();refine(Ab.sum (B:=(12*B)^ρ.length*B) λj hj=>Ab.mul (VW i j) (b.ab _ x (s.AK j hj) hx)).mono (abM (Ni Q0) ?_);rw[abX];have:12*((12*B)^ρ.length*B)=(12*B)^ρ.length*(12*B):=by grind
  omega
 have S0:(0:Int)<=(12*B)^(ρ.length+1):=abY ();have T0:(0:Int)<=(12*B)^(ρ.length+2):=abY ();have c2:12*(B*(12*B)^(ρ.length+1))=(12*B)^(ρ.length+2):=by rw[show ρ.length+2=ρ.length+1+1 from rfl,Int.pow_succ];grind
 have c3:(12*B)^(ρ.length+2)+(12*B)^(ρ.length+2)<=top B ρ.length:=by unfold top;have e:(12*B)^(ρ.length+3)=(12*B)^(ρ.length+2)*(12*B):=abX _ _;rw[e];have:=aaC (show(2:Int)<=12*B by omega) T0;omega
 have c4:(12*B)^(ρ.length+1)<=(12*B)^(ρ.length+2):=w_ B0 ();have c5:(12*B)^ρ.length<=(12*B)^(ρ.length+2):=w_ B0 ();have c6:(12*B)^ρ.length*B<=(12*B)^(ρ.length+2):=by refine abM ?_ c4;rw[abX];exact aaC () P0
 have U0:0<=B*(12*B)^(ρ.length+1):=abi () S0;have SD:∀p,p<ρ.length->ν.getD p 0<m:=λp hp=>by
  have Ee:p<ν.length:=by rw[s.lc];exact hp
  rw[aab,aaa Ee];exact hc _ (aaG Ee)
 refine⟨λi k hi=>?_,λi x hi hx=>?_,hd.mono ()⟩
 ·by_cases wV:i<ρ.length
  ·exact(wp i k wV).mono ()
  ·rw[s.wn i () hi k];have a1:=Ab.mul hd (i1 (q i) k);rw[Int.mul_one]at a1;refine(Ab.sub a1 (Ab.sum (B:=B*(12*B)^(ρ.length+1)) λp hp=>Ab.mul (b.ab (q i) _ (s.Ly i hi) (SD p hp)) (wp p k hp))).mono ?_;have:=Ni U0;omega
 ·by_cases wV:i<ρ.length
  ·exact(rp i x wV hx).mono ()
  ·rw[s.Pd () hi];refine(Ab.sub (Ab.mul hd (b.ab (q i) x (s.Ly i hi) hx)) (Ab.sum (B:=B*(12*B)^(ρ.length+1)) λp hp=>Ab.mul (b.ab (q i) _ (s.Ly i hi) (SD p hp)) (rp p x hp hx))).mono ?_;have:=Ni U0;omega
end
def dw(n i:Nat):List Int:=(List.range n).map (ind i)
def j8(ls:List (List Int))(f k:Nat):List (List Int):=ls.take f++[ls.getD k []]++(ls.drop f).take (k-f)++ls.drop (k+1)
def dG(l h:List Int)(c:Nat)(d:Int):List Int:=(l.zip h).map λp=>(h.getD c 0*p.1-l.getD c 0*p.2).fdiv d
def aG(A:Nat->Row)(n m:Nat)(w:Row):List Int:=(List.range m).map (λx=>rv A n w x)++(List.range n).map w
def ah(A:Nat->Row)(n m:Nat)(W:Nat->Row):List (List Int):=(List.range n).map λi=>aG A n m (W i)
def arr(γ:List (List Int)):Nat->Row:=λk x=>(γ.getD k []).getD x 0
def eZ:(aG A n m w).length=m+n:=by unfold aG;simp
def iw{x:Nat}(h:x<m):(aG A n m w).getD x 0=rv A n w x:=by unfold aG;rw[List.getD_eq_getElem?_getD,List.getElem?_append_left (by simpa using h),List.getElem?_map,List.getElem?_range h];rfl
def kI(h:i<n):(ah A n m W).getD i []=aG A n m (W i):=by unfold ah;rw[aab,aaq,aaY h];rfl
def dI:(ah A n m W).length=n:=by unfold ah;simp
def A8{u:Row}(h:∀k,w k=u k):aG A n m w=aG A n m u:=by have:w=u:=funext h;rw[this]
def AG{γ:List (List Int)}(hl:∀r∈γ,r.length=m):(List.range γ.length).map (λi=>γ.getD i []++dw γ.length i)=ah (arr γ) γ.length m (λi=>ind i):=by
 unfold ah;apply abg;intro i hi;have hi:=aba.mp hi;unfold aG dw
 congr 1
 have g:γ.getD i []=γ[i]:=by rw[aab,aaa hi];rfl
 have ml:=hl γ[i] (aaG hi);apply abq
 ·rw[g,ml];simp
 ·intro x h1 h2;simp only[List.getElem_map,List.getElem_range];rw[A9 hi];unfold arr;rw[aab (l:=γ.getD i []),aaa h1];rfl
def jq(r k i:Nat):Nat:=if i<r then i else if i=r then k else if i<=k then i-1 else i
def AR{r k:Nat}(hr:r<=k)(hk:k<n):j8 (ah A n m W) r k=ah A n m (λi=>W (jq r k i)):=by
 unfold j8;rw[kI hk];unfold ah;apply List.ext_getElem?;intro i;rw[aaq];simp only[List.append_assoc];by_cases h1:i<r
 ·rw[List.getElem?_append_left (by simp;omega),List.getElem?_take_of_lt h1,List.getElem?_map];rw[aaY ()];have:jq r k i=i:=by unfold jq;rw[if_pos h1]
  simp[this]
 ·rw[List.getElem?_append_right (by simp;omega)];have lt:((List.map (λi=>aG A n m (W i)) (List.range n)).take r).length=r:=by simp;omega
  rw[lt];by_cases h2:i=r
  ·subst h2;rw[Nat.sub_self,List.getElem?_append_left (by simp)];rw[aaY ()];have:jq i k i=k:=by unfold jq;rw[if_neg (Nat.lt_irrefl _),if_pos rfl]
   simp[this]
  ·rw[List.getElem?_append_right (by simp;omega)];show(_++_)[i-r-1]? =_;have l2:((List.map (λi=>aG A n m (W i)) (List.range n)).drop r|>.take (k-r)).length=k-r:=by simp;omega
   by_cases h3:i<=k
   ·rw[aas (by rw[l2];omega),acm (),List.getElem?_drop,aaq,aaY (),aaY ()];have:jq r k i=i-1:=by unfold jq;rw[if_neg h1,if_neg h2,if_pos h3]
    simp only[Option.map_some,this];rw[show r+(i-r-1)=i-1 by omega]
   ·rw[aao (by rw[l2];omega),l2,List.getElem?_drop,aaq];rw[show k+1+(i-r-1-(k-r))=i by omega];by_cases h4:i<n
    ·rw[aaY h4];have:jq r k i=i:=by unfold jq;rw[if_neg h1,if_neg h2,if_neg h3]
     simp[this]
    ·rw[List.getElem?_eq_none (by simpa using h4)];rfl
def rK{a b:Int}(h:d≠0)(e:d*b=a):a.fdiv d=b:=by rw[<-e];exact Int.mul_fdiv_cancel_left b h
def tE{c:Nat}{u v:Row}(hc:c<m)(d0:d≠0)(h:∀k,d*v k=rv A n u c*w k-rv A n w c*u k):dG (aG A n m w) (aG A n m u) c d=aG A n m v:=by
 have hr:∀x,d*rv A n v x=rv A n u c*rv A n w x-rv A n w c*rv A n u x:=λx=>by have:=yt (A:=A) (n:=n) (w:=λk=>d*v k) (u:=w) (v:=u) (a:=rv A n u c) (b:=rv A n w c) h x;rw[<-this];unfold rv;rw[<-Χ];exact Α λk _=>by grind
 unfold dG;rw[iw hc,iw hc];unfold aG;rw[List.zip_append (by simp),List.map_append]
 congr 1
 ·apply abq
  ·simp
  ·intro x h1 h2;simp only[List.getElem_map,List.getElem_zip,List.getElem_range];exact rK d0 (hr x)
 ·apply abq
  ·simp
  ·intro x h1 h2;simp only[List.getElem_map,List.getElem_zip,List.getElem_range];exact rK d0 (h x)
structure Turn(A:Nat->Row)(n:Nat)(col:Nat)(ρ ν:List Nat)(q:Nat->Nat)(d:Int)(W:Nat->Row):Prop where
 st:St A n ρ ν q d W
 d0:d≠0
 cl:∀c∈ν,c<col
 Ri:∀i,i<ρ.length->q i=ρ.getD i 0
 O9:∀k,k<n->∃i,i<n/\q i=k
 zero:∀i,ρ.length<=i->i<n->∀x,x<col->rv A n (W i) x=0
 all:ν=List.range col\/∃x,x<col/\x∉ν
def Turn.start:Turn A n 0 [] [] id 1 (λi=>ind i) where
 st:=St.start
 d0:=@_
 cl:=λ_ h=>nomatch h
 Ri:=λ_ h=>aaL h (abL _)
 O9:=λk h=>⟨k,h,rfl⟩
 zero:=λ_ _ _ _ h=>aaL h (abL _)
 all:=.inl rfl
section
variable{col:Nat}{q:Nat->Nat}
def Turn.skip(t:Turn A n col ρ ν q d W)(h:∀i,ρ.length<=i->i<n->rv A n (W i) col=0):Turn A n (col+1) ρ ν q d W where
 st:=t.st
 d0:=t.d0
 cl:=λc hc=>ab2 (t.cl c hc)
 Ri:=t.Ri
 O9:=t.O9
 zero:=λi h1 h2 x hx=>by
  by_cases e:x=col
  ·rw[e];exact h i h1 h2
  ·exact t.zero i h1 h2 x ()
 all:=.inr ⟨col,abu _,λz=>aaL (t.cl col z) (abI _)⟩
def Turn.move(t:Turn A n col ρ ν q d W){k:Nat}(h1:ρ.length<=k)(h2:k<n):Turn A n col ρ ν (λi=>q (jq ρ.length k i)) d (λi=>W (jq ρ.length k i)) where
 st:=t.st.perm (λi hi=>by unfold jq;rw[if_pos hi]) λi a b=>by unfold jq;split <;> (try split) <;> (try split) <;> omega
 d0:=t.d0
 cl:=t.cl
 Ri:=λi hi=>by show q (jq ρ.length k i)=_;rw[show jq ρ.length k i=i by unfold jq;rw[if_pos hi]];exact t.Ri i hi
 O9:=λj hj=>by
  have⟨i,hi,e⟩:=t.O9 j hj;by_cases a:i<ρ.length
  ·exact⟨i,hi,by show q (jq ρ.length k i)=j;rw[show jq ρ.length k i=i by unfold jq;rw[if_pos a]];exact e⟩
  ·by_cases b:i=k
   ·exact⟨ρ.length,(),by show q (jq ρ.length k ρ.length)=j;rw[show jq ρ.length k ρ.length=k by unfold jq;rw[if_neg (Nat.lt_irrefl _),if_pos rfl],<-b];exact e⟩
   ·by_cases c:i<k
    ·exact⟨i+1,(),by show q (jq ρ.length k (i+1))=j;rw[show jq ρ.length k (i+1)=i by unfold jq;rw[if_neg (),if_neg (),if_pos ()];omega];exact e⟩
    ·exact⟨i,hi,by show q (jq ρ.length k i)=j;rw[show jq ρ.length k i=i by unfold jq;rw[if_neg a,if_neg (),if_neg ()]];exact e⟩
 zero:=λi a b x hx=>by
  have:ρ.length<=jq ρ.length k i/\jq ρ.length k i<n:=by unfold jq;split <;> (try split) <;> (try split) <;> omega
  exact t.zero _ this.1 this.2 x hx
 all:=t.all
def Turn.step(t:Turn A n col ρ ν q d W)(hr:ρ.length<n)(hm:col<m)(h0:rv A n (W ρ.length) col≠0):
  ∃W',Turn A n (col+1) (ρ++[q ρ.length]) (ν++[col]) q (rv A n (W ρ.length) col) W'/\
   ((ah A n m W).take ρ.length).map (λl=>dG l (aG A n m (W ρ.length)) col d)++[aG A n m (W ρ.length)]++((ah A n m W).drop (ρ.length+1)).map (λl=>dG l (aG A n m (W ρ.length)) col d)=ah A n m W':=by
 have⟨W',s',e1,e2⟩:=t.st.step hr col t.d0 h0;refine⟨W',⟨s',h0,λc hc=>?_,λi hi=>?_,t.O9,λi a b x hx=>?_,?_⟩,?_⟩
 ·rcases aaV.mp hc with z| z
  ·exact ab2 (t.cl c z)
  ·have:c=col:=by simpa using z
   omega
 ·by_cases wV:i<ρ.length
  ·rw[nW wV];exact t.Ri i wV
  ·have:i=ρ.length:=by simp at hi;omega
   rw[this,nF]
 ·rw[show(ρ++[q ρ.length]).length=ρ.length+1 by simp]at a;have Yb:d*rv A n (W' i) x=rv A n (W ρ.length) col*rv A n (W i) x-rv A n (W i) col*rv A n (W ρ.length) x:=by have:=yt (A:=A) (n:=n) (w:=λk=>d*W' i k) (u:=W i) (v:=W ρ.length) (λk=>e2 i b () k) x;rw[<-this];unfold rv;rw[<-Χ];exact Α λk _=>by grind
  refine aaU t.d0 ?_;rw[Yb];by_cases e:x=col
  ·subst e;grind
  ·rw[t.zero i () b x (),t.zero ρ.length (Nat.le_refl _) hr x ()];simp
 ·rcases t.all with z| ⟨x,a,b⟩
  ·left;rw[z,List.range_succ]
  ·refine .inr ⟨x,(),λz=>?_⟩;rcases aaV.mp z with z| z
   ·exact b z
   ·have:x=col:=by simpa using z
    omega
 ·unfold ah;rw[<-acu,<-acv,aaM,aaM];apply List.ext_getElem?;intro i;simp only[List.append_assoc];have lt:(List.map ((λl=>dG l (aG A n m (W ρ.length)) col d) ∘ λi=>aG A n m (W i)) ((List.range n).take ρ.length)).length=ρ.length:=by simp;omega
  by_cases h1:i<ρ.length
  ·rw[aas (by rw[lt];exact h1),aaq,aaq,acm h1,aaY ()];show some (dG (aG A n m (W i)) (aG A n m (W ρ.length)) col d)=some _;rw[tE hm t.d0 (e2 i () ())]
  ·rw[aao (by rw[lt];omega),lt,aaq];by_cases h2:i=ρ.length
   ·subst h2;rw[Nat.sub_self,aaY hr];show some (aG A n m (W ρ.length))=some (aG A n m (W' ρ.length));rw[A8 e1]
   ·rw[List.getElem?_append_right (by simp;omega)];show(List.map _ ((List.range n).drop (ρ.length+1)))[i-ρ.length-1]? =_;rw[aaq,List.getElem?_drop,show ρ.length+1+(i-ρ.length-1)=i by omega];by_cases h4:i<n
    ·rw[aaY h4];show some (dG (aG A n m (W i)) (aG A n m (W ρ.length)) col d)=some _;rw[tE hm t.d0 (e2 i h4 h2)]
    ·rw[List.getElem?_eq_none (by simpa using h4)];rfl
end
section
variable{col:Nat}{q:Nat->Nat}
def Turn.back(t:Turn A n col ρ ν q d W){k y:Nat}(hk:k<n)(hy:y<col):d*A k y=Δ (λp=>A k (ν.getD p 0)*rv A n (W p) y) ρ.length:=by
 have⟨i,hi,e⟩:=t.O9 k hk;have s:=t.st;by_cases wV:i<ρ.length
 ·have ek:k=ρ.getD i 0:=by rw[<-e];exact t.Ri i wV
  have lr:(ρ.map A).length=ρ.length:=aac _;have e1:Δ (λp=>A k (ν.getD p 0)*rv A n (W p) y) ρ.length=Δ (λp=>Δ (λj=>(A k (ν.getD p 0)*fe (ρ.map A) ν p j)*A (ρ.getD j 0) y) ρ.length) ρ.length:=Α λp hp=>by rw[s.RJ hp,<-Χ];exact Α λj _=>by grind
  have e2:Δ (λp=>Δ (λj=>(A k (ν.getD p 0)*fe (ρ.map A) ν p j)*A (ρ.getD j 0) y) ρ.length) ρ.length=Δ (λj=>A (ρ.getD j 0) y*Δ (λp=>(ρ.map A).getD i zr (ν.getD p 0)*fe (ρ.map A) ν p j) ρ.length) ρ.length:=by rw[dJ];refine Α λj _=>?_;rw[<-Χ];refine Α λp _=>?_;rw[um wV,<-ek];grind
  rw[e1,e2];have pa:∀j,j<ρ.length->Δ (λp=>(ρ.map A).getD i zr (ν.getD p 0)*fe (ρ.map A) ν p j) ρ.length=if i=j then d else 0:=λj hj=>by have:=PA (γ:=ρ.map A) (ν:=ν) (i:=i) (k:=j) (by rw[lr];exact s.lc) (by rw[lr];exact wV) (by rw[lr];exact hj);rw[lr,s.det]at this;exact this
  rw[iW wV λj hj jn=>by rw[pa j hj,if_neg (Ne.symm jn)];simp];rw[pa i wV,if_pos rfl,ek];grind
 ·have:=s.Pd () hi y;rw[t.zero i () hi y hy,e]at this;omega
def Turn.kernel(t:Turn A n col ρ ν q d W){x:Nat}(hx:x<col)(hf:x∉ν):∃z:Row,z x= -d/\∀k,k<n->Δ (λy=>A k y*z y) col=0:=by
 have s:=t.st;have cm:∀i,i<ρ.length->ν.getD i 0∈ν:=λi hi=>by
  have qE:i<ν.length:=by rw[s.lc];exact hi
  rw[aab,aaa qE];exact aaG qE
 refine⟨λy=>Δ (λi=>rv A n (W i) x*ind (ν.getD i 0) y) ρ.length-d*ind x y,?_,λk hk=>?_⟩
 ·have e1:Δ (λi=>rv A n (W i) x*ind (ν.getD i 0) x) ρ.length=0:=iT λi hi=>by unfold ind;rw[if_neg λz=>hf (by rw[<-z];exact cm i hi)];simp
  show Δ (λi=>rv A n (W i) x*ind (ν.getD i 0) x) ρ.length-d*ind x x= -d;rw[e1];unfold ind;rw[if_pos rfl];omega
 ·have gen:∀f:Row,Δ (λy=>f y*(Δ (λi=>rv A n (W i) x*ind (ν.getD i 0) y) ρ.length-d*ind x y)) col=Δ (λi=>rv A n (W i) x*f (ν.getD i 0)) ρ.length-d*f x:=λf=>by
   have e1:Δ (λy=>f y*(Δ (λi=>rv A n (W i) x*ind (ν.getD i 0) y) ρ.length-d*ind x y)) col=Δ (λy=>Δ (λi=>rv A n (W i) x*(ind (ν.getD i 0) y*f y)) ρ.length+(-d)*(ind x y*f y)) col:=Α λy _=>by
    have:Δ (λi=>rv A n (W i) x*(ind (ν.getD i 0) y*f y)) ρ.length=f y*Δ (λi=>rv A n (W i) x*ind (ν.getD i 0) y) ρ.length:=by rw[<-Χ];exact Α λi _=>by grind
    rw[this];grind
   rw[e1,g8,Χ,nC (f:=f) hx,dJ];have e2:Δ (λi=>Δ (λy=>rv A n (W i) x*(ind (ν.getD i 0) y*f y)) col) ρ.length=Δ (λi=>rv A n (W i) x*f (ν.getD i 0)) ρ.length:=Α λi hi=>by rw[Χ,nC (f:=f) (t.cl _ (cm i hi))]
   rw[e2];grind
  refine aaU t.d0 ?_;rw[Int.mul_zero,gen (A k),Int.mul_sub];have b1:=t.back hk hx;have e3:Δ (λi=>rv A n (W i) x*A k (ν.getD i 0)) ρ.length=d*A k x:=by rw[b1];exact Α λi _=>aa6 _ _
  rw[e3];grind
def P_(A:Nat->Row)(n u:Nat)(z:Row)(N:Int):Prop:=∀k,k<n->Δ (λx=>A k x*z x) u=N*A k u
def P_.line{u:Nat}{z:Row}{N:Int}(h:P_ A n u z N)(w:Row):Δ (λx=>rv A n w x*z x) u=N*rv A n w u:=by
 unfold rv;have e1:Δ (λx=>Δ (λk=>w k*A k x) n*z x) u=Δ (λx=>Δ (λk=>w k*(A k x*z x)) n) u:=Α λx _=>by rw[aa6,<-Χ];exact Α λk _=>by grind
 rw[e1,dJ,<-Χ];refine Α λk hk=>?_;rw[Χ,h k hk];grind
def Turn.rest(t:Turn A n col ρ ν q d W){z:Row}{N:Int}(hs:P_ A n col z N)(hN:N≠0)(h1:ρ.length<=i)(hi:i<n):rv A n (W i) col=0:=by
 have:=hs.line (W i);rw[iT λx hx=>by rw[t.zero i h1 hi x hx];simp]at this;rcases Int.mul_eq_zero.mp this.symm with e| e
 ·exact aaL e hN
 ·exact e
def Turn.told(t:Turn A n col ρ ν q d W)(hc:ν=List.range col){z:Row}{N:Int}(hs:P_ A n col z N)(hi:i<col):d*z i=N*rv A n (W i) col:=by
 have s:=t.st;have hl:ρ.length=col:=by rw[<-s.lc,hc,abc]
 have g:∀p,p<col->ν.getD p 0=p:=λp hp=>by rw[hc,aab,aaY hp];rfl
 rw[<-hs.line (W i)]
 rw[iW hi λx hx jn=>by
  have:=s.one i x (by rw[hl];exact hi) (by rw[hl];exact hx);rw[g x hx,aaw (Ne.symm jn)]at this
  rw[this];simp]
 have:=s.one i i (by rw[hl];exact hi) (by rw[hl];exact hi);rw[g i hi,aax rfl]at this;rw[this]
end
def Turn.exists{A:Nat->Row}{n:Nat}:∀col:Nat,∃ρ ν q d W,Turn A n col ρ ν q d W
 |0=>⟨_,_,_,_,_,Turn.start⟩
 |col+1=>by
  have⟨ρ,ν,q,d,W,t⟩:=Turn.exists (A:=A) (n:=n) col;by_cases h:∃k,ρ.length<=k/\k<n/\rv A n (W k) col≠0
  ·have⟨k,h1,h2,h3⟩:=h;have t':=t.move h1 h2;have e:jq ρ.length k ρ.length=k:=by unfold jq;rw[if_neg (Nat.lt_irrefl _),if_pos rfl]
   have⟨W',t2,_⟩:=t'.step (m:=col+1) () () (by show rv A n (W (jq ρ.length k ρ.length)) col≠0;rw[e];exact h3);exact⟨_,_,_,_,_,t2⟩
  ·refine⟨_,_,_,_,_,t.skip λi h1 h2=>?_⟩;by_cases e:rv A n (W i) col=0
   ·exact e
   ·exact aaL ⟨i,h1,h2,e⟩ h
section
variable{col:Nat}{q:Nat->Nat}
def Lk(A:Nat->Row)(n:Nat)(W:Nat->Row)(ν:List Nat)(s k:Nat):Row:=λy=>Δ (λi=>rv A n (W i) s*ind (ν.getD i 0) y) k
def Turn.MC(t:Turn A n col ρ ν q d W){x:Nat}(hx:x<col):∀k,k<n->Δ (λy=>A k y*(Lk A n W ν x ν.length y-d*ind x y)) col=0:=λk hk=>by
 have s:=t.st;have cm:∀i,i<ρ.length->ν.getD i 0∈ν:=λi hi=>by
  have qE:i<ν.length:=by rw[s.lc];exact hi
  rw[aab,aaa qE];exact aaG qE
 unfold Lk;rw[s.lc];have gen:∀f:Row,Δ (λy=>f y*(Δ (λi=>rv A n (W i) x*ind (ν.getD i 0) y) ρ.length-d*ind x y)) col=Δ (λi=>rv A n (W i) x*f (ν.getD i 0)) ρ.length-d*f x:=λf=>by
  have e1:Δ (λy=>f y*(Δ (λi=>rv A n (W i) x*ind (ν.getD i 0) y) ρ.length-d*ind x y)) col=Δ (λy=>Δ (λi=>rv A n (W i) x*(ind (ν.getD i 0) y*f y)) ρ.length+(-d)*(ind x y*f y)) col:=Α λy _=>by
   have:Δ (λi=>rv A n (W i) x*(ind (ν.getD i 0) y*f y)) ρ.length=f y*Δ (λi=>rv A n (W i) x*ind (ν.getD i 0) y) ρ.length:=by rw[<-Χ];exact Α λi _=>by grind
   rw[this];grind
  rw[e1,g8,Χ,nC (f:=f) hx,dJ];have e2:Δ (λi=>Δ (λy=>rv A n (W i) x*(ind (ν.getD i 0) y*f y)) col) ρ.length=Δ (λi=>rv A n (W i) x*f (ν.getD i 0)) ρ.length:=Α λi hi=>by rw[Χ,nC (f:=f) (t.cl _ (cm i hi))]
  rw[e2];grind
 refine aaU t.d0 ?_;rw[Int.mul_zero,gen (A k),Int.mul_sub];have b1:=t.back hk hx;have e3:Δ (λi=>rv A n (W i) x*A k (ν.getD i 0)) ρ.length=d*A k x:=by rw[b1];exact Α λi _=>aa6 _ _
 rw[e3];grind
def Turn.R9(t:Turn A n col ρ ν q d W)(h:∀i,ρ.length<=i->i<n->rv A n (W i) col=0):P_ A n col (Lk A n W ν col ν.length) d:=λk hk=>by
 have:=(t.skip h).MC (x:=col) () k hk;have e:Δ (λy=>A k y*(Lk A n W ν col ν.length y-d*ind col y)) (col+1)=Δ (λy=>A k y*(Lk A n W ν col ν.length y-d*ind col y)) col+A k col*(Lk A n W ν col ν.length col-d*ind col col):=rfl;have e1:Δ (λy=>A k y*(Lk A n W ν col ν.length y-d*ind col y)) col=Δ (λy=>A k y*Lk A n W ν col ν.length y) col:=Α λy hy=>by
  have:ind col y=0:=by unfold ind;rw[if_neg ()]
  rw[this];grind
 have e2:Lk A n W ν col ν.length col=0:=iT λi hi=>by
  have hm:ν.getD i 0∈ν:=by rw[aab,aaa hi];exact aaG hi
  have:ind (ν.getD i 0) col=0:=by unfold ind;rw[if_neg (by have:=t.cl _ hm;omega)]
  rw[this,Int.mul_zero]
 have e3:ind col col=1:=by unfold ind;rw[if_pos rfl]
 rw[e,e1,e2,e3]at this;have:A k col*(0-d*1)= -(d*A k col):=by grind
 omega
def St.XQ(s:St A n ρ ν q d W)(b:Bd A n m B)(hc:∀c∈ν,c<m)(hr:ρ.length<=12):Ab d ((12*B)^ρ.length):=by
 have ρn:∀a∈ρ,a<n:=λa ha=>by have⟨j,hj,e⟩:=abl ha;have:=s.AK j hj;rw[aab,aaa hj]at this;rw[<-e];exact this
 have:=Ab.det b.b1 (ρ.map A) ν (λx hx c C2=>by
  have⟨a,ha,rfl⟩:=aaj.mp hx
  exact b.ab a c (ρn a ha) (hc c C2)) (by rw[s.lc];exact hr)
 rw[s.det,aac]at this;exact this
end
end Bz
seal L2.JE L2.JT L2.JW L2.JA L2.JS L2.DP L2.JI L2.JK
local macro_rules| `(tactic| walk_at "vc")=>`(tactic| dsimp only[L2.gN,L2.UI,L2.T9,L2.Sl,L2.SV,L2.Ob,L2.Z3,L2.UB,L2.MQ,L2.KP,L2.N3,L2.A6,L2.jO,L2.VC,L2.C1,L2.dC,L2.PM,L2.Ke,L2.UP,L2.U',L2.kn,L2.T5,L2.orT,L2.TN,L2.UJ,L2.T4,L2.Z7,L2.oY,List.map_cons,List.map_nil,List.length_cons,List.length_nil,List.cons_append,List.nil_append,List.replicate,List.getElem?_cons_zero,List.getElem?_cons_succ,List.set_cons_zero,List.set_cons_succ,Nat.reduceSub,Nat.reduceAdd,Nat.zero_add])
namespace Pg
open PySem L2
variable{f aT fD t_ dz et:Addr}{fd aU fh rN dE eC:FuncData}{i n j l:Nat}{M:Ms}{d:Dt}{xs ds:List Dt}{b t lo E C B:Int}{A W:Nat->Bz.Row}{kc:List (Int×Nat)}
def top(i:Nat):Stmt:=PySem.Challenge.pw_chanceduel_k23_an_answer.main.body.getD i (.Pass ⟨0,0,0,0⟩)
def cls(i j:Nat):Stmt:=match top i with
 |.ClassDef _ _ _ b _ _ _ _ _ _ _=>b.getD j (.Pass ⟨0,0,0,0⟩)
 |_=>.Pass ⟨0,0,0,0⟩
abbrev gU:Stmt:=top 9
abbrev pL:Stmt:=top 10
abbrev HJ:Stmt:=top 11
abbrev A_:Stmt:=top 12
abbrev CH:Stmt:=top 13
abbrev Bc:Stmt:=top 14
abbrev qY:Stmt:=top 19
abbrev oh:Stmt:=top 20
abbrev iJ:Stmt:=top 21
abbrev jC:Stmt:=top 22
abbrev m8:Stmt:=top 23
abbrev tU:Stmt:=top 24
abbrev mV:Stmt:=top 25
abbrev mX:Stmt:=top 30
abbrev rP:Stmt:=top 31
abbrev oE:Stmt:=top 32
abbrev B7:Stmt:=top 33
abbrev js:Stmt:=top 36
abbrev iM:Stmt:=top 37
abbrev kz:Stmt:=top 38
abbrev jx:Stmt:=top 39
abbrev sG:Stmt:=top 40
abbrev mI:Stmt:=top 41
abbrev oR:Stmt:=top 43
abbrev pH:Stmt:=top 45
abbrev l9:Stmt:=top 46
abbrev tK:Stmt:=top 47
abbrev sC:Stmt:=top 48
abbrev jL:Stmt:=top 49
abbrev pR:Stmt:=top 50
abbrev oi:Stmt:=top 51
abbrev xr:Stmt:=top 52
abbrev C9:Stmt:=top 53
abbrev oO:Stmt:=top 54
abbrev oG:Stmt:=top 55
abbrev gW:Stmt:=top 57
abbrev rE:Stmt:=top 58
abbrev Ci:Stmt:=top 60
abbrev mY:Stmt:=top 61
abbrev mE:Stmt:=top 62
abbrev xu:Stmt:=top 63
abbrev pK:Stmt:=top 64
abbrev jr:Stmt:=top 65
abbrev mz:Stmt:=top 66
abbrev kJ:Stmt:=top 67
abbrev oN:Stmt:=top 68
abbrev rV:Stmt:=top 69
abbrev r8:Stmt:=top 70
abbrev sX:Stmt:=top 71
abbrev pq:Stmt:=top 72
abbrev xa:Stmt:=top 73
abbrev pw:Stmt:=top 74
abbrev pD:Stmt:=top 75
abbrev ng:Stmt:=top 76
abbrev tL:Stmt:=top 77
abbrev Qu:Stmt:=top 78
abbrev mD:Stmt:=cls 34 0
abbrev mh:Stmt:=cls 34 1
abbrev kN:Stmt:=cls 34 2
abbrev mj:Stmt:=cls 34 3
abbrev ko:Stmt:=cls 34 4
abbrev oH:Stmt:=cls 34 5
abbrev ky:Stmt:=cls 34 7
abbrev hU:Stmt:=cls 34 8
abbrev mw:Stmt:=cls 34 9
abbrev mJ:Stmt:=cls 34 10
open PySem L2 Fr0 Tx
structure Ev(K:fI)(mg:Str->Option Value)(w:World)(Cm:Addr):Prop where
 br:mg "len"=none
 uj:mg "abs"=none
 bq:mg "isinstance"=none
 vN:mg "int"=none
 xU:mg "bool"=none
 IB:mg "str"=none
 lh:mg "tuple"=none
 kO:mg "list"=none
 bM:mg "range"=none
 eK:mg "enumerate"=none
 EH:mg "any"=none
 zp:mg "all"=none
 y_:mg "sum"=none
 u9:mg "zip"=none
 kK:mg "dict"=none
 EK:mg "min"=none
 Hq:mg "max"=none
 ib:PySem.W.kitOne K (.type "int") (.type "bool")=some false
 kis:PySem.W.kitOne K (.type "int") (.type "str")=some false
 kts:PySem.W.kitOne K (.type "tuple") (.type "str")=some false
 kti:PySem.W.kitOne K (.type "tuple") (.type "int")=some false
 kls:PySem.W.kitOne K (.type "list") (.type "str")=some false
 kli:PySem.W.kitOne K (.type "list") (.type "int")=some false
 ZI:PySem.W.kitOne K (.type "tuple") (.type "list")=some false
 klt:PySem.W.kitOne K (.type "list") (.type "tuple")=some false
 d7:DR K Cm
 cJ:iK K Cm "kept_rows"
 fJ:iK K Cm "kept_share"
 yp:∃a o its n,mg "HANDS"=some (.ref a)/\K.lookup a=some o/\o.cls= .type "tuple"/\o.data= .seq its n/\its.size<=sizeLine/\Paired (λ(z:Str) (u:Value)=>∃tk,u= .str z tk) ["one","other"] its.toList
 lM:RB K w mg "TURNED_KINDS" [("one","other"),("other","one"),("chance","chance")]
 p7:∃tk,mg "MOST_DOORS"=some (.int 6 tk)
 jz:∃tk,mg "MOST_BOTTOM"=some (.int 1000000 tk)
 nI:∃tk,mg "MOST_PLACES"=some (.int 12 tk)
 gX:∃tk,mg "MOST_SHARE_BOTTOM"=some (.int 1000 tk)
def pv{K:fI}{T:String}:PySem.W.kitOne K (.type T) (.type T)=some true:=by unfold PySem.W.kitOne;rw[aax (beq_self_eq_true _)]
section
variable{P:Program}{w:World}{K:fI}{mg:Str->Option Value}{base:Heap}{Cm:Addr}
def JY:DF:=λds M q _=>match ds with
 |[.int a,.int b]=>q (.int (g a b)) M
 |_=>False
def bW:Ε ["one","other","great","small","rest"] ["one","other"] (ψ gU):=.of rfl
def pA(F:cZ K "common_divisor" "common_divisor" gU f fd)(E:Ev K mg w Cm):av P w K mg base (cC P w) 1 f fd ["one","other"] (cW K JY):=by
 refine F.dR bW (λds M q x h=>?_) (λbz A outer s H E' hr=>⟨_,(η (ω 2 bW.nd (Df E.uj (Ρ (jv 0) θ)))
   (η (ω 3 bW.nd (Df E.uj (Ρ (jv 1) θ)))
   (η (sx (lJ hr (jv 3) ο) (η (ω 4 bW.nd (bu (jv 2) (jv 3)))
   (η (ω 2 bW.nd (jv 3))
   (μ (ω 3 bW.nd (jv 4))))))
   (μ (Γ (jv 2)))))),λds M q x h=>?_⟩)
 ·unfold JY at h;split at h;· rfl
  ·exact h.elim
 ·unfold JY at h;split at h
  ·rename_i a b;refine⟨λm ρ M'=>M'=M/\∃(x y:Int) (r:Option Dt),ρ=[some (.int a),some (.int b),some (.int x),some (.int y),r]/\0<=x/\0<=y/\g x y=g a b/\m=y.toNat,⟨_,rfl,_,_,_,rfl,by split <;> omega,by split <;> omega,NS a b,rfl⟩,?_⟩;rintro m ρ M' ⟨rfl,x,y,r,rfl,hx,hy,e,rfl⟩;refine⟨λhb=>?_,λhb=>?_⟩
   ·have M_:y≠0:=by simpa using hb
    refine⟨_,λρ' M2 h2=>h2,?_⟩;refine⟨(),(x%y).toNat,?_,rfl,y,x%y,_,rfl,hy,aa4 _ M_,?_,rfl⟩
    ·have:=aa1 x (show 0<y by omega);have:=aa4 x M_;omega
    ·rw[<-abV x hy,KO ()];exact e
   ·have M_:y=0:=by simpa using hb
    subst M_;rw[HD hx]at e;subst e;exact h
  ·exact h.elim
def Gh{i j:Int}(h:dQ j)(l:i.natAbs<=j.natAbs):dQ i:=aaX l h
def qZ:DF:=λds M q _=>match ds with
 |[.int t,.int b]=>dQ b/\(b=0->False)/\(b≠0->q (.tup [.int (aB t b).1,.int (aB t b).2]) M)
 |_=>False
def l_:Ε ["top","bottom","divisor"] ["top","bottom"] (ψ pL):=.of rfl
def Ax(F:cZ K "fraction" "fraction" pL f fd)(E:Ev K mg w Cm){gY:Addr}{g6:FuncData}(bU:aw P w K mg base 1 "common_divisor" ["one","other"] JY gY g6):av P w K mg base (cC P w) 2 f fd ["top","bottom"] (cW K qZ):=by
 refine F.dR l_ (λds M q x h=>?_) (λbz A outer s H E' hr=>⟨_,(η (ax (cQ hr (jv 1) ο) (μ hI) Ο)
   (η (ω 2 l_.nd (aa bU hr ξ (Ρ (jv 0) (Ρ (jv 1) θ))))
   (η (iN (ax (tq (jv 1) ο) (μ (ω 2 l_.nd (OE (jv 2)))) Ο))
   (μ (Γ (eI (ι (CG (jv 0) (jv 2)) (ι (CG (jv 1) (jv 2)) θ bL) bL))))))),λds M q x h=>?_⟩)
 ·unfold qZ at h;split at h;· rfl
  ·exact h.elim
 ·unfold qZ at h;split at h
  ·rename_i t b;have⟨hB,h0,h1⟩:=h;refine⟨λhb=>?_,λhb=>?_⟩
   ·exact h0 (by simpa using hb)
   ·have Li:b≠0:=by simpa using hb
    refine⟨λρ M'=>M'=M/\ρ=[some (.int t),some (.int b),some (.int (dv t b))],⟨λhn=>?_,λhn=>?_⟩,?_⟩
    ·have TF:b<0:=by simpa using hn
     exact⟨rfl,by unfold dv;rw[if_pos TF];rfl⟩
    ·have TF:¬b<0:=by simpa using hn
     exact⟨rfl,by unfold dv;rw[if_neg TF];rfl⟩
    ·rintro ρ M' ⟨rfl,rfl⟩;have hd:=Ea (t:=t) Li;have hbd:dQ (dv t b):=Gh hB (yq Li);exact⟨⟨hd,hbd⟩,⟨hd,hbd⟩,gV,h1 Li⟩
  ·exact h.elim
abbrev Fr:=Int×Int
def Ξ(p:Fr):Dt:=.tup [.int p.1,.int p.2]
def bx(p:Fr):Bool:=decide ((if p.1<0 then -p.1 else p.1)<=10^30)&&decide (p.2<=1000000)
def rC:DF:=λds M q _=>∃p,ds=[Ξ p]/\q (.bl (bx p)) M
def Gx:Ε ["pay"] ["pay"] (ψ qY):=.of rfl
def BX(F:cZ K "fits_pay" "fits_pay" qY f fd)(E:Ev K mg w Cm):av P w K mg base (cC P w) 1 f fd ["pay"] (cW K rC):=by
 refine F.dR Gx (λds M q x h=>?_) (λbz A outer s H E' hr=>⟨_,(μ (Γ (gc (yY (Df E.uj (ι (Ζ (jv 0) ο) θ aZ)) (jf ο ο)) (kG (yY (Ζ (jv 0) ο) (tY E.jz)))))),λds M q x h=>?_⟩)
 ·have⟨p,rfl,_⟩:=h;rfl
 ·have⟨p,rfl,h⟩:=h;refine⟨⟨@_,@_,@_⟩,λh1=>?_,λh1=>?_⟩
  ·have e:bx p=decide (p.2<=1000000):=by unfold bx;rw[show decide ((if p.1<0 then -p.1 else p.1)<=10^30)=true from h1];rfl
   rw[e]at h;exact h
  ·have e:bx p=false:=by unfold bx;rw[show decide ((if p.1<0 then -p.1 else p.1)<=10^30)=false from h1];rfl
   rw[e]at h;exact h
def qH{ok:Ms->Prop}(h:lI M d=some (xs,ok)):ok M:=by
 cases d with
 |lst ds=>cases h;trivial
 |iA ns=>cases h;trivial
 |loc k=>
  have h:(match M[k]? with| some (.lst xs)=>some (xs,λM':Ms=>M'[k]? =some (.lst xs))| _=>none)=some (xs,ok):=h;split at h
  ·rename_i ys hm;cases h;exact hm
  ·cases h
 |_=>cases h
def zK{ok:Ms->Prop}(h:lI M d=some (xs,ok)):qm M d=some (xs,ok):=by
 cases d with
 |lst ds=>cases h;rfl
 |iA ns=>cases h;rfl
 |loc k=>exact h
 |_=>cases h
def eL{ρ:En}{ok:Ms->Prop}{q:List Dt->(Ms->Prop)->Ms->Prop}{x:DX}(hv:ρ[i]? =some (some d))(hl:lI M d=some (xs,ok))(h:q xs ok M):fc (C1 i) ρ M q x:=by unfold fc C1;rw[hv];show(match qm M d with| some (xs,ok)=>q xs ok M| none=>False);rw[zK hl];exact h
def bg{n:Int}{k:Nat}(h:n.natAbs<2^k)(hk:k<=8000:=by decide):dQ n:=aau h (ab1 @_ hk)
def aP(t:Int)(p:Fr)(size:Int):Bool:=decide (0<=t)&&(decide (t<size)&&bx p)
def vG:DF:=λds M q _=>∃t p r size,ds=[.tup (.int t::Ξ p::r),.int size]/\q (.bl (aP t p size)) M
def Bg:Ε ["door","size"] ["door","size"] (ψ oh):=.of rfl
def zo(F:cZ K "fits_door" "fits_door" oh f fd)(E:Ev K mg w Cm){rq:Addr}{tj:FuncData}(gL:aw P w K mg base 1 "fits_pay" ["pay"] rC rq tj):av P w K mg base (cC P w) 2 f fd ["door","size"] (cW K vG):=by
 refine F.dR Bg (λds M q x h=>?_) (λbz A outer s H E' hr=>⟨_,(μ (Γ (gc (yY ο (Ζ (jv 0) ο)) (gc (JL (Ζ (jv 0) ο) (jv 1)) (kG (aa gL hr ξ (ι (Ζ (jv 0) ο) θ aZ))))))),λds M q x h=>?_⟩)
 ·have⟨t,p,r,size,rfl,_⟩:=h;rfl
 ·have⟨t,p,r,size,rfl,h⟩:=h;walk_at "vc";refine Θ rfl bw ?_;refine⟨λh1=>?_,λh1=>?_⟩
  ·refine Θ rfl bw ⟨λh2=>?_,λh2=>?_⟩
   ·refine Θ rfl (Ν (j:=1) rfl) ⟨p,rfl,?_⟩;have e:aP t p size=bx p:=by unfold aP;rw[h1,h2];rfl
    rw[<-e];exact h
   ·have e:aP t p size=false:=by unfold aP;rw[h1,h2];rfl
    rw[<-e];exact h
  ·have e:aP t p size=false:=by unfold aP;rw[h1];rfl
   rw[<-e];exact h
abbrev bO:=Int×Fr×List Fr
def eG(d:bO):Dt:=.tup (.int d.1::Ξ d.2.1::d.2.2.map Ξ)
def ao(ds:List bO)(size:Int):Bool:=decide (1<=ds.length)&&decide (ds.length<=6)&&ds.all λd=>aP d.1 d.2.1 size
def rL:DF:=λas M q _=>∃d size ds ok,as=[d,.int size]/\lI M d=some (ds.map eG,ok)/\ds.length<=100/\q (.bl (ao ds size)) M
def pZ:Ε ["doors","size"] ["doors","size"] (ψ m8):=.of rfl
def v8(F:cZ K "fits_doors" "fits_doors" m8 f fd)(E:Ev K mg w Cm){Fm:Addr}{Ga:FuncData}(mH:aw P w K mg base 2 "fits_door" ["door","size"] vG Fm Ga):av P w K mg base (cC P w) 3 f fd ["doors","size"] (cW K rL):=by
 refine F.dR pZ (λds M q x h=>?_) (λbz A outer s H E' hr=>⟨_,(η (ax (JW.jt (gw (tq (bP E.br (Ρ (jv 0) θ)) ο) (gR (D0 (bP E.br (Ρ (jv 0) θ)) (tY E.p7))))) (μ (Γ BF)) Ο)
   (μ (Γ (Oh E.zp (ι (gE (ys:=["size"]) (af:=[1]) (.of pZ rfl rfl rfl) (bC (jv 0)) (λC s H fp=>(aa mH hr (gy (P:=P) (w:=w)) (Ρ (jv 0) (Ρ (jv 1) θ))))) θ))))),λds M q x h=>?_⟩)
 ·have⟨d,size,ds,ok,rfl,_⟩:=h;rfl
 ·have⟨d,size,ds,ok,rfl,hl,hz,h⟩:=h;have hs:=nK hl;walk_at "vc";refine ar hs ⟨λh1=>?_,λh1=>?_⟩
  ·refine⟨λ_=>?_,λz=>(nomatch z)⟩;have e:ao ds size=false:=by
    have:(ds.length:Int)<1:=by simpa using h1
    unfold ao;rw[aaJ ()];rfl
   rw[<-e];exact h
  ·have h1:¬(ds.length:Int)<1:=by simpa using h1
   refine ar hs ⟨λh2=>?_,λh2=>?_⟩
   ·have e:ao ds size=false:=by
     have:6<(ds.length:Int):=by simpa using h2
     unfold ao;rw[aaJ (p:=ds.length<=6) (),Bool.and_false];rfl
    rw[<-e];exact h
   ·have h2:¬6<(ds.length:Int):=by simpa using h2
    refine eL rfl hl ⟨by rw[aac];exact aaE hz @_,?_⟩;refine fv (f:=λd=>.bl (match d with| .tup (.int t:: .tup [.int a,.int b]::_)=>aP t (a,b) size| _=>false)) (qH hl) (λx hx q hq=>?_) ?_
    ·have⟨y,_,rfl⟩:=aaj.mp hx;exact⟨y.1,y.2.1,y.2.2.map Ξ,size,rfl,hq⟩
    ·refine⟨ds.map λd=>aP d.1 d.2.1 size,?_,?_⟩
     ·rw[aaM,aaW,aaM];rfl
     ·have e:ao ds size=(ds.map λd=>aP d.1 d.2.1 size).all id:=by unfold ao;rw[aaD (show 1<=ds.length by omega),aaD (show ds.length<=6 by omega),List.all_map];rfl
      rw[<-e];exact h
def bQ(cs:List Fr):Int:=cs.foldl (λb c=>b*c.2/g b c.2) 1
def n8{c:Int}(hb:0<b)(hc:0<c):0<b*c/g b c/\b*c/g b c<=b*c/\0<g b c/\g b c<=c:=by
 have hg:0<g b c:=z_ ();have hbc:0<b*c:=aaP hb hc;have hd:g b c∣c:=Int.gcd_dvd_right ..;have hle:g b c<=c:=ab6 hc hd;have h1:c<=b*c:=by have:=aaO (show 1<=b by omega) (show 0<=c by omega);simpa using this
 refine⟨Int.ediv_pos_of_pos_of_dvd hbc () (Int.dvd_mul_of_dvd_right hd),?_,hg,hle⟩;exact aci _ ()
def PX(cs:List Fr):Prop:=cs.length<=12/\∀c∈cs,0<c.2/\c.2<2^200/\c.1.natAbs<2^200
def OkB(cs:List Fr):Prop:=cs.length<=13/\∀c∈cs,0<c.2/\c.2<2^200
def o_:∀(cs:List Fr) (b:Int) (k:Nat),0<b->b<=2^(200*k)->(∀c∈cs,0<c.2/\c.2<2^200)->0<cs.foldl (λb c=>b*c.2/g b c.2) b/\cs.foldl (λb c=>b*c.2/g b c.2) b<=2^(200*(k+cs.length))
 |[],b,k,h0,h1,_=>⟨h0,h1⟩
 |c::cs,b,k,h0,h1,hc=>by
  have⟨c0,c1⟩:=hc c aae;have⟨s0,s1,_⟩:=n8 h0 c0;have NQ:b*c.2/g b c.2<=2^(200*(k+1)):=by refine abM s1 ?_;rw[show 200*(k+1)=200*k+200 by omega,Int.pow_add];exact abB h1 (aak c1) (aak c0) (aak (Int.pow_pos @_))
  have:=o_ cs _ (k+1) s0 NQ λd hd=>hc d (aad _ hd);rw[abE,aaB,show k+(cs.length+1)=k+1+cs.length by omega];exact this
def SY{n:Int}{k:Nat}(h0:0<=n)(h:n<=2^k)(hk:k<8000):dQ n:=by
 refine bg (k:=k+1) ?_ hk;have:(n.natAbs:Int)<((2^(k+1):Nat):Int):=by rw[abm h0,Int.natCast_pow,abX];have:(0:Int)<2^k:=Int.pow_pos @_;show n<2^k*2;omega
 exact abR.mp this
def fQ:∀(cs:List Fr) (b:Int),0<b->(∀c∈cs,0<c.2)->0<cs.foldl (λb c=>b*c.2/g b c.2) b
 |[],_,h0,_=>h0
 |c::cs,b,h0,hc=>fQ cs _ (n8 h0 (hc c aae)).1 λd hd=>hc d (aad _ hd)
def qz{n:Int}{k:Nat}(h0:0<=n)(h:n<2^k)(hk:k<=8000):dQ n:=by
 refine bg (k:=k) ?_ hk;have:(n.natAbs:Int)<((2^k:Nat):Int):=by rw[abm h0,Int.natCast_pow];exact h
 exact abR.mp this
def iD:DF:=λds M q _=>∃cs:List Fr,ds=[.lst (cs.map Ξ)]/\OkB cs/\q (.int (bQ cs)) M
def e6:Ε ["chances","bottom","chance"] ["chances"] (ψ iJ):=.of rfl
def qC(F:cZ K "common_bottom" "common_bottom" iJ f fd)(E:Ev K mg w Cm){gY:Addr}{g6:FuncData}(bU:aw P w K mg base 1 "common_divisor" ["one","other"] JY gY g6):av P w K mg base (cC P w) 2 f fd ["chances"] (cW K iD):=by
 refine F.dR e6 (λds M q x h=>?_) (λbz A outer s H E' hr=>⟨_,(η (ω 1 e6.nd ο)
   (η (c8 (bC (jv 0)) (ai (i:=2) e6.nd rfl (Or.inl rfl)) aI (μ (ω 1 e6.nd (jN (au (jv 1) (Ζ (jv 2) ο)) (aa bU hr ξ (Ρ (jv 1) (ι (Ζ (jv 2) ο) θ aZ)))))))
   (μ (Γ (jv 1))))),λds M q x h=>?_⟩)
 ·have⟨cs,rfl,_⟩:=h;rfl
 ·have⟨cs,rfl,⟨hz,hc⟩,h⟩:=h;walk_at "vc";refine eL (i:=0) rfl rfl ?_;refine bK (λxs ρ M'=>M'=M/\∃fq rest r,cs=fq++rest/\xs=rest.map Ξ/\ρ=[some (.lst (cs.map Ξ)),some (.int (bQ fq)),r]) (λ_ _ _ _=>trivial) (λx xs ρ M' hj e9=>?_) (λρ M' hj=>?_) _ _ _ ⟨rfl,[],cs,none,rfl,rfl,rfl⟩
  ·have⟨rfl,fq,rest,r,e,ex,rfl⟩:=hj;cases rest with
   |nil=>cases ex
   |cons c rest=>
    cases ex;have hd:∀d∈fq,0<d.2/\d.2<2^200:=λd hd=>by have⟨a,b⟩:=hc d (by rw[e];exact List.mem_append_left _ hd);exact⟨a,b⟩
    have⟨c0,c1⟩:=hc c (by rw[e];exact aaI _ aae);have⟨b0,b1⟩:=o_ fq 1 0 @_ @_ hd;have hl:fq.length<=13:=by have:=aa0 List.length e;rw[aah]at this;omega
    have⟨s0,s1,g0,g1⟩:=n8 b0 c0;refine⟨⟨SY (aak b0) b1 (),qz (aak c0) c1 @_⟩,⟨g0,qz (aak g0) (aaN g1 c1) @_⟩,?_⟩;refine e9 _ _ ⟨rfl,fq++[c],rest,some (Ξ c),by rw[e];simp,rfl,?_⟩;have e2:bQ (fq++[c])=bQ fq*c.2/g (bQ fq) c.2:=by unfold bQ;rw[List.foldl_append];rfl
    rw[e2];rfl
  ·have⟨rfl,fq,rest,r,e,ex,rfl⟩:=hj;cases rest with
   |nil=>rw[aa7]at e;subst e;exact h
   |cons c rest=>cases ex
def aq(cs:List Fr):Bool:= !(cs.any λc=>decide (c.1<=0))&&(decide ((cs.map λc=>c.1*(bQ cs/c.2)).sum=bQ cs)&&decide (bQ cs<=1000000))
def nE:DF:=λds M q _=>∃cs:List Fr,ds=[.lst (cs.map Ξ)]/\PX cs/\q (.bl (aq cs)) M
def dY:Ε ["chances","bottom","whole"] ["chances"] (ψ jC):=.of rfl
def tI(F:cZ K "fits_chances" "fits_chances" jC f fd)(E:Ev K mg w Cm){iL:Addr}{iI:FuncData}(cy:aw P w K mg base 2 "common_bottom" ["chances"] iD iL iI):av P w K mg base (cC P w) 3 f fd ["chances"] (cW K nE):=by
 refine F.dR dY (λds M q x h=>?_) (λbz A outer s H E' hr=>⟨_,(η (ax (bH (UX E.EH (ι (gE (ys:=[]) (af:=[]) (.of dY rfl rfl rfl) (bC (jv 0)) (λC s H fp=>(yY (Ζ (jv 0) ο) ο))) θ))) (μ (Γ BF)) Ο)
   (η (ω 1 dY.nd (aa cy hr ξ (Ρ (jv 0) θ)))
   (η (ω 2 dY.nd (OL E.y_ (ι (gE (ys:=["bottom"]) (af:=[1]) (.of dY rfl rfl rfl) (bC (jv 0)) (λC s H fp=>(au (Ζ (jv 0) ο) (jN (jv 1) (Ζ (jv 0) ο))))) θ)))
   (μ (Γ (gc (LQ hr (jv 2) (jv 1)) (kG (yY (jv 1) (tY E.jz))))))))),λds M q x h=>?_⟩)
 ·have⟨cs,rfl,_⟩:=h;rfl
 ·have⟨cs,rfl,Lh,h⟩:=h;have⟨hz,hc⟩:=id Lh;have N6:(cs.map Ξ).length<=sizeLine:=by rw[aac];exact aaE hz @_
  have⟨b0,b1⟩:=o_ cs 1 0 @_ @_ λc h=>⟨(hc c h).1,(hc c h).2.1⟩;walk_at "vc";refine eL (i:=0) rfl rfl ⟨N6,?_⟩;refine fv (f:=λd=>.bl (match d with| .tup [.int a,.int b]=>decide (a<=0)| _=>false)) trivial (λx hx q hq=>?_) ?_
  ·have⟨y,_,rfl⟩:=aaj.mp hx;exact hq
  ·refine⟨cs.map λc=>decide (c.1<=0),by rw[aaM,aaW,aaM];rfl,λ_ z=>(nomatch z),λ_ z=>(nomatch z),?_⟩;have ea:(cs.map λc=>decide (c.1<=0)).any id=cs.any λc=>decide (c.1<=0):=by rw[List.any_map];rfl
   rw[ea];refine⟨λh1=>?_,λh1=>?_⟩
   ·have e:aq cs=false:=by unfold aq;rw[h1];rfl
    rw[<-e];exact h
   ·refine⟨cs,rfl,⟨(),λc h=>⟨(hc c h).1,(hc c h).2.1⟩⟩,?_⟩;walk_at "vc";refine eL (i:=0) rfl rfl ⟨N6,?_⟩;refine fv (f:=λd=>.int (match d with| .tup [.int a,.int b]=>a*(bQ cs/b)| _=>0)) trivial (λx hx q hq=>?_) ?_
    ·have⟨y,hy,rfl⟩:=aaj.mp hx;have⟨y0,y1,y2⟩:=hc y hy;refine⟨⟨y0,qz (aak y0) y1 @_⟩,⟨bg y2,?_⟩,hq⟩;refine SY (k:=200*(0+cs.length)) (Int.ediv_nonneg (aak b0) (aak y0)) (abM (aci _ (aak b0)) b1) ()
    ·refine⟨cs.map λc=>c.1*(bQ cs/c.2),by rw[aaM,aaW,aaM];rfl,⟨_,_,rfl⟩,?_⟩;refine⟨λh2=>?_,λh2=>?_⟩
     ·have e:aq cs=decide (bQ cs<=1000000):=by unfold aq;rw[h1,h2];rfl
      rw[e]at h;exact h
     ·have e:aq cs=false:=by unfold aq;rw[h1,h2];rfl
      rw[<-e];exact h
inductive Rw where
 |fin (p:Fr)
 |τ (k:Str) (ds:List bO)
def χ(d:bO):Fr:=d.2.2.headD (0,1)
def gu:Rw->Prop
 |.fin p=>0<p.2
 |.τ k ds=>k≠"end"/\ds.length<=12/\(k="chance"->(∀d∈ds,d.2.2=[χ d])/\PX (ds.map χ))/\∀d∈ds,d.2.2.length<=1/\0<d.2.1.2
def jX(M:Ms)(d:Dt):Rw->Prop
 |.fin p=>d= .tup [.str "end",Ξ p]
 |.τ k ds=>∃e ok,d= .tup [.str k,e]/\lI M e=some (ds.map eG,ok)
def az:Rw->Dt
 |.fin p=>.tup [.str "end",Ξ p]
 |.τ k ds=>.tup [.str k,.lst (ds.map eG)]
def Mu(M:Ms)(r:Rw):jX M (az r) r:=by
 cases r with
 |fin p=>rfl
 |τ k ds=>exact⟨_,_,rfl,rfl⟩
def oW(p:Fr):(Ξ p).under n:=⟨trivial,trivial,trivial⟩
def xm{n:Nat}:∀(ps:List Fr),Dt.bR n (ps.map Ξ)
 |[]=>trivial
 |p::ps=>⟨oW p,xm ps⟩
def Py(d:bO):(eG d).under n:=⟨trivial,oW _,xm _⟩
def iB{n:Nat}:∀(ds:List bO),Dt.bR n (ds.map eG)
 |[]=>trivial
 |d::ds=>⟨Py d,iB ds⟩
def MS(r:Rw):(az r).under n:=by
 cases r with
 |fin p=>exact⟨trivial,oW p,trivial⟩
 |τ k ds=>exact⟨trivial,iB ds,trivial⟩
def r6{n:Nat}:∀(rs:List Rw),Dt.bR n (rs.map az)
 |[]=>trivial
 |r::rs=>⟨MS r,r6 rs⟩
def Β(k:Str):Bool:=k=="one"|| k=="other"
def fL(r:Rw)(size:Int):Bool:=match r with
 |.fin p=>bx p
 |.τ k ds=>if Β k then ao ds size else if k="chance" then ao ds size&&aq (ds.map χ) else false
def yL{j:Int}{ρ:En}{ok:Ms->Prop}{q:List Dt->(Ms->Prop)->Ms->Prop}{x:DX}(hv:ρ[i]? =some (some (.tup ds)))(hj:lF ds j=some d)(hl:lI M d=some (xs,ok))(h:q xs ok M):fc (jO cE (C1 i) (dC (.int j))) ρ M q x:=by unfold fc jO C1;rw[hv];show cE (.tup ds) (.int j) M (λd M1=>match qm M1 d with| some (xs,ok)=>q xs ok M1| none=>False);refine Θ rfl hj ?_;show(match qm M d with| some (xs,ok)=>q xs ok M| none=>False);rw[zK hl];exact h
def tQ{k:Str}:QT (.str k) [.str "one",.str "other"]=Β k:=by show((("one":Str)==k)|| ((("other":Str)==k)|| false))=(k=="one"|| k=="other");rw[Bool.or_false,BEq.comm (a:=("one":Str)),BEq.comm (a:=("other":Str))]
def zO:DF:=λas M q _=>∃d r size,as=[d,.int size]/\jX M d r/\gu r/\q (.bl (fL r size)) M
def oM:Ε ["row","size","kind"] ["row","size"] (ψ tU):=.of rfl
def BP   (F:cZ K "fits_row" "fits_row" tU f fd) (E:Ev K mg w Cm) {rq:Addr}{tj:FuncData}(gL:aw P w K mg base 1 "fits_pay" ["pay"] rC rq tj) {A':Addr}{Bp:FuncData}(iz:aw P w K mg base 3 "fits_doors" ["doors","size"] rL A' Bp) {wq:Addr}{xb:FuncData}(iH:aw P w K mg base 3 "fits_chances" ["chances"] nE wq xb):av P w K mg base (cC P w) 4 f fd ["row","size"] (cW K zO):=by
 refine F.dR oM (λds M q x h=>?_) (λbz A outer s H E' hr=>⟨_,(η (ω 2 oM.nd (Ζ (jv 0) ο))
   (η (ax (cQ hr (jv 2) ia) (μ (Γ (aa gL hr ξ (ι (Ζ (jv 0) ο) θ aZ)))) Ο)
   (η (ax (H_ (jv 2) (KC E.yp)) (μ (Γ (aa iz hr ξ (ι (Ζ (jv 0) ο) (Ρ (jv 1) θ) aZ)))) Ο)
   (η (ax (cQ hr (jv 2) ia) (μ (Γ (gc (aa iz hr ξ (ι (Ζ (jv 0) ο) (Ρ (jv 1) θ) aZ)) (kG (aa iH hr ξ (ι (gE (ys:=[]) (af:=[]) (.of oM rfl rfl rfl) (bC (Ζ (jv 0) ο)) (λC s H fp=>(Ζ (jv 0) ο))) θ)))))) Ο)
   (μ (Γ BF)))))),λds M q x h=>?_⟩)
 ·have⟨d,r,size,rfl,_⟩:=h;rfl
 ·have⟨d,r,size,rfl,ra,ro,h⟩:=h;cases r with
  |fin p=>
   have ra:d= .tup [.str "end",Ξ p]:=ra;subst ra;exact⟨λ_=>⟨p,rfl,h⟩,λz=>(nomatch z)⟩
  |τ k ds=>
   have⟨e,ok,rfl,hl⟩:=ra;have⟨hk,hz,A2,_⟩:=ro;refine⟨λz=>aaL (aaz z) hk,λ_=>?_⟩;refine⟨.str k,[.str "one",.str "other"],[.str "one",.str "other"],rfl,rfl,rfl,?_⟩;rw[tQ];refine⟨λh1=>?_,λh1=>?_⟩
   ·refine⟨e,size,ds,ok,rfl,hl,(),?_⟩;have e1:fL (.τ k ds) size=ao ds size:=by show(if Β k then _ else _)=_;rw[aax h1]
    rw[<-e1];exact h
   ·have e1:fL (.τ k ds) size=if k="chance" then ao ds size&&aq (ds.map χ) else false:=by show(if Β k then _ else _)=_;rw[aaw (by rw[h1];decide)]
    rw[e1]at h;refine⟨λh2=>?_,λh2=>?_⟩
    ·have h2:k="chance":=aaz h2;rw[aax h2]at h;have⟨MJ,Lh⟩:=A2 h2;refine⟨e,size,ds,ok,rfl,hl,(),λh3=>?_,λh3=>?_⟩
     ·rw[h3,Bool.true_and]at h;show fc _ _ _ _ _;refine yL (i:=0) (j:=1) (ds:=[.str k,e]) rfl (Ν (j:=1) rfl) hl ⟨by rw[aac];exact aaE hz @_,?_⟩;refine fv (f:=λd=>match d with| .tup [_,_,c]=>c| _=>.bj) (qH hl) (λx hx q hq=>?_) ?_
      ·have⟨y,hy,rfl⟩:=aaj.mp hx;have ey:eG y= .tup [.int y.1,Ξ y.2.1,Ξ (χ y)]:=by unfold eG;rw[MJ y hy];rfl
       rw[ey]at hq⊢;exact hq
      ·refine⟨ds.map χ,?_,Lh,h⟩;rw[aaW,aaM,aaM];have:∀y∈ds,((λd=>match d with| Dt.tup [_,_,c]=>c| _=>Dt.bj) ∘ eG) y=(Ξ ∘ χ) y:=λy hy=>by
        have ey:eG y= .tup [.int y.1,Ξ y.2.1,Ξ (χ y)]:=by unfold eG;rw[MJ y hy];rfl
        show(match eG y with| Dt.tup [_,_,c]=>c| _=>Dt.bj)=Ξ (χ y);rw[ey]
       rw[abg this]
     ·rw[h3,Bool.false_and]at h;exact h
    ·have h2:k≠"chance":=abf h2;rw[aaw h2]at h;exact h
def sk:DF:=λas M q _=>∃d r,as=[d]/\jX M d r/\gu r/\match r with
 |.fin p=>q (.tup [.str "end",Ξ p]) M
 |.τ k ds=>q (.tup [.str k,.loc M.length]) (M++[.lst (ds.map eG)])
def Ad:Ε ["row"] ["row"] (ψ mV):=.of rfl
def x8(F:cZ K "copied_row" "copied_row" mV f fd)(E:Ev K mg w Cm):av P w K mg base (cC P w) 1 f fd ["row"] (cW K sk):=by
 refine F.dR Ad (λds M q x h=>?_) (λbz A outer s H E' hr=>⟨_,(η (ax (cQ hr (Ζ (jv 0) ο) ia) (μ (Γ (eI (ι (Ζ (jv 0) ο) (ι (Ζ (jv 0) ο) θ aZ) aZ)))) Ο)
   (μ (Γ (eI (ι (Ζ (jv 0) ο) (ι (wW E.kO (ι (Ζ (jv 0) ο) θ aZ)) θ aY) aZ))))),λds M q x h=>?_⟩)
 ·have⟨d,r,rfl,_⟩:=h;rfl
 ·have⟨d,r,rfl,ra,ro,h⟩:=h;cases r with
  |fin p=>
   have ra:d= .tup [.str "end",Ξ p]:=ra;subst ra;exact⟨λ_=>⟨gV,h⟩,λz=>(nomatch z)⟩
  |τ k ds=>
   have⟨e,ok,rfl,hl⟩:=ra;refine⟨λz=>aaL (aaz z) ro.1,λ_=>?_⟩;show(match f_ M e with| some xs=>_| none=>False);rw[nK hl];exact⟨gV,h⟩
def aX(p:Fr):Bool:=decide (0<=p.1)&&(decide (p.1<p.2)&&decide (p.2<=1000))
def sM:DF:=λas M q _=>∃p,as=[Ξ p]/\q (.bl (aX p)) M
def zN:Ε ["share"] ["share"] (ψ mX):=.of rfl
def yf(F:cZ K "fits_share" "fits_share" mX f fd)(E:Ev K mg w Cm):av P w K mg base (cC P w) 1 f fd ["share"] (cW K sM):=by
 refine F.dR zN (λds M q x h=>?_) (λbz A outer s H E' hr=>⟨_,(μ (Γ (gc (yY ο (Ζ (jv 0) ο)) (gc (JL (Ζ (jv 0) ο) (Ζ (jv 0) ο)) (kG (yY (Ζ (jv 0) ο) (tY E.gX))))))),λds M q x h=>?_⟩)
 ·have⟨p,rfl,_⟩:=h;rfl
 ·have⟨p,rfl,h⟩:=h;unfold aX at h;refine⟨λh1=>⟨λh2=>?_,λh2=>?_⟩,λh1=>?_⟩
  ·rw[show decide (0<=p.1)=true from h1,show decide (p.1<p.2)=true from h2]at h;exact h
  ·rw[show decide (0<=p.1)=true from h1,show decide (p.1<p.2)=false from h2]at h;exact h
  ·rw[show decide (0<=p.1)=false from h1]at h;exact h
def NL{c S:Int}(hb:b∣S)(hc:c∣S)(Li:0<b)(hc0:0<c):b*c/g b c∣S/\b∣b*c/g b c/\c∣b*c/g b c:=by
 have e:b*c/g b c=(Int.lcm b c:Nat):=by
  have h:=Int.gcd_mul_lcm b c;have hg:0<g b c:=z_ ();have h2:((Int.gcd b c:Nat):Int)*((Int.lcm b c:Nat):Int)=b*c:=by rw[<-Int.natCast_mul,h,Int.natCast_mul,abm (aak Li),abm (aak hc0)]
  rw[<-h2];exact Int.mul_ediv_cancel_left _ (by unfold g at hg;omega)
 rw[e];exact⟨Int.coe_lcm_dvd hb hc,Int.dvd_lcm_left ..,Int.dvd_lcm_right ..⟩
def je:∀(cs:List Fr) (b S:Int),0<b->b∣S->(∀c∈cs,0<c.2/\c.2∣S)->cs.foldl (λb c=>b*c.2/g b c.2) b∣S/\b∣cs.foldl (λb c=>b*c.2/g b c.2) b/\∀c∈cs,c.2∣cs.foldl (λb c=>b*c.2/g b c.2) b
 |[],b,S,_,h,_=>⟨h,Int.dvd_refl b,λc hc=>nomatch hc⟩
 |c::cs,b,S,h0,h,hc=>by
  have⟨c0,cS⟩:=hc c aae;have⟨d1,d2,d3⟩:=NL h cS h0 c0;have⟨i1,i2,i3⟩:=je cs _ S (n8 h0 c0).1 d1 λx hx=>hc x (aad _ hx);rw[abE];refine⟨i1,Int.dvd_trans d2 i2,λx hx=>?_⟩;rcases aaK.mp hx with rfl| hx
  ·exact Int.dvd_trans d3 i2
  ·exact i3 x hx
def qd(m:Int)(f:Int->Int):∀(ws:List Int),(ws.map λw=>m*f w).sum=m*(ws.map f).sum
 |[]=>by simp
 |w::ws=>by simp only[List.map_cons,List.sum_cons];rw[qd m f ws,Int.mul_add]
def Af(h:0<b):(aB t b).2∣b:=by have⟨p,q,e,_,_,_,eb⟩:=gJ (t:=t) (show b≠0 by omega);rw[e];exact⟨dv t b,by show b=q*dv t b;rw[aa6];exact eb⟩
def AO(ht:0<t)(h:0<b):0<(aB t b).1:=by have hc:=cI (t:=t) (show b≠0 by omega);have hp:=cR (t:=t) (show b≠0 by omega);have h1:0<t*(aB t b).2:=aaP ht hp;rw[hc]at h1;exact Int.pos_of_mul_pos_right h1 h|> λz=>z
def BK{ws:List Int}{S:Int}(hS:ws.sum=S)(hw:∀w∈ws,0<w)(hn:ws≠[])(hS1:S<=1000000)(hz:ws.length<=12):aq (ws.map λw=>aB w S)=true/\PX (ws.map λw=>aB w S):=by
 have pos:∀{l:List Int},(∀w∈l,0<w)->0<=l.sum/\(l≠[]->0<l.sum)/\∀w∈l,w<=l.sum:=by
  intro l
  induction l with
  |nil=>exactλ_=>⟨by simp,λz=>absurd rfl z,λw hw=>nomatch hw⟩
  |cons a l ih=>
   intro h;have⟨i1,i2,i3⟩:=ih λw hw=>h w (aad _ hw);have:=h a aae;rw[List.sum_cons];refine⟨(),λ_=>(),λw hw=>?_⟩;rcases aaK.mp hw with rfl| hw
   ·omega
   ·have:=i3 w hw;omega
 have⟨_,p2,p3⟩:=pos hw;have S0:0<S:=by rw[<-hS];exact p2 hn
 have RI:S≠0:=()
 have hd:∀c∈ws.map (λw=>aB w S),0<c.2/\c.2∣S:=λc hc=>by have⟨w,_,rfl⟩:=aaj.mp hc;exact⟨cR RI,Af S0⟩
 have⟨⟨m,hm⟩,_,hB⟩:=je (ws.map λw=>aB w S) 1 S @_ (Int.one_dvd _) hd;have B0:0<bQ (ws.map λw=>aB w S):=by refine(fQ (ws.map λw=>aB w S) 1 @_ λc hc=>(hd c hc).1)
 generalize ZW:bQ (ws.map λw=>aB w S)=B at *
 have hm:S=B*m:=by rw[<-ZW];exact hm
 have m0:0<m:=by
  rcases Int.lt_trichotomy m 0 with h|h|h
  ·have:=abZ B0 h;omega
  ·rw[h,Int.mul_zero]at hm;omega
  ·exact h
 have key:((ws.map λw=>aB w S).map λc=>c.1*(B/c.2)).sum=B:=by
  have e1:∀w∈ws,m*((aB w S).1*(B/(aB w S).2))=w:=λw hw=>by
   have hb:(aB w S).2∣B:=by rw[<-ZW];exact hB _ (aaj.mpr ⟨w,hw,rfl⟩)
   have⟨k,hk⟩:=hb;have q0:=cR (t:=w) RI;have e2:B/(aB w S).2=k:=by rw[hk];exact abA _ ()
   have hc:=cI (t:=w) RI;rw[e2];have hS':S=(aB w S).2*k*m:=by rw[<-hk];exact hm
   generalize (aB w S).1=x at *
   generalize (aB w S).2=y at *
   have e4:S*x=y*(m*(x*k)):=by rw[hS'];simp only[Int.mul_assoc,Int.mul_comm,Int.mul_left_comm]
   have e3:y*(m*(x*k))=y*w:=by rw[<-e4,<-hc,aa6]
   exact aaU () e3
  have e5:m*((ws.map λw=>aB w S).map λc=>c.1*(B/c.2)).sum=m*B:=by rw[aaM];show m*(ws.map λw=>(aB w S).1*(B/(aB w S).2)).sum=m*B;rw[<-qd,abg e1,List.map_id',hS,hm,aa6]
  exact aaU () e5
 refine⟨?_,⟨by rw[aac];exact hz,λc hc=>?_⟩⟩
 ·unfold aq;rw[ZW,key];have ha:((ws.map λw=>aB w S).any λc=>decide (c.1<=0))=false:=by rw[List.any_eq_false];intro c hc;have⟨w,VQ,rfl⟩:=aaj.mp hc;have:=AO (hw w VQ) S0;simpa using this
  have hle:B<=S:=by have:=aaC (show 1<=m by omega) (aak B0);rw[Int.mul_one,<-hm]at this;exact this
  rw[ha,aaD rfl,aaD (show B<=1000000 by omega)];rfl
 ·have⟨w,VQ,rfl⟩:=aaj.mp hc;have q0:=cR (t:=w) RI;have l1:=tO (t:=w) RI;have l2:=j6 (t:=w) RI;have:=p3 w VQ;have w0:=hw w VQ;have big:(1000000:Int)<2^200:=@_
  have ac9:1000000<2^200:=@_
  exact⟨q0,(),()⟩
def dF{α:Type}{te:DE}{cs:En}{ok:Ms->Prop}{F:Dt->α->Prop}{f:α->Dt}{M:Ms}{k:List Dt->Ms->Prop}(ho:ok M)(ht:∀x a,F x a->∀q:DQ,q (f a) M->te (some x::cs) M q lS):∀{xs:List Dt}{as:List α}{Η:List Dt},Paired F xs as->k (Η++as.map f) M->rH te cs ok xs Η M k
 |_,_,Η,.nil,h=>⟨ho,by simpa using h⟩
 |_,_,Η,.cons r t,h=>⟨ho,ht _ _ r _ (dF ho ht t (by simpa using h))⟩
def zU{k:Nat}{C C':Addr}{ns ns':List Str}{xs':List Dt}{e:Dt}{ys:List Dt}{ok:Ms->Prop}(hk:M[k]? =some (.ins C ns xs))(h:lI M e=some (ys,ok)):lI (M.set k (.ins C' ns' xs')) e=some (ys,ok):=by
 cases e with
 |lst ds=>exact h
 |iA ns=>exact h
 |loc j=>
  have h:(match M[j]? with| some (.lst xs)=>some (xs,λM':Ms=>M'[j]? =some (.lst xs))| _=>none)=some (ys,ok):=h;have ne:k≠j:=λz=>by subst z;rw[hk]at h;cases h
  show(match (M.set k (.ins C' ns' xs'))[j]? with| some (.lst xs)=>some (xs,λM':Ms=>M'[j]? =some (.lst xs))| _=>none)=some (ys,ok);rw[aa9 ne];exact h
 |_=>cases h
def F_{k:Nat}{C C':Addr}{ns ns':List Str}{xs':List Dt}{r:Rw}(hk:M[k]? =some (.ins C ns xs))(h:jX M d r):jX (M.set k (.ins C' ns' xs')) d r:=by
 cases r with
 |fin p=>exact h
 |τ k' ds=>
  have⟨e,ok,h1,h2⟩:=h;exact⟨e,ok,h1,zU hk h2⟩
def aK(C:Addr)(ε:Fr)(γ:List Rw):Dt:=.obj C ["kept_share","kept_rows"] [Ξ ε,.lst (γ.map az)]
def Ol(Cm:Addr):DF:=λas M q _=>∃k d ε ds γ ok,as=[.loc k,Ξ ε,d]/\M[k]? =some (.ins Cm [] [])/\lI M d=some (ds,ok)/\Paired (jX M) ds γ/\aX ε=true/\1<=γ.length/\γ.length<=12/\
 (∀r∈γ,gu r/\fL r γ.length=true)/\q .bj (M.set k (.ins Cm ["kept_share","kept_rows"] [Ξ ε,.lst (γ.map az)]))
def ij:Ε ["self","share","rows","place","row"] ["self","share","rows"] (ψ mD):=.of rfl
def wZ(F:cZ K "__init__" "Floor.__init__" mD f fd)(E:Ev K mg w Cm){Bs:Addr}{B_:FuncData}(kL:aw P w K mg base 1 "fits_share" ["share"] sM Bs B_){Ir:Addr}{Iq:FuncData}(oq:aw P w K mg base 4 "fits_row" ["row","size"] zO Ir Iq){C4:Addr}{Ba:FuncData}(kH:aw P w K mg base 1 "copied_row" ["row"] sk C4 Ba):av P w K mg base (cC P w) 5 f fd ["self","share","rows"] (cW K (Ol Cm)):=by
 refine F.dR ij (λds M q x h=>?_) (λbz A outer s H E' hr=>⟨_,(η (ax (eU (bH (aa kL hr ξ (Ρ (jv 1) θ)))) (μ hI) Ο)
   (η (ax (JW.jt (gw (tq (bP E.br (Ρ (jv 2) θ)) ο) (gR (D0 (bP E.br (Ρ (jv 2) θ)) (tY E.nI))))) (μ hI) Ο)
   (η (c8 (xh E.eK (Ρ (jv 2) θ)) (mQ rfl (b8 (ai (i:=3) ij.nd rfl (Or.inl rfl)) (b8 (ai (i:=4) ij.nd rfl (Or.inl rfl)) jJ))) oX (μ (ax (eU (bH (aa oq hr ξ (Ρ (jv 4) (ι (bP E.br (Ρ (jv 2) θ)) θ aY))))) (μ hI) Ο)))
   (η (Dm E.d7 E.fJ (jv 0) (jv 1))
   (μ (Dm E.d7 E.cJ (jv 0) (gE (ys:=[]) (af:=[]) (.of ij rfl rfl rfl) (bC (jv 2)) (λC s H fp=>(cU (aa kH hr (gy (P:=P) (w:=w)) (Ρ (jv 0) θ))))))))))),λds M q x h=>?_⟩)
 ·have⟨k,d,ε,ds,γ,ok,rfl,_⟩:=h;rfl
 ·have⟨k,d,ε,ds,γ,ok,rfl,hk,hl,hp,hs,h1,h12,ux,h⟩:=h;have hlen:ds.length=γ.length:=Paired.length hp;walk_at "vc";refine⟨ε,rfl,λz=>?_,λ_=>?_⟩
  ·rw[hs]at z;exact nomatch z
  have Xx:=nK hl;refine ar Xx ⟨λz=>?_,λ_=>?_⟩
  ·have:(ds.length:Int)<1:=by simpa using z
   omega
  refine ar Xx ⟨λz=>?_,λ_=>?_⟩
  ·have:12<(ds.length:Int):=by simpa using z
   omega
  refine⟨d,ds,ok,rfl,hl,?_⟩;refine bK (λxs ρ M'=>M'=M/\∃n oa D' a b,xs=ji n oa/\Paired (jX M) oa D'/\(∀r∈D',r∈γ)/\ρ=[some (.loc k),some (Ξ ε),some d,a,b]) (λxs ρ M' hj=>by have⟨rfl,_⟩:=hj;exact qH hl) (λx xs ρ M' hj e9=>?_) (λρ M' hj=>?_) _ _ _ ⟨rfl,0,ds,γ,none,none,rfl,hp,λ_ h=>h,rfl⟩
  ·have⟨rfl,n,oa,D',a,b,ex,Ee,We,rfl⟩:=hj;cases Ee with
   |nil=>cases ex
   |cons ra t=>
    rename_i d1 r1 ds1 Sw;cases ex;refine ar Xx ⟨d1,r1,ds.length,rfl,ra,(ux r1 (We r1 aae)).1,λz=>?_,λ_=>?_⟩
    ·rw[hlen,(ux r1 (We r1 aae)).2]at z;exact nomatch z
    ·exact e9 _ _ ⟨rfl,n+1,ds1,Sw,_,_,rfl,t,λr hr=>We r (aad _ hr),rfl⟩
  ·have⟨rfl,n,oa,D',a,b,ex,Ee,We,rfl⟩:=hj;have hkl:k<M'.length:=(aaf.mp hk).1;refine⟨k,[],[],rfl,hk,(λz=>(nomatch z)),@_,?_⟩;have Ww:=zU (C':=Cm) (ns':=["kept_share"]) (xs':=[Ξ ε]) hk hl;dsimp only[NT,List.nil_append];show fc _ _ _ _ _;refine eL (i:=2) rfl Ww ⟨by rw[hlen];exact aaE h12 @_,?_⟩;have SX:Paired (λx a=>jX (M'.set k (.ins Cm ["kept_share"] [Ξ ε])) x a/\gu a) ds γ:=by
    have:∀{xs:List Dt} {rs:List Rw},Paired (jX M') xs rs->(∀r∈rs,gu r)->Paired (λx a=>jX (M'.set k (.ins Cm ["kept_share"] [Ξ ε])) x a/\gu a) xs rs:=by
     intro xs rs hp
     induction hp with
     |nil=>exactλ_=>.nil
     |cons r t ih=>exactλh=>.cons ⟨F_ hk r,h _ aae⟩ (ih λy hy=>h y (aad _ hy))
    exact this hp λr hr=>(ux r hr).1
   refine dF (f:=az) (qH Ww) (λx a ha q' hq=>?ht) SX ?fin
   case ht=>
    have⟨ha,ho⟩:=ha;refine⟨x,a,rfl,ha,ho,?_⟩;cases a with
    |fin p=>exact Mz ⟨trivial,oW p,trivial⟩ hq
    |τ k2 qD=>exact mS (.tup (.cons (.old trivial) (.cons (.JZ (Nat.le_refl _) (by simp) (jA.old (iB qD))) .nil))) hq
   case fin=>
    refine⟨k,["kept_share"],[Ξ ε],rfl,by rw[aa3 hkl],@_,@_,?_⟩;rw[List.set_set];exact h
def kindOf:Rw->Str
 |.fin _=>"end"
 |.τ k _=>k
def Τ:Rw->List bO
 |.fin _=>[]
 |.τ _ ds=>ds
def Tc:Rw->Dt
 |.fin p=>Ξ p
 |.τ _ _=>.bj
def nH{γ:List Rw}{r:Rw}(h:γ[i]? =some r):(γ.map az)[i]? =some (az r):=by rw[aaq,h];rfl
def Ck{r:Rw}:∃e,az r= .tup [.str (kindOf r),e]:=by
 cases r with
 |fin p=>exact⟨_,rfl⟩
 |τ k ds=>exact⟨_,rfl⟩
def y8(C:Addr):DF:=λas M q _=>∃ε γ,as=[aK C ε γ]/\q (.int γ.length) M
def y6:Ε ["self"] ["self"] (ψ mh):=.of rfl
def yg(F:cZ K "size" "Floor.size" mh f fd)(E:Ev K mg w Cm):av P w K mg base (cC P w) 1 f fd ["self"] (cW K (y8 Cm)):=by
 refine F.dR y6 (λds M q x h=>?_) (λbz A outer s H E' hr=>⟨_,(μ (Γ (bP E.br (ι (tJ E.d7 E.cJ (jv 0)) θ)))),λds M q x h=>?_⟩)
 ·have⟨ε,γ,rfl,_⟩:=h;rfl
 ·have⟨ε,γ,rfl,h⟩:=h;refine⟨_,_,_,.inl rfl,rfl,?_⟩;show fB [.lst (γ.map az)] M _;refine ar (xs:=γ.map az) rfl ?_;rw[aac];exact h
def Ig(C:Addr):DF:=λas M q _=>∃ε γ,as=[aK C ε γ]/\q (Ξ ε) M
def xJ:Ε ["self"] ["self"] (ψ kN):=.of rfl
def uE(F:cZ K "share" "Floor.share" kN f fd)(E:Ev K mg w Cm):av P w K mg base (cC P w) 1 f fd ["self"] (cW K (Ig Cm)):=by
 refine F.dR xJ (λds M q x h=>?_) (λbz A outer s H E' hr=>⟨_,(μ (Γ (tJ E.d7 E.fJ (jv 0)))),λds M q x h=>?_⟩)
 ·have⟨ε,γ,rfl,_⟩:=h;rfl
 ·have⟨ε,γ,rfl,h⟩:=h;exact⟨_,_,_,.inl rfl,rfl,h⟩
def nU(C:Addr):DF:=λas M q _=>∃ε γ i r,as=[aK C ε γ,.int (i:Nat)]/\γ[i]? =some r/\q (.str (kindOf r)) M
def Av:Ε ["self","place"] ["self","place"] (ψ mj):=.of rfl
def v_(F:cZ K "kind" "Floor.kind" mj f fd)(E:Ev K mg w Cm):av P w K mg base (cC P w) 1 f fd ["self","place"] (cW K (nU Cm)):=by
 refine F.dR Av (λds M q x h=>?_) (λbz A outer s H E' hr=>⟨_,(μ (Γ (Ζ (Ζ (tJ E.d7 E.cJ (jv 0)) (jv 1)) ο))),λds M q x h=>?_⟩)
 ·have⟨ε,γ,i,r,rfl,_⟩:=h;rfl
 ·have⟨ε,γ,i,r,rfl,hi,h⟩:=h;refine⟨_,_,_,.inl rfl,rfl,?_⟩;walk_at "vc";refine Θ (xs:=γ.map az) rfl (Ν (nH hi)) ?_;have⟨e,er⟩:=Ck (r:=r);rw[er];exact h
def rZ(C:Addr):DF:=λas M q _=>∃ε γ i r,as=[aK C ε γ,.int (i:Nat)]/\γ[i]? =some r/\gu r/\q (.loc M.length) (M++[.lst ((Τ r).map eG)])
def xA:Ε ["self","place"] ["self","place"] (ψ ko):=.of rfl
def uK(F:cZ K "doors" "Floor.doors" ko f fd)(E:Ev K mg w Cm)(Υ:dj P w K mg base 1 Cm "kind" ["self","place"] (nU Cm) aT aU):av P w K mg base (cC P w) 2 f fd ["self","place"] (cW K (rZ Cm)):=by
 refine F.dR xA (λds M q x h=>?_) (λbz A outer s H E' hr=>⟨_,(η (ax (cQ hr (b9 Υ hr ξ (jv 0) (Ρ (jv 1) θ)) ia) (μ (Γ (j3 θ))) Ο)
   (μ (Γ (wW E.kO (ι (Ζ (Ζ (tJ E.d7 E.cJ (jv 0)) (jv 1)) ο) θ aZ))))),λds M q x h=>?_⟩)
 ·have⟨ε,γ,i,r,rfl,_⟩:=h;rfl
 ·have⟨ε,γ,i,r,rfl,hi,ro,h⟩:=h;refine⟨⟨_,_,.inl rfl,rfl⟩,ε,γ,i,r,rfl,hi,?_⟩;cases r with
  |fin p=>exact⟨λ_=>⟨@_,h⟩,λz=>(nomatch z)⟩
  |τ k ds=>
   refine⟨λz=>aaL (aaz z) ro.1,λ_=>?_⟩;refine⟨_,_,_,.inl rfl,rfl,?_⟩;walk_at "vc";refine Θ (xs:=γ.map az) rfl (Ν (nH hi)) ?_;exact h
def QZ(C:Addr):DF:=λas M q _=>∃ε γ i r,as=[aK C ε γ,.int (i:Nat)]/\γ[i]? =some r/\gu r/\q (Tc r) M
def Bi:Ε ["self","place"] ["self","place"] (ψ oH):=.of rfl
def zu(F:cZ K "pay" "Floor.pay" oH f fd)(E:Ev K mg w Cm)(Υ:dj P w K mg base 1 Cm "kind" ["self","place"] (nU Cm) aT aU):av P w K mg base (cC P w) 2 f fd ["self","place"] (cW K (QZ Cm)):=by
 refine F.dR Bi (λds M q x h=>?_) (λbz A outer s H E' hr=>⟨_,(η (ax (cQ hr (b9 Υ hr ξ (jv 0) (Ρ (jv 1) θ)) ia) (μ (Γ (Ζ (Ζ (tJ E.d7 E.cJ (jv 0)) (jv 1)) ο))) Ο)
   (μ (Γ MG))),λds M q x h=>?_⟩)
 ·have⟨ε,γ,i,r,rfl,_⟩:=h;rfl
 ·have⟨ε,γ,i,r,rfl,hi,ro,h⟩:=h;refine⟨⟨_,_,.inl rfl,rfl⟩,ε,γ,i,r,rfl,hi,?_⟩;cases r with
  |fin p=>
   refine⟨λ_=>?_,λz=>(nomatch z)⟩;refine⟨_,_,_,.inl rfl,rfl,?_⟩;walk_at "vc";refine Θ (xs:=γ.map az) rfl (Ν (nH hi)) ?_;exact h
  |τ k ds=>exact⟨λz=>aaL (aaz z) ro.1,λ_=>h⟩
def i7{α:Type}(f:α->Dt):∀(xs ys:List α),(∀x∈xs,x∈ys)->Paired (λx a=>x=f a/\a∈ys) (xs.map f) xs
 |[],_,_=>.nil
 |x::xs,ys,h=>.cons ⟨rfl,h x aae⟩ (i7 f xs ys λy hy=>h y (aad _ hy))
def cY{q:DQ}(u:Dt.bR M.length ds)(h:q (.lst ds) M):sj M q (.loc M.length) (M++[.lst ds]):=mS (.JZ (aan _) (by rw[Nat.sub_self];rfl) (jA.old u)) h
def Mp{q:DQ}(u:Dt.bR M.length ds)(h:q (.lst ds) M):u_ [.lst ds] M (sj M q):=by show sj M q (.loc M.length) (M++[.lst ds]);exact cY u h
def yH{d:bO}{q:DQ}(h:q (Ξ d.2.1) M):cE (eG d) (.int 1) M q:=Θ (xs:=.int d.1::Ξ d.2.1::d.2.2.map Ξ) rfl (Ν (j:=1) rfl) h
def DB{d:bO}{q:DQ}(h:q (.int d.1) M):cE (eG d) (.int 0) M q:=Θ (xs:=.int d.1::Ξ d.2.1::d.2.2.map Ξ) rfl bw h
def zk{k:Str}{e:Dt}{q:DQ}(h:q e M):cE (.tup [.str k,e]) (.int 1) M q:=Θ (xs:=[.str k,e]) rfl (Ν (j:=1) rfl) h
def cz{g:Dt->En->(En->Prop)->Prop}{tb:DS}{Dn:lL}(J:List Dt->En->Ms->Prop)
  (step:∀x xs ρ M,J (x::xs) ρ M->(∀ρ M,J xs ρ M->xv g tb Dn xs ρ M)->g x ρ λρ'=>tb {Dn with nx:=xv g tb Dn xs,ct:=xv g tb Dn xs,bk:=Dn.nx} ρ' M)
  (fin:∀ρ M,J [] ρ M->Dn.nx ρ M):∀(xs:List Dt) (ρ:En) (M:Ms),J xs ρ M->xv g tb Dn xs ρ M
 |[],ρ,M,h=>fin _ _ h
 |x::xs,ρ,M,h=>step x xs ρ M h λρ' M' h'=>cz J step fin xs ρ' M' h'
def bV{x:Dt}(h:x::xs=dN lo n):∃m,n=m+1/\x= .int lo/\xs=dN (lo+1) m:=by
 cases n with
 |zero=>exact nomatch h
 |succ m=>
  unfold dN at h;rw[abF,aaH,aaM]at h;cases h;refine⟨m,rfl,by simp,?_⟩;unfold dN;apply abg;intro k _;show Dt.int (lo+((k+1:Nat):Int))=Dt.int (lo+1+(k:Int))
  congr 1
  omega
def r9{x:Dt}(h:x∈dN lo n):∃k:Nat,k<n/\x= .int (lo+k):=by unfold dN at h;have⟨k,hk,rfl⟩:=aaj.mp h;exact⟨k,aba.mp hk,rfl⟩
def fU:(dN lo n).length=n:=by unfold dN;simp
def gC{n:Nat}:∀(xs:List Int),Dt.bR n (xs.map Dt.int)
 |[]=>trivial
 |_::xs=>⟨trivial,gC xs⟩
def IK{m:Int}:∀{l:List Int},(∀w∈l,w<=m)->l.sum<=l.length*m
 |[],_=>by simp
 |a::l,h=>by have i:=IK (l:=l) λw hw=>h w (aad _ hw);have:=h a aae;rw[List.sum_cons,aaB,abN,Int.add_mul];omega
def qK(aV:Int)(r:Rw):Prop:=gu r/\fL r aV=true
def LO{k:Str}{ds:List bO}{aV:Int}(hk:Β k=true)(hz:1<=ds.length)(Xa:ds.length<=6)(hd:∀d∈ds,aP d.1 d.2.1 aV=true)(hs:∀d∈ds,d.2.2=[]/\0<d.2.1.2):qK aV (.τ k ds):=by
 have fd:ao ds aV=true:=by unfold ao;rw[aaD hz,aaD Xa,abw.mpr hd];rfl
 have ne:k≠"end"/\k≠"chance":=by refine⟨λz=>?_,λz=>?_⟩ <;> (subst z;exact aaL hk @_)
 refine⟨⟨ne.1,(),λz=>aaL z ne.2,λd h=>⟨by rw[(hs d h).1];exact ab9 _,(hs d h).2⟩⟩,?_⟩;show(if Β k then _ else _)=true;rw[aax hk];exact fd
def E8{ds:List bO}{aV:Int}(hz:1<=ds.length)(Xa:ds.length<=6)(hd:∀d∈ds,aP d.1 d.2.1 aV=true)(h1:∀d∈ds,d.2.2=[χ d])(hc:aq (ds.map χ)=true)(ho:PX (ds.map χ))(hp:∀d∈ds,0<d.2.1.2):qK aV (.τ "chance" ds):=by
 have fd:ao ds aV=true:=by unfold ao;rw[aaD hz,aaD Xa,abw.mpr hd];rfl
 refine⟨⟨@_,(),λ_=>⟨h1,ho⟩,λd h=>⟨by rw[h1 d h];exact aan _,hp d h⟩⟩,?_⟩;have e:fL (.τ "chance" ds) aV=(ao ds aV&&aq (ds.map χ)):=by dsimp only[fL];rw[aaw @_,aax rfl]
 rw[e,fd,hc];rfl
def Mi{aV:Int}{p:Fr}(h0:0<=t)(h1:t<aV)(hp:bx p=true):aP t p aV=true:=by unfold aP;rw[aaD h0,aaD h1,hp];rfl
def gm{xs:List Int}(h:j<xs.length):lF (xs.map Dt.int) (j:Int)=some (.int xs[j]):=Ν (by rw[aaq,aaa h];rfl)
def DW:∀{l:List Int},(∀w∈l,0<w)->l≠[]->0<l.sum
 |[],_,z=>aaL rfl z
 |[a],h,_=>by have:=h a List.mem_cons_self;simpa using this
 |a::b::l,h,_=>by have i:=DW (l:=b::l) (λw hw=>h w (List.mem_cons_of_mem _ hw)) (by simp);have:=h a aae;rw[List.sum_cons];omega
def Sz(k:Nat)(p:Fr):Prop:=p.1.natAbs<2^k/\0<p.2/\p.2.natAbs<2^k
def eO(p q:Fr):Fr:=aB (p.1*q.2+q.1*p.2) (p.2*q.2)
def aN(p q:Fr):Fr:=aB (p.1*q.1) (p.2*q.2)
def cX(p q:Fr):Bool:=decide (p.1*q.2<q.1*p.2)
def qO{k k':Nat}{p:Fr}(h:Sz k p)(hk:k<=k'):Sz k' p:=
 ⟨aau h.1 (ab1 @_ hk),h.2.1,aau h.2.2 (ab1 @_ hk)⟩
def cj{a b k:Nat}(h:a<2^k)(h':b<2^l):a*b<2^(k+l):=by rw[Nat.pow_add];exact Nat.mul_lt_mul'' h h'
def EJ{k:Nat}(hb:0<b)(h1:t.natAbs<2^k)(h2:b.natAbs<2^k):Sz k (aB t b):=
 ⟨aaX (tO ()) h1,cR (),aaX (j6 ()) h2⟩
def vc{p q:Fr}{k:Nat}(hp:Sz k p)(hq:Sz l q):(p.1*q.2+q.1*p.2).natAbs<2^(k+l+1)/\(p.2*q.2).natAbs<2^(k+l+1)/\0<p.2*q.2:=by
 have a:=cj hp.1 hq.2.2;have b:=cj hq.1 hp.2.2;have c:=cj hp.2.2 hq.2.2;rw[Nat.add_comm l k]at b;have e:(2:Nat)^(k+l+1)=2^(k+l)+2^(k+l):=by rw[Nat.pow_succ];omega
 have hn:=Int.natAbs_add_le (p.1*q.2) (q.1*p.2);rw[abj,abj]at hn;refine⟨by rw[e];omega,?_,aaP hp.2.1 hq.2.1⟩;rw[abj,e];omega
def ME{p q:Fr}{k:Nat}(hp:Sz k p)(hq:Sz l q):Sz (k+l+1) (eO p q):=
 let ⟨a,b,c⟩:=vc hp hq
 EJ c a b
def tT{p q:Fr}{k:Nat}(hp:Sz k p)(hq:Sz l q):(p.1*q.1).natAbs<2^(k+l)/\(p.2*q.2).natAbs<2^(k+l)/\0<p.2*q.2:=by have a:=cj hp.1 hq.1;have c:=cj hp.2.2 hq.2.2;exact⟨by rw[abj];exact a,by rw[abj];exact c,aaP hp.2.1 hq.2.1⟩
def zG{p q:Fr}{k:Nat}(hp:Sz k p)(hq:Sz l q):Sz (k+l) (aN p q):=
 let ⟨a,b,c⟩:=tT hp hq
 EJ c a b
def fR{p:Fr}{k:Nat}(h:Sz k p)(hk:k<=8000):dQ p.1:=bg h.1 hk
def c7{p:Fr}{k:Nat}(h:Sz k p)(hk:k<=8000):dQ p.2:=bg h.2.2 hk
def BE{p:Fr}(h:bx p=true)(h0:0<p.2):Sz 101 p:=by
 unfold bx at h;rw[aav,aap,aap]at h;have⟨h1,h2⟩:=h;have e1:(10:Int)^30<2^101:=@_
 have n1:(p.1.natAbs:Int)<=10^30:=by split at h1 <;> omega
 refine⟨?_,h0,?_⟩
 ·have:(p.1.natAbs:Int)<((2^101:Nat):Int):=aaN n1 @_;exact abR.mp this
 ·have:(p.2.natAbs:Int)<((2^101:Nat):Int):=aaN (show(p.2.natAbs:Int)<=1000000 by omega) @_;exact abR.mp this
def nG{p:Fr}(h:aX p=true):Sz 11 p:=by unfold aX at h;rw[aav,aav,aap,aap,aap]at h;have⟨h1,h2,h3⟩:=h;exact⟨(),(),()⟩
def jS{p:Fr}{q:DQ}(h:q (.int p.1) M):cE (Ξ p) (.int 0) M q:=Θ (xs:=[.int p.1,.int p.2]) rfl bw h
def gZ{p:Fr}{q:DQ}(h:q (.int p.2) M):cE (Ξ p) (.int 1) M q:=Θ (xs:=[.int p.1,.int p.2]) rfl (Ν (j:=1) rfl) h
def HZ:DF:=λas M q _=>∃p r k l,as=[Ξ p,Ξ r]/\Sz k p/\Sz l r/\k+l+1<=8000/\q (Ξ (eO p r)) M
def OS:Ε ["one","other"] ["one","other"] (ψ HJ):=.of rfl
def MA(F:cZ K "plus" "plus" HJ f fd)(E:Ev K mg w Cm)(bD:aw P w K mg base 2 "fraction" ["top","bottom"] qZ fD fh):av P w K mg base (cC P w) 3 f fd ["one","other"] (cW K HZ):=by
 refine F.dR OS (λds M q x h=>?_) (λbz A outer s H E' hr=>⟨_,(μ (Γ (aa bD hr ξ (ι (ck (au (Ζ (jv 0) ο) (Ζ (jv 1) ο)) (au (Ζ (jv 1) ο) (Ζ (jv 0) ο))) (ι (au (Ζ (jv 0) ο) (Ζ (jv 1) ο)) θ bL) bL)))),λds M q x h=>?_⟩)
 ·have⟨p,r,k,l,rfl,_⟩:=h;rfl
 ·have⟨p,r,k,l,rfl,hp,fV,hk,h⟩:=h;have⟨a,b,c⟩:=vc hp fV;refine⟨⟨fR hp (),c7 fV ()⟩,⟨fR fV (),c7 hp ()⟩,⟨c7 hp (),c7 fV ()⟩,bg b hk,λz=>aaL z (),λ_=>h⟩
def xq:DF:=λas M q _=>∃p r k l,as=[Ξ p,Ξ r]/\Sz k p/\Sz l r/\k+l+1<=8000/\q (Ξ (aN p r)) M
def NC:Ε ["one","other"] ["one","other"] (ψ CH):=.of rfl
def Hm(F:cZ K "times" "times" CH f fd)(E:Ev K mg w Cm)(bD:aw P w K mg base 2 "fraction" ["top","bottom"] qZ fD fh):av P w K mg base (cC P w) 3 f fd ["one","other"] (cW K xq):=by
 refine F.dR NC (λds M q x h=>?_) (λbz A outer s H E' hr=>⟨_,(μ (Γ (aa bD hr ξ (ι (au (Ζ (jv 0) ο) (Ζ (jv 1) ο)) (ι (au (Ζ (jv 0) ο) (Ζ (jv 1) ο)) θ bL) bL)))),λds M q x h=>?_⟩)
 ·have⟨p,r,k,l,rfl,_⟩:=h;rfl
 ·have⟨p,r,k,l,rfl,hp,fV,hk,h⟩:=h;have⟨a,b,c⟩:=tT hp fV;refine⟨⟨fR hp (),fR fV ()⟩,⟨c7 hp (),c7 fV ()⟩,bg b (),λz=>aaL z (),λ_=>h⟩
def iE(p q:Fr):Fr:=aB (p.1*q.2-q.1*p.2) (p.2*q.2)
def CI{p q:Fr}{k:Nat}(hp:Sz k p)(hq:Sz l q):(p.1*q.2-q.1*p.2).natAbs<2^(k+l+1)/\(p.2*q.2).natAbs<2^(k+l+1)/\0<p.2*q.2:=by
 have a:=cj hp.1 hq.2.2;have b:=cj hq.1 hp.2.2;have c:=cj hp.2.2 hq.2.2;rw[Nat.add_comm l k]at b;have e:(2:Nat)^(k+l+1)=2^(k+l)+2^(k+l):=by rw[Nat.pow_succ];omega
 have hn:(p.1*q.2-q.1*p.2).natAbs<=(p.1*q.2).natAbs+(q.1*p.2).natAbs:=()
 rw[abj,abj]at hn;refine⟨by rw[e];omega,?_,aaP hp.2.1 hq.2.1⟩;rw[abj,e];omega
def Kt:DF:=λas M q _=>∃p r k l,as=[Ξ p,Ξ r]/\Sz k p/\Sz l r/\k+l+1<=8000/\q (Ξ (iE p r)) M
def Mb:Ε ["one","other"] ["one","other"] (ψ A_):=.of rfl
def Kn(F:cZ K "minus" "minus" A_ f fd)(E:Ev K mg w Cm)(bD:aw P w K mg base 2 "fraction" ["top","bottom"] qZ fD fh):av P w K mg base (cC P w) 3 f fd ["one","other"] (cW K Kt):=by
 refine F.dR Mb (λds M q x h=>?_) (λbz A outer s H E' hr=>⟨_,(μ (Γ (aa bD hr ξ (ι (sP (au (Ζ (jv 0) ο) (Ζ (jv 1) ο)) (au (Ζ (jv 1) ο) (Ζ (jv 0) ο))) (ι (au (Ζ (jv 0) ο) (Ζ (jv 1) ο)) θ bL) bL)))),λds M q x h=>?_⟩)
 ·have⟨p,r,k,l,rfl,_⟩:=h;rfl
 ·have⟨p,r,k,l,rfl,hp,fV,hk,h⟩:=h;have⟨a,b,c⟩:=CI hp fV;refine⟨⟨fR hp (),c7 fV ()⟩,⟨fR fV (),c7 hp ()⟩,⟨c7 hp (),c7 fV ()⟩,bg b hk,λz=>aaL z (),λ_=>h⟩
def mM(B:Int)(c:Fr):Int:=c.1*(B/c.2)
structure FO(cs:List Fr):Prop where
 pos:∀c∈cs,0<mM (bQ cs) c
 sum:(cs.map (mM (bQ cs))).sum=bQ cs
 b0:0<bQ cs
 b1:bQ cs<=1000000
 ne:cs≠[]
 Lh:PX cs
def SM{cs:List Fr}(h:aq cs=true)(o:PX cs)(n:cs≠[]):FO cs:=by
 unfold aq at h;rw[aav,aav,aap,aap,Bool.not_eq_true']at h;have⟨h1,h2,h3⟩:=h;have B0:0<bQ cs:=fQ cs 1 @_ λc hc=>(o.2 c hc).1;have⟨_,_,hB⟩:=je cs 1 0 @_ (acA _) λc hc=>⟨(o.2 c hc).1,acA _⟩;refine⟨λc hc=>?_,h2,B0,h3,n,o⟩;have c1:0<c.1:=by have:=List.any_eq_false.mp h1 c hc;simpa using this
 exact aaP c1 (Int.ediv_pos_of_pos_of_dvd B0 (aak (o.2 c hc).1) (hB c hc))
def val(p:Fr):Rat:=(p.1:Rat)/(p.2:Rat)
structure Red(p:Fr):Prop where
 pos:0<p.2
 low:Int.gcd p.1 p.2=1
def aJ(h:b≠0):(b:Rat)≠0:=λz=>h (Rat.intCast_eq_zero_iff.mp z)
def NM{a c d:Int}(h:a*b=c*d):(a:Rat)*b=c*d:=by rw[<-aaQ,<-aaQ,h]
def b7(h:b≠0):Red (aB t b):=⟨cR h,zJ h⟩
def kg(h:b≠0):val (aB t b)=(t:Rat)/(b:Rat):=by
 have hq:=cR (t:=t) h;have hx:=NM (cI (t:=t) h);have h1:=aJ h;have h2:=aJ (show(aB t b).2≠0 by omega);unfold val;generalize ((aB t b).1:Rat)=x at *
 generalize ((aB t b).2:Rat)=y at *
 generalize (t:Rat)=t' at *
 generalize (b:Rat)=b' at *
 grind
def yA{p q:Fr}(hp:Red p)(hq:Red q)(h:val p=val q):p=q:=by
 have h1:=aJ (show p.2≠0 by have:=hp.pos;omega);have h2:=aJ (show q.2≠0 by have:=hq.pos;omega);have e:p.1*q.2=p.2*q.1:=by
  unfold val at h;have e1:(p.1:Rat)*(q.2:Rat)=(p.2:Rat)*(q.1:Rat):=by
   generalize (p.1:Rat)=a at *
   generalize (p.2:Rat)=b at *
   generalize (q.1:Rat)=c at *
   generalize (q.2:Rat)=d at *
   grind
  rw[<-aaQ,<-aaQ]at e1;exact Rat.intCast_inj.mp e1
 have a:=wU (show p.2≠0 by have:=hp.pos;omega) hq.pos hq.low e;have b:=vQ hp.pos hp.low;rw[<-Prod.eta p,<-b,a]
def s_{p q:Fr}(hp:0<p.2)(hq:0<q.2):val (eO p q)=val p+val q:=by
 unfold eO;rw[kg (abp (aaP hp hq))];have h1:=aJ (show p.2≠0 by omega);have h2:=aJ (show q.2≠0 by omega);rw[Rat.intCast_add,aaQ,aaQ,aaQ];unfold val;generalize (p.1:Rat)=a at *
 generalize (p.2:Rat)=b at *
 generalize (q.1:Rat)=c at *
 generalize (q.2:Rat)=d at *
 grind
def lC{p q:Fr}(hp:0<p.2)(hq:0<q.2):val (aN p q)=val p*val q:=by
 unfold aN;rw[kg (abp (aaP hp hq))];have h1:=aJ (show p.2≠0 by omega);have h2:=aJ (show q.2≠0 by omega);rw[aaQ,aaQ];unfold val;generalize (p.1:Rat)=a at *
 generalize (p.2:Rat)=b at *
 generalize (q.1:Rat)=c at *
 generalize (q.2:Rat)=d at *
 grind
def h9(p:Fr)(E:Int):Prop:=∃N,p.1*E=N*p.2
def pT{N:Int}(h:b≠0)(e:t*E=N*b):h9 (aB t b) E:=by
 have hx:=cI (t:=t) h;generalize hf:aB t b=f at *
 have⟨x,y⟩:=f;refine⟨N,?_⟩;show x*E=N*y;have hx:t*y=b*x:=hx;have:b*(x*E)=b*(N*y):=by grind
 exact aaU h this
def yT{p:Fr}(k:Int)(h:h9 p E):h9 p (E*k):=by have⟨N,e⟩:=h;exact⟨N*k,by grind⟩
def Fg(p:Fr):h9 p p.2:=⟨p.1,rfl⟩
def GK{p q:Fr}(hp:0<p.2)(hq:0<q.2)(h:h9 p E)(h':h9 q E):h9 (eO p q) E:=by have⟨N,e⟩:=h;have⟨N',e'⟩:=h';unfold eO;exact pT (N:=N+N') (Int.ne_of_gt (Int.mul_pos hp hq)) (by grind)
def tF{p q:Fr}{F:Int}(hp:0<p.2)(hq:0<q.2)(h:h9 p E)(h':h9 q F):h9 (aN p q) (E*F):=by have⟨N,e⟩:=h;have⟨N',e'⟩:=h';unfold aN;exact pT (N:=N*N') (Int.ne_of_gt (Int.mul_pos hp hq)) (by grind)
def yb{p:Fr}(hp:Red p)(h:h9 p E):p.2∣E:=by
 have⟨N,e⟩:=h;have d:p.2∣p.1*E:=⟨N,by rw[e,aa6]⟩;have d2:p.2.natAbs∣p.1.natAbs*E.natAbs:=by rw[<-abj];exact Int.natAbs_dvd_natAbs.mpr d
 have co:Nat.Coprime p.2.natAbs p.1.natAbs:=by have:=hp.low;unfold Int.gcd at this;rw[Nat.coprime_comm];exact this
 exact Int.natAbs_dvd_natAbs.mp (co.dvd_of_dvd_mul_left d2)
def eJ(p:Fr)(C:Int):Prop:=p.1<=p.2*C/\ -(p.2*C)<=p.1
def n9(h:0<b)(h1:t<=b*C)(h2: -(b*C)<=t):eJ (aB t b) C:=by
 have hx:=cI (t:=t) (show b≠0 by omega);have hq:=cR (t:=t) (show b≠0 by omega);generalize hf:aB t b=f at *
 have⟨x,y⟩:=f;have hx:t*y=b*x:=hx;have hq:0<y:=hq;constructor
 ·show x<=y*C;have:=aaO h1 (aak hq);rw[hx]at this;have e:b*C*y=b*(y*C):=by grind
  rw[e]at this;exact acg this h
 ·show -(y*C)<=x;have:=aaO h2 (aak hq);rw[hx]at this;have e: -(b*C)*y=b*(-(y*C)):=by grind
  rw[e]at this;exact acg this h
def cq{a c:Int}(h:a<=b)(hc:0<=c):a*c<=b*c:=aaO h hc
def Kz{p q:Fr}{D:Int}(hp:0<p.2)(hq:0<q.2)(h:eJ p C)(h':eJ q D):eJ (eO p q) (C+D):=by
 unfold eO;have a:=cq h.1 (aak hq);have b:=cq h'.1 (aak hp);have c:=cq h.2 (aak hq);have d:=cq h'.2 (aak hp);refine n9 (aaP hp hq) ?_ ?_
 ·have e:p.2*q.2*(C+D)=p.2*C*q.2+q.2*D*p.2:=by grind
  omega
 ·have e: -(p.2*q.2*(C+D))= -(p.2*C)*q.2+ -(q.2*D)*p.2:=by grind
  omega
def g_(c:Fr):Prop:=0<=c.1/\c.1<=c.2
def FJ{c p:Fr}(hc:0<c.2)(hp:0<p.2)(u:g_ c)(h:eJ p C)(hC:0<=C):eJ (aN c p) C:=by
 unfold aN;have pc:0<=p.2*C:=abi (aak hp) hC;have a:=cq h.1 u.1;have b:=cq u.2 pc;have c':=cq h.2 u.1;refine n9 (aaP hc hp) ?_ ?_
 ·have e:c.2*p.2*C=c.2*(p.2*C):=by grind
  have e1:c.1*p.1=p.1*c.1:=aa6 ..;have e2:p.2*C*c.1=c.1*(p.2*C):=aa6 ..;omega
 ·have e: -(c.2*p.2*C)= -(c.2*(p.2*C)):=by grind
  have e1:c.1*p.1=p.1*c.1:=aa6 ..;have e2: -(p.2*C)*c.1= -(c.1*(p.2*C)):=by grind
  omega
def CC{c s:Fr}(hc:0<c.2)(hs:0<s.2)(u:g_ c)(v:g_ s):g_ (aN c s):=by
 unfold aN;have hx:=cI (t:=c.1*s.1) (abp (aaP hc hs));have hq:=cR (t:=c.1*s.1) (abp (aaP hc hs));have t0:0<=c.1*s.1:=abi u.1 v.1
 have t1:c.1*s.1<=c.2*s.2:=abM (cq u.2 v.1) (by
  have:=cq v.2 (aak hc)
  rw[aa6 c.2 s.1,aa6 c.2 s.2];exact this)
 have bp:=aaP hc hs;generalize c.1*s.1=t at *
 generalize c.2*s.2=b at *
 generalize hf:aB t b=f at *
 have⟨x,y⟩:=f;have hx:t*y=b*x:=hx;have hq:0<y:=hq;constructor
 ·show 0<=x;rcases acp x 0 with z| z
  ·have:=abZ bp z;have:=abi t0 (aak hq);omega
  ·exact z
 ·show x<=y;have:=cq t1 (aak hq);rw[hx]at this;exact acg this bp
def Ow{p:Fr}{k m:Nat}(r:Red p)(h:h9 p E)(e0:0<E)(e1:E<2^k)(a:eJ p C)(c0:0<=C)(c1:C<2^m):Sz (k+m) p:=by
 have d:=ab6 e0 (yb r h);have rp:=r.pos;have b1:p.2.natAbs<2^k:=by
  have:(p.2.natAbs:Int)<((2^k:Nat):Int):=by rw[abm (aak rp)];exact aaN d (by exact_mod_cast e1)
  exact abR.mp this
 have b2:C.natAbs<2^m:=by
  have:(C.natAbs:Int)<((2^m:Nat):Int):=by
   rw[abm c0]
   exact_mod_cast c1
  exact abR.mp this
 have b3:=cj b1 b2;refine⟨?_,rp,aau b1 (ab1 @_ (abW _ _))⟩;refine aaX ?_ b3;rw[<-abj];have q0:0<=p.2*C:=abi (aak rp) c0;have:=a.1;have:=a.2;omega
def Of{cs:List Fr}(h:j<cs.length):lF (cs.map Ξ) (j:Int)=some (Ξ cs[j]):=Ν (by rw[aaq,aaa h];rfl)
def Oi{ds:List bO}(h:j<ds.length):lF (ds.map eG) (j:Int)=some (eG ds[j]):=Ν (by rw[aaq,aaa h];rfl)
structure Qo(ε:Fr)(γ:List Rw):Prop where
 sh:aX ε=true
 len:γ.length<=12
 row:∀r∈γ,gu r/\fL r γ.length=true
structure R_(γ:List Rw)(k:Str)(ds:List bO):Prop where
 ro:gu (.τ k ds)
 l1:1<=ds.length
 l6:ds.length<=6
 kd:Β k=true\/(Β k=false/\k="chance"/\FO (ds.map χ))
 to:∀d∈ds,0<=d.1/\d.1<γ.length
 py:∀d∈ds,bx d.2.1=true/\0<d.2.1.2
def dD{ε:Fr}{γ:List Rw}{k:Str}{ds:List bO}(f:Qo ε γ)(h:Rw.τ k ds∈γ):R_ γ k ds:=by
 have⟨ro,h2⟩:=f.row _ h;have h2:(if Β k then ao ds γ.length else if k="chance" then ao ds γ.length&&aq (ds.map χ) else false)=true:=h2;have key:ao ds γ.length=true/\(Β k=true\/(Β k=false/\k="chance"/\aq (ds.map χ)=true)):=by
  by_cases hk:Β k=true
  ·rw[aax hk]at h2;exact⟨h2,.inl hk⟩
  ·rw[aaw hk]at h2;by_cases hc:k="chance"
   ·rw[if_pos hc,Bool.and_eq_true]at h2;exact⟨h2.1,.inr ⟨by simpa using hk,hc,h2.2⟩⟩
   ·rw[aaw hc]at h2;cases h2
 have⟨fd,hk⟩:=key;unfold ao at fd;rw[aav,aav,aap,aap]at fd;have⟨⟨d1,d6⟩,fa⟩:=fd;have each:∀d∈ds,0<=d.1/\d.1<γ.length/\bx d.2.1=true:=λd hd=>by have h3:=abw.mp fa d hd;unfold aP at h3;rw[aav,aav,aap,aap]at h3;exact⟨h3.1,h3.2.1,h3.2.2⟩
 refine⟨ro,d1,d6,?_,λd hd=>⟨(each d hd).1,(each d hd).2.1⟩,λd hd=>⟨(each d hd).2.2,(ro.2.2.2 d hd).2⟩⟩;rcases hk with hk| ⟨hk,hc,hf⟩
 ·exact .inl hk
 ·refine .inr ⟨hk,hc,SM hf (ro.2.2.1 hc).2 λz=>?_⟩;have:=aa0 List.length z;rw[aac]at this;have:ds.length=0:=this;omega
def DO{α:Type}(xs:List α)(a:α)(f:α->Dt):(dN 0 xs.length).map (λx=>match x with| .int j=>f (xs.getD j.toNat a)| _=>.bj)=xs.map f:=by
 unfold dN;rw[aaM];apply abq
 ·simp
 ·intro i h1 h2;simp only[List.getElem_map,List.getElem_range,Function.comp];rw[show(0+(i:Int)).toNat=i by omega];have hi:i<xs.length:=by simpa using h2
  rw[aab,aaa hi];rfl
abbrev d0:bO:=(0,(0,1),[])
def uo(tb:List Fr)(t:Int):Fr:=tb.getD t.toNat (0,1)
def ae(ε:Fr)(tb:List Fr)(d:bO):Fr:=eO d.2.1 (aN ε (uo tb d.1))
def iG(ps:List (Fr×Fr)):Fr:=ps.foldl (λw p=>eO w (aN p.1 p.2)) (0,1)
structure Nb(E C:Int)(p:Fr):Prop where
 pos:0<p.2
 he:h9 p E
 ab:eJ p C
 sz:Sz 2600 p
structure Bd(E C:Int):Prop where
 e0:0<E
 e1:E<2^2200
 c0:0<=C
 c1:C<2^400
def KA{p:Fr}(r:Red p)(h:h9 p E)(a:eJ p C)(b:Bd E C):Nb E C p:=⟨r.pos,h,a,Ow (k:=2200) (m:=400) r h b.e0 b.e1 a b.c0 b.c1⟩
def Lq{D:Int}{p q:Fr}(h:Nb E C p)(h':Nb E D q)(b:Bd E (C+D)):Nb E (C+D) (eO p q):=KA (b7 (abp (aaP h.pos h'.pos))) (GK h.pos h'.pos h.he h'.he) (Kz h.pos h'.pos h.ab h'.ab) b
def yV{F:Int}{c p:Fr}(c0:0<c.2)(hc:h9 c F)(u:g_ c)(h:Nb E C p)(b:Bd (F*E) C):Nb (F*E) C (aN c p):=KA (b7 (abp (aaP c0 h.pos))) (tF c0 h.pos hc h.he) (FJ c0 h.pos u h.ab b.c0) b
def P5{p:Fr}{D:Int}(h0:0<p.2)(h:eJ p C)(hd:C<=D):eJ p D:=by have:=aaC hd (aak h0);have⟨a,b⟩:=h;exact⟨(),()⟩
def TK:Nb E 0 (0,1):=⟨@_,⟨0,by simp⟩,⟨@_,@_⟩,qO (k:=1) ⟨@_,@_,@_⟩ @_⟩
def Ie{p:Fr}(h:aX p=true):0<p.2/\p.2<=1000/\g_ p:=by unfold aX at h;rw[aav,aav,aap,aap,aap]at h;have⟨h1,h2,h3⟩:=h;exact⟨(),h3,h1,()⟩
def rQ{p:Nat}(h:p<n):JU n (p:Int)=some p:=by unfold JU;rw[aax (),aax (),abS]
def K2(h:Au M d=some xs):f_ M d=some xs:=by cases d <;> first| exact h| cases h
def yi(h:Au M d=some xs):lX M d=some xs:=by cases d <;> first| exact h| cases h
def GI(h:Au M d=some xs):Dw M d=some (.type "list"):=by
 cases d with
 |lst ds=>rfl
 |loc k=>
  have h:(match M[k]? with| some (.lst xs)=>some xs| _=>none)=some xs:=h;show(match M[k]? with| some (.lst _)=>some (Value.type "list")| _=>none)=_;split at h
  ·rfl
  ·cases h
 |_=>cases h
def aE{o:MO}:(M++[o])[M.length]? =some o:=by simp
def ir{k:Nat}(h:M[k]? =some (MO.lst xs)):Au M (.loc k)=some xs:=by show(match M[k]? with| some (MO.lst xs)=>some xs| _=>none)=some xs;rw[h]
def de{a c:MO}:(M++[a]).set M.length c=M++[c]:=by simp[List.set_append]
def QY{E:Ms}{o:MO}:(M++o::E)[M.length]? =some o:=by simp
def LM{E:Ms}{o c:MO}:(M++o::E).set M.length c=M++c::E:=by simp[List.set_append]
abbrev cG(l:List Int):Dt:=.lst (l.map Dt.int)
abbrev jV(ls:List (List Int)):Dt:=.lst (ls.map cG)
def ER{ls:List (List Int)}(h:j<ls.length):lF (ls.map cG) (j:Int)=some (cG ls[j]):=Ν (by rw[aaq,aaa h];rfl)
def jw{n:Nat}:∀(ls:List (List Int)),Dt.bR n (ls.map cG)
 |[]=>trivial
 |l::ls=>⟨gC l,jw ls⟩
abbrev dw:=Bz.dw
def zv(h:i<n):((List.replicate (n:Int).toNat [Dt.int 0]).flatten).set i (Dt.int 1)=(dw n i).map Dt.int:=by
 have e:(List.replicate (n:Int).toNat [Dt.int 0]).flatten=List.replicate n (Dt.int 0):=by
  rw[show((n:Int)).toNat=n by omega];clear h
  induction n with
  |zero=>rfl
  |succ n ih=>rw[abo,abH,ih];rfl
 rw[e];unfold dw Bz.dw;apply abq
 ·simp
 ·intro j h1 h2;rw[List.getElem_set];simp only[List.getElem_replicate,List.getElem_map,List.getElem_range,Bz.ind];split <;> rfl
def Ox:DF:=λas M q _=>∃γ:List (List Int),as=[jV γ]/\γ.length<=12/\(∀r∈γ,r.length<=13)/\∀E,q (.loc M.length) (M++MO.lst (((List.range γ.length).map λi=>γ.getD i []++dw γ.length i).map cG)::E)
def dZ:Ε ["rows","told","number","row","weights"] ["rows"] (ψ js):=.of rfl
def rO(F:cZ K "with_weights" "with_weights" js f fd)(E:Ev K mg w Cm):av P w K mg base (cC P w) 1 f fd ["rows"] (cW K Ox):=by
 refine F.dR dZ (λds M q x h=>?_) (λbz A outer s H E' hr=>⟨_,(η (ω 1 dZ.nd (j3 θ))
   (η (c8 (xh E.eK (Ρ (jv 0) θ)) (mQ rfl (b8 (ai (i:=2) dZ.nd rfl (Or.inl rfl)) (b8 (ai (i:=3) dZ.nd rfl (Or.inl rfl)) jJ))) oX (η (ω 4 dZ.nd (Bx (dH 3 (d:=.lst [.int 0]) (by rfl)) (bP E.br (Ρ (jv 0) θ))))
   (η (ki (jv 4) (jv 2) ο)
   (μ (eT (eY (jv 1) (ι (mG (jv 3) (jv 4)) θ bL)))))))
   (μ (Γ (jv 1))))),λds M q x h=>?_⟩)
 ·have⟨γ,rfl,_⟩:=h;rfl
 ·have⟨γ,rfl,r12,r13,h⟩:=h;refine⟨@_,?_⟩;refine⟨jV γ,γ.map cG,λ_=>True,rfl,rfl,?_⟩;refine bK (λxs ρ M'=>∃(k:Nat) (rest:List (List Int)) (E:Ms) (o1 o2 o3:Option Dt),xs=ji k (rest.map cG)/\γ.drop k=rest/\k<=γ.length/\M'=M++MO.lst (((List.range k).map λi=>γ.getD i []++dw γ.length i).map cG)::E/\ρ=[some (jV γ),some (.loc M.length),o1,o2,o3]) (λxs ρ M' hj=>trivial) (λx xs ρ M' hj e9=>?_) (λρ M' hj=>?_) _ _ _ ⟨0,γ,[],none,none,none,rfl,rfl,ab9 _,rfl,rfl⟩
  ·have⟨k,rest,E,o1,o2,o3,ex,hd,hk,rfl,rfl⟩:=hj;cases rest with
   |nil=>cases ex
   |cons r rest=>
    cases ex;have qv:k<γ.length:=by
     rcases Nat.lt_or_ge k γ.length with z| z
     ·exact z
     ·rw[List.drop_of_length_le z]at hd;cases hd
    have rk:γ[k]=r:=by have:=abt qv;rw[hd]at this;exact(List.cons.inj this).1.symm
    have rg:γ.getD k []=r:=by rw[aab,aaa qv,rk];rfl
    have aeg:=r13 r (by rw[<-rk];exact aaG qv);have JX:γ.drop (k+1)=rest:=by have:=abt qv;rw[hd]at this;exact(List.cons.inj this).2.symm
    dsimp only[g2];walk_at "vc";refine(ar (d:=jV γ) (xs:=γ.map cG) rfl ?_:fB [jV γ] _ _);rw[aac];refine⟨[.int 0],γ.length,rfl,rfl,(),(),?_,?_⟩
    ·show 1*((γ.length:Int)).toNat<=sizeLine;exact aaE (show _<=12 by omega) @_
    generalize hM2:M++MO.lst (((List.range k).map λi=>γ.getD i []++dw γ.length i).map cG)::E=M2;refine⟨M2.length,k,_,k,rfl,rfl,aE,?_,?_⟩
    ·have:((List.replicate (γ.length:Int).toNat [Dt.int 0]).flatten).length=γ.length:=by have:=aa0 List.length (zv qv);rw[abn,aac]at this;rw[this];unfold dw Bz.dw;simp
     rw[this];exact rQ qv
    rw[de,zv qv];subst hM2;have eM:(M++MO.lst (((List.range k).map λi=>γ.getD i []++dw γ.length i).map cG)::E)++[MO.lst ((dw γ.length k).map Dt.int)]=M++MO.lst (((List.range k).map λi=>γ.getD i []++dw γ.length i).map cG)::(E++[MO.lst ((dw γ.length k).map Dt.int)]):=by simp
    have at3:((M++MO.lst (((List.range k).map λi=>γ.getD i []++dw γ.length i).map cG)::E)++[MO.lst ((dw γ.length k).map Dt.int)])[M.length]? =some (.lst (((List.range k).map λi=>γ.getD i []++dw γ.length i).map cG)):=by rw[eM];exact QY
    refine⟨⟨M.length,_,rfl,at3⟩,r.map Dt.int,(dw γ.length k).map Dt.int,rfl,ir aE,?_,M.length,_,_,rfl,rfl,at3,?_,?_⟩
    ·rw[aac,aac];unfold dw Bz.dw;rw[aac,abc];exact aaE (show _<=30 by omega) @_
    ·rw[aac,aac,abc];exact aaX (show k<=12 by omega) @_
    rw[eM,LM];refine e9 _ _ ⟨k+1,rest,E++[MO.lst ((dw γ.length k).map Dt.int)],_,_,_,rfl,JX,qv,?_,rfl⟩;rw[List.range_succ,aa8,aa8];simp only[List.map_cons,List.map_nil];rw[rg,<-aa8]
  ·have⟨k,rest,E,o1,o2,o3,ex,hd,hk,rfl,rfl⟩:=hj;cases rest with
   |cons r rest=>cases ex
   |nil=>
    have:k=γ.length:=by have:=aa0 List.length hd;rw[abP]at this;simp at this;omega
    subst this;exact h E
def Uw:DF:=λas M q _=>∃(ls:List (List Int)) (f c:Nat),as=[jV ls,.int (f:Int),.int (c:Int)]/\f<=ls.length/\ls.length<=12/\(∀l∈ls,c<l.length)/\
 ((∀(k:Nat),f<=k->k<ls.length->(ls.getD k []).getD c 0=0)->q .bj M)/\
 (∀(k:Nat),f<=k->k<ls.length->(ls.getD k []).getD c 0≠0->q (.int (k:Int)) M)
def kC:Ε ["lines","first","column","number"] ["lines","first","column"] (ψ iM):=.of rfl
def qu(F:cZ K "number_of_head" "number_of_head" iM f fd)(E:Ev K mg w Cm):av P w K mg base (cC P w) 1 f fd ["lines","first","column"] (cW K Uw):=by
 refine F.dR kC (λds M q x h=>?_) (λbz A outer s H E' hr=>⟨_,(η (gf (E4 E.bM (Ρ (jv 1) (ι (bP E.br (Ρ (jv 0) θ)) θ aY))) (ai (i:=3) kC.nd rfl (Or.inl rfl)) aI (μ (ax (lJ hr (Ζ (Ζ (jv 0) (jv 3)) (jv 2)) ο) (μ (Γ (jv 3))) Ο)))
   (μ (Γ MG))),λds M q x h=>?_⟩)
 ·have⟨ls,f,c,rfl,_⟩:=h;rfl
 ·have⟨ls,f,c,rfl,hf,qj,hc,h1,h2⟩:=h;walk_at "vc";dsimp only[HW];walk_at "vc";refine(ar (d:=jV ls) (xs:=ls.map cG) rfl ?_:fB [jV ls] _ _);rw[aac];refine⟨⟨(),(),(),()⟩,?_⟩;refine cz (λzs ρ M'=>M'=M/\∃(n k:Nat) (o:Option Dt),zs=dN k n/\f<=k/\k+n=ls.length/\(∀j,f<=j->j<k->(ls.getD j []).getD c 0=0)/\ρ=[some (jV ls),some (.int (f:Int)),some (.int (c:Int)),o]) (λx zs ρ M' hj e9=>?_) (λρ M' hj=>?_) _ _ _ ⟨rfl,ls.length-f,f,none,?_,aan _,(),λj a b=>aaL a (),rfl⟩
  ·have⟨rfl,n,k,o,ex,hk,hn,hz,rfl⟩:=hj;have⟨m,rfl,rfl,rfl⟩:=bV ex;have kl:k<ls.length:=()
   have hl:=hc _ (aaG kl);have e1:(ls.getD k []).getD c 0=(ls[k])[c]:=by rw[aab,aab,aaa kl];show((ls[k])[c]?).getD 0=_;rw[aaa hl];rfl
   walk_at "vc";refine(Θ (d:=jV ls) rfl (ER kl) ?_:cE (jV ls) (.int (k:Int)) _ _);refine(Θ (d:=cG ls[k]) rfl (gm hl) ?_:cE (cG ls[k]) (.int (c:Int)) _ _);refine⟨λz=>?_,λz=>?_⟩
   ·have z:(!decide ((ls[k])[c]=0))=true:=z;refine h2 k hk kl ?_;rw[e1];intro y;rw[aaD y]at z;exact nomatch z
   ·have z:(!decide ((ls[k])[c]=0))=false:=z;have z0:(ls[k])[c]=0:=by
     rcases Decidable.em ((ls[k])[c]=0) with y| y
     ·exact y
     ·rw[aaJ y]at z;exact nomatch z
    refine e9 _ _ ⟨rfl,m,k+1,_,by simp,(),(),λj a b=>?_,rfl⟩;by_cases e:j=k
    ·rw[e,e1];exact z0
    ·exact hz j a ()
  ·have⟨rfl,n,k,o,ex,hk,hn,hz,rfl⟩:=hj;have Wg:n=0:=by have:=aa0 List.length ex;unfold dN at this;simpa using this.symm
   exact h1 λj a b=>hz j a ()
  ·rw[show((ls.length:Int)-(f:Int)).toNat=ls.length-f by omega]
abbrev j8:=Bz.j8
def Ip:DF:=λas M q _=>∃(ls:List (List Int)) (f k:Nat),as=[jV ls,.int (f:Int),.int (k:Int)]/\f<=k/\k<ls.length/\ls.length<=12/\q (jV (j8 ls f k)) M
def yc:Ε ["lines","first","number"] ["lines","first","number"] (ψ kz):=.of rfl
def uF(F:cZ K "moved_ahead" "moved_ahead" kz f fd)(E:Ev K mg w Cm):av P w K mg base (cC P w) 1 f fd ["lines","first","number"] (cW K Ip):=by
 refine F.dR yc (λds M q x h=>?_) (λbz A outer s H E' hr=>⟨_,(μ (Γ (mG (mG (mG (cU (x9 (jv 0) (jv 1))) (lQ (ι (Ζ (jv 0) (jv 2)) θ aZ))) (cU (vt (jv 0) (jv 1) (jv 2)))) (cU (ou (jv 0) (ck (jv 2) ο)))))),λds M q x h=>?_⟩)
 ·have⟨ls,f,k,rfl,_⟩:=h;rfl
 ·have⟨ls,f,k,rfl,hf,hk,qj,h⟩:=h;have gk:ls.getD k []=ls[k]:=by rw[aab,aaa hk];rfl
  have sz:∀{n:Nat},n<=40->n<=sizeLine:=λh=>aaE h @_;refine⟨ls.map cG,f,rfl,rfl,?_⟩;rw[<-acu];refine cY (jw _) ?_;walk_at "vc";refine(Θ (d:=jV ls) rfl (ER hk) ?_:cE (jV ls) (.int (k:Int)) _ _);refine⟨sz (by show 1<=40;decide),(ls.take f).map cG,[cG ls[k]],rfl,rfl,sz (by simp;omega),?_⟩;refine⟨f,rfl,ls.map cG,k,rfl,rfl,?_⟩;rw[<-acv,<-acu];refine cY (jw _) ?_;refine⟨(ls.take f).map cG++[cG ls[k]],((ls.drop f).take (k-f)).map cG,rfl,rfl,sz (by simp;omega),?_⟩;refine⟨ls.map cG,k+1,rfl,rfl,?_⟩;rw[<-acv];refine cY (jw _) ?_;refine⟨(ls.take f).map cG++[cG ls[k]]++((ls.drop f).take (k-f)).map cG,(ls.drop (k+1)).map cG,rfl,rfl,sz (by simp;omega),?_⟩;unfold j8 Bz.j8 at h;rw[gk]at h;have e:(ls.take f).map cG++[cG ls[k]]++((ls.drop f).take (k-f)).map cG++(ls.drop (k+1)).map cG=(ls.take f++[ls[k]]++(ls.drop f).take (k-f)++ls.drop (k+1)).map cG:=by rw[aa8,aa8,aa8];rfl
  rw[e];exact h
abbrev dG:=Bz.dG
def B8:DF:=λas M q _=>∃(l h:List Int) (c:Nat) (d:Int),as=[cG l,cG h,.int (c:Int),.int d]/\l.length=h.length/\h.length<=30/\c<h.length/\(∀x∈l,dQ x)/\(∀x∈h,dQ x)/\d≠0/\dQ d/\q (cG (dG l h c d)) M
def lO:Ε ["line","head","column","divisor"] ["line","head","column","divisor"] (ψ jx):=.of rfl
def sO(F:cZ K "cleared_line" "cleared_line" jx f fd)(E:Ev K mg w Cm):av P w K mg base (cC P w) 1 f fd ["line","head","column","divisor"] (cW K B8):=by
 refine F.dR lO (λds M q x h=>?_) (λbz A outer s H E' hr=>⟨_,(μ (Γ (Dj (ys:=["divisor","head","column","line"]) (af:=[3,1,2,0]) (.of lO rfl rfl rfl) (CV E.u9 (Ρ (jv 0) (Ρ (jv 1) θ))) (λC s H fp=>(CG (sP (au (Ζ (jv 3) (jv 4)) (jv 0)) (au (Ζ (jv 5) (jv 4)) (jv 1))) (jv 2)))))),λds M q x h=>?_⟩)
 ·have⟨l,h',c,d,rfl,_⟩:=h;rfl
 ·have⟨l,hd,c,d,rfl,hl,h30,hc,bl,bh,d0,bd,h⟩:=h;have cl:c<l.length:=()
  have g1:hd.getD c 0=hd[c]:=by rw[aab,aaa hc];rfl
  have g2':l.getD c 0=l[c]:=by rw[aab,aaa cl];rfl
  refine⟨cG l,cG hd,l.map Dt.int,hd.map Dt.int,λ_=>True,λ_=>True,rfl,rfl,rfl,?_⟩;have ez:qp (l.map Dt.int) (hd.map Dt.int)=(l.zip hd).map λp=>.tup [.int p.1,.int p.2]:=by unfold qp;rw[List.zip_map,aaM];rfl
  rw[ez];refine⟨?_,?_⟩
  ·rw[aac,abe];exact aaE (show _<=30 by omega) @_
  refine pF ⟨trivial,trivial⟩ (λx=>match x with| .tup [.int a,.int b]=>.int ((hd.getD c 0*a-l.getD c 0*b).fdiv d)| _=>.bj) _ _ (λx hx q' hq=>?_) ?_
  ·have⟨p,hp,rfl⟩:=aaj.mp hx;have hq:q' (.int ((hd.getD c 0*p.1-l.getD c 0*p.2).fdiv d)) M:=hq;have p1:=bl p.1 (abK hp).1;have p2:=bh p.2 (abK hp).2;rw[g1,g2']at hq;have key:cE (cG hd) (.int (c:Int)) M (λx M1=>Kk x (.int p.1) M1 λy M2=>cE (cG l) (.int (c:Int)) M2 λz M3=>Kk z (.int p.2) M3 λu M4=>xS y u M4 λv M5=>Dv v (.int d) M5 q'):=by refine Θ (d:=cG hd) rfl (gm hc) ⟨⟨bh _ (aaG hc),p1⟩,?_⟩;refine Θ (d:=cG l) rfl (gm cl) ⟨⟨bl _ (aaG cl),p2⟩,?_⟩;exact⟨⟨d0,bd⟩,hq⟩
   exact key
  ·rw[aaW,aaM];unfold dG Bz.dG at h;rw[show cG ((l.zip hd).map λp=>(hd.getD c 0*p.1-l.getD c 0*p.2).fdiv d)= .lst ((l.zip hd).map λp=>Dt.int ((hd.getD c 0*p.1-l.getD c 0*p.2).fdiv d)) by show Dt.lst _=_;rw[aaM];rfl]at h;exact h
def Aa{a b:Int}(h0:0<=a)(h:a<=b):∀n:Nat,a^n<=b^n
 |0=>by rw[Int.pow_zero,Int.pow_zero];exact Int.le_refl _
 |n+1=>by rw[abX,abX];exact abB (Aa h0 h n) h h0 (abY ())
def Br{x:Int}{r:Nat}(h:Bz.Ab x (Bz.top B r))(h1:1<=B)(hB:B<=2^450)(hr:r<=12):dQ x:=by
 have e1:Bz.top B r<=(12*B)^15:=Bz.w_ h1 ();have e2:(12*B)^15<=(12*2^450)^15:=Aa () () 15;have e3:((12*2^450)^15:Int)<((2^8000:Nat):Int):=@_
 have:(x.natAbs:Int)<((2^8000:Nat):Int):=by have⟨a,b⟩:=h;omega
 exact abR.mp this
section
variable{col:Nat}{ρ ν:List Nat}{qq:Nat->Nat}{d:Int}
def zX{m:Nat}(t:Bz.Turn A n col ρ ν qq d W)(b:Bz.Bd A n m B)(hB:B<=2^450)(hm:col<=m)(hr:ρ.length<=12):(∀i,i<n->∀x∈Bz.aG A n m (W i),dQ x)/\dQ d:=by
 have⟨a1,a2,a3⟩:=t.st.abs b (λc hc=>aau (t.cl c hc) hm) hr;refine⟨λi hi x hx=>?_,Br a3 b.b1 hB hr⟩;unfold Bz.aG at hx;rcases aaV.mp hx with z| z
 ·have⟨y,hy,rfl⟩:=aaj.mp z;exact Br (a2 i y hi (aba.mp hy)) b.b1 hB hr
 ·have⟨y,hy,rfl⟩:=aaj.mp z;exact Br (a1 i y hi) b.b1 hB hr
end
def nj(n:Nat):Dt:=.int n
def DH{n:Nat}:∀(l:List Nat),Dt.bR n (l.map nj)
 |[]=>trivial
 |_::l=>⟨trivial,DH l⟩
def vm{m:Nat}{l:List Int}(h:l∈Bz.ah A n m W):∃i,i<n/\l=Bz.aG A n m (W i):=by unfold Bz.ah at h;have⟨i,hi,e⟩:=aaj.mp h;exact⟨i,aba.mp hi,e.symm⟩
def q_{α:Type}(a:α):∀u:Nat,(List.replicate u [a]).flatten=List.replicate u a
 |0=>rfl
 |u+1=>by rw[abo,abH,q_ a u];rfl
structure B9(γ:List (List Int))(u:Nat)(B:Int):Prop where
 n1:1<=γ.length
 BC:γ.length<=12
 RV:u<=12
 ml:∀r∈γ,r.length=u+1
 bd:Bz.Bd (Bz.arr γ) γ.length (u+1) B
 me:B<=2^450
def Ap:DF:=λas M q _=>∃(γ:List (List Int)) (u:Nat) (B:Int),as=[jV γ,.int (u:Int)]/\B9 γ u B/\
 ∀ρ ν qq d W,Bz.Turn (Bz.arr γ) γ.length u ρ ν qq d W->q (.tup [jV (Bz.ah (Bz.arr γ) γ.length (u+1) W),.loc M.length]) (M++[.lst (ν.map nj)])
def bo:Ε ["rows","unknowns","lines","columns","divisor","column","rank","number","head","above","below"] ["rows","unknowns"] (ψ sG):=.of rfl
def BL(F:cZ K "cleared" "cleared" sG f fd)(E:Ev K mg w Cm){wG:Addr}{xE:FuncData}(iP:aw P w K mg base 1 "with_weights" ["rows"] Ox wG xE){uU:Addr}{uu:FuncData}(h7:aw P w K mg base 1 "number_of_head" ["lines","first","column"] Uw uU uu){zY:Addr}{AJ:FuncData}(ju:aw P w K mg base 1 "moved_ahead" ["lines","first","number"] Ip zY AJ){yr:Addr}{wd:FuncData}(fN:aw P w K mg base 1 "cleared_line" ["line","head","column","divisor"] B8 yr wd):av P w K mg base (cC P w) 2 f fd ["rows","unknowns"] (cW K Ap):=by
 refine F.dR bo (λds M q x h=>?_) (λbz A outer s H E' hr=>⟨_,(η (ω 2 bo.nd (cU (aa iP hr ξ (Ρ (jv 0) θ))))
   (η (ω 3 bo.nd (j3 θ))
   (η (ω 4 bo.nd ο)
   (η (gf (bY E.bM (Ρ (jv 1) θ)) (ai (i:=5) bo.nd rfl (Or.inr rfl)) aI (η (ω 6 bo.nd (bP E.br (Ρ (jv 3) θ)))
   (η (ω 7 bo.nd (aa h7 hr ξ (Ρ (jv 2) (Ρ (jv 6) (Ρ (jv 5) θ)))))
   (η (ax (Qf (jv 7) MG) (μ qg) Ο)
   (η (ω 2 bo.nd (aa ju hr ξ (Ρ (jv 2) (Ρ (jv 6) (Ρ (jv 7) θ)))))
   (η (ω 8 bo.nd (Ζ (jv 2) (jv 6)))
   (η (ie (i:=9) bo.nd rfl (Or.inl rfl) (ys:=["head","column","divisor"]) (af:=[8,5,4]) (.of bo rfl rfl rfl) (bC (cU (x9 (jv 2) (jv 6)))) (λC s H fp=>(aa fN hr (gy (P:=P) (w:=w)) (Ρ (jv 0) (Ρ (jv 1) (Ρ (jv 2) (Ρ (jv 3) θ)))))))
   (η (ie (i:=10) bo.nd rfl (Or.inl rfl) (ys:=["head","column","divisor"]) (af:=[8,5,4]) (.of bo rfl rfl rfl) (bC (cU (ou (jv 2) (ck (jv 6) ο)))) (λC s H fp=>(aa fN hr (gy (P:=P) (w:=w)) (Ρ (jv 0) (Ρ (jv 1) (Ρ (jv 2) (Ρ (jv 3) θ)))))))
   (η (ω 2 bo.nd (mG (mG (jv 9) (lQ (Ρ (jv 8) θ))) (jv 10)))
   (η (ω 4 bo.nd (Ζ (jv 8) (jv 5)))
   (μ (eT (eY (jv 3) (Ρ (jv 5) θ))))))))))))))
   (μ (Γ (eI (Ρ (jv 2) (Ρ (jv 3) θ))))))))),λds M q x h=>?_⟩)
 ·have⟨γ,u,B,rfl,_⟩:=h;rfl
 ·have⟨γ,u,B,rfl,ro,h⟩:=h;have n1:=ro.n1;have BC:=ro.BC;have RV:=ro.RV;refine⟨γ,rfl,BC,λr fV=>by rw[ro.ml r fV];omega,λE0'=>?_⟩;rw[Bz.AG ro.ml];refine mS (d':=jV (Bz.ah (Bz.arr γ) γ.length (u+1) λi=>Bz.ind i)) (.JZ (Nat.le_refl _) (by simp) (jA.old (jw _))) ?_;generalize hA:Bz.arr γ=A at *
  generalize hn:γ.length=n at *
  refine⟨@_,?_⟩;walk_at "vc";refine⟨⟨(),()⟩,?_⟩;refine cz (λzs ρ' M'=>∃(c k:Nat) (ρ ν:List Nat) (qq:Nat->Nat) (d:Int) (W:Nat->Bz.Row) (o1 o2 o3 o4 o5 o6:Option Dt),zs=dN k c/\k+c=u/\Bz.Turn A n k ρ ν qq d W/\M'=M++[MO.lst (ν.map nj)]/\ρ'=[some (jV γ),some (.int (u:Int)),some (jV (Bz.ah A n (u+1) W)),some (.loc M.length),some (.int d),o1,o2,o3,o4,o5,o6]) (λx zs ρ' M' hj e9=>?_) (λρ' M' hj=>?_) _ _ _ ⟨u,0,[],[],id,1,_,none,none,none,none,none,none,by simp,by simp,Bz.Turn.start,rfl,rfl⟩
  ·have⟨c,k,ρ,ν,qq,d,W,o1,o2,o3,o4,o5,o6,ex,hkc,t,rfl,rfl⟩:=hj;have⟨m,rfl,rfl,rfl⟩:=bV ex;have lc:ν.length=ρ.length:=t.st.lc;have rn:ρ.length<=n:=t.st.rn;have hs1:f_ (M++[MO.lst (ν.map nj)]) (.loc M.length)=some (ν.map nj):=K2 (ir aE);walk_at "vc";refine(ar (d:=.loc M.length) hs1 ?_:fB [.loc M.length] _ _);rw[aac,lc];refine⟨Bz.ah A n (u+1) W,ρ.length,k,rfl,by rw[Bz.dI];exact rn,by rw[Bz.dI];exact BC,λl hl=>?_,λhz=>?_,λk' h1 h2 h0=>?_⟩
   ·have⟨i,_,rfl⟩:=vm hl;rw[Bz.eZ];omega
   ·refine⟨λ_=>?_,λz=>(nomatch z)⟩;refine e9 _ _ ⟨m,k+1,ρ,ν,qq,d,W,_,_,_,_,_,_,by simp,(),t.skip λi a b=>?_,rfl,rfl⟩;have:=hz i a (by rw[Bz.dI];exact b);rw[Bz.kI b,Bz.iw ()]at this;exact this
   ·rw[Bz.dI]at h2;rw[Bz.kI h2,Bz.iw (show k<u+1 by omega)]at h0;refine⟨λz=>(nomatch z),λ_=>?_⟩;refine⟨Bz.ah A n (u+1) W,ρ.length,k',rfl,h1,by rw[Bz.dI];exact h2,by rw[Bz.dI];exact BC,?_⟩;rw[show j8 (Bz.ah A n (u+1) W) ρ.length k'=_ from Bz.AR h1 h2];have t1:=t.move h1 h2;have RS:ρ.length<n:=()
    have Z8:Bz.rv A n (W (Bz.jq ρ.length k' ρ.length)) k≠0:=by
     have:Bz.jq ρ.length k' ρ.length=k':=by unfold Bz.jq;rw[if_neg (Nat.lt_irrefl _),if_pos rfl]
     rw[this];exact h0
    clear h0 h1 h2 t;generalize hW1:(λi=>W (Bz.jq ρ.length k' i))=W1 at *
    generalize S':(λi=>qq (Bz.jq ρ.length k' i))=q1 at *
    have e1:W (Bz.jq ρ.length k' ρ.length)=W1 ρ.length:=by rw[<-hW1]
    rw[e1]at Z8;have⟨bl,bd⟩:=zX t1 (m:=u+1) (by subst hA hn;exact ro.bd) ro.me () ();have⟨W',t2,el⟩:=t1.step (m:=u+1) RS () Z8;have PY:(Bz.ah A n (u+1) W1).length=n:=Bz.dI;have hdg:(Bz.ah A n (u+1) W1)[ρ.length]'(by rw[PY];exact RS)=Bz.aG A n (u+1) (W1 ρ.length):=by have:=Bz.kI (A:=A) (m:=u+1) (W:=W1) RS;rw[aab,aaa (by rw[PY];exact RS)]at this;exact this
    have clr:∀l∈Bz.ah A n (u+1) W1,∀q':DQ,q' (cG (dG l (Bz.aG A n (u+1) (W1 ρ.length)) k d)) (M++[MO.lst (ν.map nj)])->B8 [cG l,cG (Bz.aG A n (u+1) (W1 ρ.length)),.int (k:Int),.int d] (M++[MO.lst (ν.map nj)]) q' (λC fs M'=>lS [] C fs M'):=λl hl q' yC=>by have⟨i,hi,rfl⟩:=vm hl;exact⟨_,_,k,d,rfl,by rw[Bz.eZ,Bz.eZ],by rw[Bz.eZ];omega,by rw[Bz.eZ];omega,bl i hi,bl _ RS,t1.d0,bd,yC⟩
    walk_at "vc";refine(Θ (d:=jV (Bz.ah A n (u+1) W1)) rfl (ER (by rw[PY];exact RS)) ?_:cE (jV (Bz.ah A n (u+1) W1)) (.int (ρ.length:Int)) _ _);rw[hdg];have sz:∀{z:Nat},z<=40->z<=sizeLine:=λh=>aaE h @_;refine⟨(Bz.ah A n (u+1) W1).map cG,ρ.length,rfl,rfl,?_⟩;rw[<-acu];refine cY (jw _) ⟨sz (by rw[aac,ach];omega),?_⟩;refine dF (F:=λx a=>x=cG a/\a∈Bz.ah A n (u+1) W1) (f:=λl=>cG (dG l (Bz.aG A n (u+1) (W1 ρ.length)) k d)) trivial (λx a ha q' yC=>by have⟨rfl,ha⟩:=ha;exact clr a ha q' yC) (i7 cG _ _ λ_ h=>List.mem_of_mem_take h) ?_;rw[aaW];refine⟨(Bz.ah A n (u+1) W1).map cG,ρ.length+1,rfl,rfl,?_⟩;rw[<-acv];refine cY (jw _) ⟨sz (by rw[aac,abP];omega),?_⟩;refine dF (F:=λx a=>x=cG a/\a∈Bz.ah A n (u+1) W1) (f:=λl=>cG (dG l (Bz.aG A n (u+1) (W1 ρ.length)) k d)) trivial (λx a ha q' yC=>by have⟨rfl,ha⟩:=ha;exact clr a ha q' yC) (i7 cG _ _ λ_ h=>List.mem_of_mem_drop h) ?_;rw[aaW];refine⟨by show 1<=sizeLine;decide,_,_,rfl,rfl,sz (by simp;omega),_,_,rfl,rfl,sz (by simp;omega),?_⟩;have ek:k<(Bz.aG A n (u+1) (W1 ρ.length)).length:=by rw[Bz.eZ];omega
    have ev:(Bz.aG A n (u+1) (W1 ρ.length))[k]=Bz.rv A n (W1 ρ.length) k:=by have:=Bz.iw (A:=A) (n:=n) (m:=u+1) (x:=k) (w:=W1 ρ.length) ();rw[aab,aaa ek]at this;exact this
    refine Θ (d:=cG (Bz.aG A n (u+1) (W1 ρ.length))) rfl (gm ek) ?_;rw[ev];refine⟨⟨M.length,_,rfl,aE⟩,M.length,_,_,rfl,rfl,aE,?_,?_⟩
    ·rw[aac,lc];exact aaX (show _<=12 by omega) @_
    rw[de];have ee:=aa0 (List.map cG) el;rw[aa8,aa8,aaM,aaM]at ee;refine e9 _ _ ⟨m,k+1,ρ++[q1 ρ.length],ν++[k],q1,_,W',some (.int (k:Int)),some (.int (ρ.length:Int)),some (.int (k':Int)),some (cG (Bz.aG A n (u+1) (W1 ρ.length))),some (.lst (((Bz.ah A n (u+1) W1).take ρ.length).map λl=>cG (dG l (Bz.aG A n (u+1) (W1 ρ.length)) k d))),some (.lst (((Bz.ah A n (u+1) W1).drop (ρ.length+1)).map λl=>cG (dG l (Bz.aG A n (u+1) (W1 ρ.length)) k d))),by simp,(),t2,by simp[nj],?_⟩;show _=[some (jV γ),some (Dt.int (u:Int)),some (Dt.lst ((Bz.ah A n (u+1) W').map cG)),some (Dt.loc M.length),some (Dt.int _),_,_,_,_,_,_];rw[<-ee];rfl
  ·have⟨c,k,ρ,ν,qq,d,W,o1,o2,o3,o4,o5,o6,ex,hkc,t,rfl,rfl⟩:=hj;have Wg:c=0:=by have:=aa0 List.length ex;unfold dN at this;simpa using this.symm
   have:k=u:=()
   subst this;exact⟨gV,h _ _ _ _ _ t⟩
def N1:DF:=λas M q _=>∃(γ:List (List Int)) (u:Nat) (B:Int) (ρ ν:List Nat) (qq:Nat->Nat) (d:Int) (W:Nat->Bz.Row),as=[jV (Bz.ah (Bz.arr γ) γ.length (u+1) W),.lst (ν.map nj),.int (u:Int),.int (u:Int)]/\B9 γ u B/\Bz.Turn (Bz.arr γ) γ.length u ρ ν qq d W/\ν=List.range u/\
 q (.loc M.length) (M++[.lst ((List.range u).map λi=>Ξ (aB (Bz.rv (Bz.arr γ) γ.length (W i) u) d))])
def ig:Ε ["lines","columns","unknowns","source","told","line","column"] ["lines","columns","unknowns","source"] (ψ mI):=.of rfl
def we(F:cZ K "quotients" "quotients" mI f fd)(E:Ev K mg w Cm)(bD:aw P w K mg base 2 "fraction" ["top","bottom"] qZ fD fh):av P w K mg base (cC P w) 3 f fd ["lines","columns","unknowns","source"] (cW K N1):=by
 refine F.dR ig (λds M q x h=>?_) (λbz A outer s H E' hr=>⟨_,(η (ω 4 ig.nd (Bx (dH 3 (d:=.lst [.tup [.int 0,.int 1]]) (by rfl)) (jv 2)))
   (η (c8 (CV E.u9 (Ρ (jv 0) (Ρ (jv 1) θ))) (mQ rfl (b8 (ai (i:=5) ig.nd rfl (Or.inl rfl)) (b8 (ai (i:=6) ig.nd rfl (Or.inl rfl)) jJ))) oX (μ (ki (jv 4) (jv 6) (aa bD hr ξ (ι (Ζ (jv 5) (jv 3)) (ι (Ζ (jv 5) (jv 6)) θ aZ) aZ)))))
   (μ (Γ (jv 4))))),λds M q x h=>?_⟩)
 ·have⟨γ,u,B,ρ,ν,qq,d,W,rfl,_⟩:=h;rfl
 ·have⟨γ,u,B,ρ,ν,qq,d,W,rfl,ro,t,hc,h⟩:=h;have RV:=ro.RV;have BC:=ro.BC;have hl:ρ.length=u:=by rw[<-t.st.lc,hc,abc]
  have un:u<=γ.length:=by rw[<-hl];exact t.st.rn
  have⟨bl,bd⟩:=zX t (m:=u+1) ro.bd ro.me () ();have d0:=t.d0;have one:∀i,i<u->Bz.rv (Bz.arr γ) γ.length (W i) i=d:=λi hi=>by have:=t.st.one i i () ();rw[aax rfl,hc,aab,aaY hi]at this;exact this
  generalize hA:Bz.arr γ=A at *
  generalize hn:γ.length=n at *
  let tl:Nat->List Dt:=λk=>(List.range u).map λi=>if i<k then Ξ (aB (Bz.rv A n (W i) u) d) else Ξ (0,1)
  have t0:(List.replicate (u:Int).toNat [Ξ (0,1)]).flatten=tl 0:=by
   show _=(List.range u).map λi=>if i<0 then _ else Ξ (0,1)
   rw[show((u:Int)).toNat=u by omega];apply abq
   ·simp
   ·intro j h1 h2;have e:(List.replicate u [Ξ (0,1)]).flatten=List.replicate u (Ξ (0,1)):=q_ _ u;simp[e]
  have ts:∀k,k<u->(tl k).set k (Ξ (aB (Bz.rv A n (W k) u) d))=tl (k+1):=λk hk=>by
   apply abq
   ·simp[tl]
   ·intro j h1 h2;rw[List.getElem_set];simp only[tl,List.getElem_map,List.getElem_range];by_cases e:k=j
    ·subst e;rw[aax rfl,aax ()]
    ·rw[aaw e];by_cases f:j<k
     ·rw[aax f,aax ()]
     ·rw[aaw f,aaw ()]
  refine⟨[Ξ (0,1)],u,rfl,rfl,(),(),?_,?_⟩
  ·show 1*((u:Int)).toNat<=sizeLine;exact aaE (show _<=12 by omega) @_
  rw[t0];refine⟨jV (Bz.ah A n (u+1) W),.lst (ν.map nj),_,_,λ_=>True,λ_=>True,rfl,rfl,rfl,?_⟩;have ez:qp ((Bz.ah A n (u+1) W).map cG) (ν.map nj)=(List.range u).map λi=>.tup [cG (Bz.aG A n (u+1) (W i)),nj i]:=by
   unfold qp Bz.ah;rw[hc];apply abq
   ·simp;omega
   ·intro j h1 h2;simp
  rw[ez];refine bK (λzs ρ' M'=>∃(k:Nat) (o1 o2:Option Dt),k<=u/\zs=((List.range u).drop k).map (λi=>.tup [cG (Bz.aG A n (u+1) (W i)),nj i])/\M'=M++[MO.lst (tl k)]/\ρ'=[some (jV (Bz.ah A n (u+1) W)),some (.lst (ν.map nj)),some (.int (u:Int)),some (.int (u:Int)),some (.loc M.length),o1,o2]) (λzs ρ' M' hj=>⟨trivial,trivial⟩) (λx zs ρ' M' hj e9=>?_) (λρ' M' hj=>?_) _ _ _ ⟨0,none,none,ab9 _,rfl,rfl,rfl⟩
  ·have⟨k,o1,o2,hk,ex,rfl,rfl⟩:=hj;have qv:k<u:=by
    rcases Nat.lt_or_ge k u with z| z
    ·exact z
    ·rw[List.drop_of_length_le (by simpa using z)]at ex;cases ex
   rw[List.drop_eq_getElem_cons (by simpa using qv),List.map_cons,List.getElem_range]at ex;cases ex;have ek:k<(Bz.aG A n (u+1) (W k)).length:=by rw[Bz.eZ];omega
   have eu:u<(Bz.aG A n (u+1) (W k)).length:=by rw[Bz.eZ];omega
   have v1:(Bz.aG A n (u+1) (W k))[k]=d:=by have:=Bz.iw (A:=A) (n:=n) (m:=u+1) (x:=k) (w:=W k) ();rw[aab,aaa ek]at this;rw[<-one k qv];exact this
   have v2:(Bz.aG A n (u+1) (W k))[u]=Bz.rv A n (W k) u:=by have:=Bz.iw (A:=A) (n:=n) (m:=u+1) (x:=u) (w:=W k) ();rw[aab,aaa eu]at this;exact this
   dsimp only[g2,sW];walk_at "vc";refine Θ (d:=cG (Bz.aG A n (u+1) (W k))) rfl (gm eu) ?_;refine Θ (d:=cG (Bz.aG A n (u+1) (W k))) rfl (gm ek) ?_;rw[v1,v2];refine⟨bd,λz=>aaL z d0,λ_=>?_⟩;refine⟨M.length,k,_,k,rfl,rfl,aE,?_,?_⟩
   ·rw[show(tl k).length=u by simp[tl]];exact rQ qv
   rw[de];refine e9 _ _ ⟨k+1,_,_,qv,rfl,?_,rfl⟩;rw[<-ts k qv];rfl
  ·have⟨k,o1,o2,hk,ex,rfl,rfl⟩:=hj;have:k=u:=by have:=aa0 List.length ex;simp at this;omega
   subst this;have e:tl k=(List.range k).map λi=>Ξ (aB (Bz.rv A n (W i) k) d):=abg λi hi=>by rw[aax (aba.mp hi)]
   rw[e];exact h
def xR:DF:=λas M q _=>∃(γ:List (List Int)) (u:Nat) (B:Int) (A4:List Fr) (z:Bz.Row) (N:Int),as=[jV γ]/\B9 γ u B/\1<=u/\A4.length=u/\Bz.P_ (Bz.arr γ) γ.length u z N/\N≠0/\
 (∀i,i<u->0<(A4.getD i (0,1)).2/\Int.gcd (A4.getD i (0,1)).1 (A4.getD i (0,1)).2=1/\N*(A4.getD i (0,1)).1=z i*(A4.getD i (0,1)).2)/\
 (∀y:Bz.Row,(∀k,k<γ.length->Bz.Δ (λx=>Bz.arr γ k x*y x) u=0)->∀x,x<u->y x=0)/\q (.loc M.length) (M++[.lst (A4.map Ξ)])
def eE:Ε ["rows","unknowns","found","lines","columns","line","answer"] ["rows"] (ψ oR):=.of rfl
def zP(F:cZ K "answer_of" "answer_of" oR f fd)(E:Ev K mg w Cm){Kj:Addr}{K8:FuncData}(pB:aw P w K mg base 2 "cleared" ["rows","unknowns"] Ap Kj K8){B':Addr}{Bw:FuncData}(kD:aw P w K mg base 3 "quotients" ["lines","columns","unknowns","source"] N1 B' Bw):av P w K mg base (cC P w) 4 f fd ["rows"] (cW K xR):=by
 refine F.dR eE (λds M q x h=>?_) (λbz A outer s H E' hr=>⟨_,(η (ω 1 eE.nd (sP (bP E.br (ι (Ζ (jv 0) ο) θ aZ)) ο))
   (η (ω 2 eE.nd (cU (aa pB hr ξ (Ρ (jv 0) (Ρ (jv 1) θ)))))
   (η (ω 3 eE.nd (Ζ (jv 2) ο))
   (η (ω 4 eE.nd (Ζ (jv 2) ο))
   (η (c8 (bC (cU (ou (jv 3) (bP E.br (Ρ (jv 4) θ))))) (ai (i:=5) eE.nd rfl (Or.inl rfl)) aI (μ (ax (lJ hr (Ζ (jv 5) (jv 1)) ο) (μ hI) Ο)))
   (η (ω 6 eE.nd (aa kD hr ξ (Ρ (jv 3) (Ρ (jv 4) (Ρ (jv 1) (Ρ (jv 1) θ))))))
   (η (ax (tq (bP E.br (Ρ (jv 4) θ)) (jv 1)) (μ hI) Ο)
   (μ (Γ (jv 6)))))))))),λds M q x h=>?_⟩)
 ·have⟨γ,u,B,A4,z,N,rfl,_⟩:=h;rfl
 ·have⟨γ,u,B,A4,z,N,rfl,ro,u1,dl,sol,hN,Yp,WL,h⟩:=h;have n1:=ro.n1;have BC:=ro.BC;have RV:=ro.RV;have r0:0<γ.length:=()
  have m0:γ[0].length=u+1:=ro.ml _ (aaG r0);walk_at "vc";refine(Θ (d:=jV γ) rfl (ER r0) ?_:cE (jV γ) (.int 0) _ _);refine(ar (d:=cG γ[0]) (xs:=γ[0].map Dt.int) rfl ?_:fB [cG γ[0]] _ _);rw[aac,m0];dsimp only[xS];rw[show(((u+1:Nat):Int)-1)=(u:Int) by omega];refine⟨γ,u,B,rfl,ro,λρ ν qq d W t=>?_⟩;have D4:ν=List.range u:=by
   rcases t.all with e| ⟨x,hx,hf⟩
   ·exact e
   ·have⟨y,y1,y2⟩:=t.kernel hx hf;have:=WL y y2 x hx;rw[this]at y1;exact aaL () t.d0
  have hl:ρ.length=u:=by rw[<-t.st.lc,D4,abc]
  have un:u<=γ.length:=by rw[<-hl];exact t.st.rn
  refine mS (d':=.tup [jV (Bz.ah (Bz.arr γ) γ.length (u+1) W),.lst (ν.map nj)]) (.tup (.cons (.old (jw _)) (.cons (.JZ (Nat.le_refl _) (by simp) (jA.old (DH _))) .nil))) ?_;have told:(List.range u).map (λi=>Ξ (aB (Bz.rv (Bz.arr γ) γ.length (W i) u) d))=A4.map Ξ:=by
   apply abq
   ·simp[dl]
   ·intro i h1 h2;have hi:i<u:=by simpa using h1
    simp only[List.getElem_map,List.getElem_range];have⟨p0,p1,p2⟩:=Yp i hi;have gi:A4.getD i (0,1)=A4[i]:=by rw[aab,aaa ()];rfl
    rw[gi]at p0 p1 p2;have e:=t.told D4 sol hi
    congr 1
    have:aB (Bz.rv (Bz.arr γ) γ.length (W i) u) d=(A4[i].1,A4[i].2):=wU t.d0 p0 p1 (by
     refine aaU hN ?_
     grind)
    exact this
  refine(Θ (d:=.tup [jV (Bz.ah (Bz.arr γ) γ.length (u+1) W),.lst (ν.map nj)]) rfl bw ?_:cE (.tup [jV (Bz.ah (Bz.arr γ) γ.length (u+1) W),.lst (ν.map nj)]) (.int 0) _ _);refine(Θ (d:=.tup [jV (Bz.ah (Bz.arr γ) γ.length (u+1) W),.lst (ν.map nj)]) rfl (Ν (j:=1) rfl) ?_:cE (.tup [jV (Bz.ah (Bz.arr γ) γ.length (u+1) W),.lst (ν.map nj)]) (.int 1) _ _);have lcu:(ν.map nj).length=u:=by rw[aac,D4,abc]
  dsimp only[qe,fc,Sl,TR];walk_at "vc";refine(ar (d:=.lst (ν.map nj)) (xs:=ν.map nj) rfl ?_:fB [.lst (ν.map nj)] _ _);refine⟨(Bz.ah (Bz.arr γ) γ.length (u+1) W).map cG,(ν.map nj).length,rfl,rfl,?_⟩;rw[lcu,<-acv];refine cY (jw _) ?_;have hz:∀l∈(Bz.ah (Bz.arr γ) γ.length (u+1) W).drop u,u<l.length/\l.getD u 0=0:=λl WI=>by
   have⟨j,hj,e⟩:=abl WI;rw[List.getElem_drop]at e;rw[abP,Bz.dI]at hj;have hu:u+j<γ.length:=()
   have el:l=Bz.aG (Bz.arr γ) γ.length (u+1) (W (u+j)):=by have:=Bz.kI (A:=Bz.arr γ) (m:=u+1) (W:=W) hu;rw[aab,aaa (by rw[Bz.dI];exact hu)]at this;rw[<-e];exact this
   rw[el];refine⟨by rw[Bz.eZ];omega,?_⟩;rw[Bz.iw ()];exact t.rest sol hN () hu
  refine bK (λzs ρ' M'=>M'=M/\∃(rest:List (List Int)) (o:Option Dt),zs=rest.map cG/\(∀l∈rest,u<l.length/\l.getD u 0=0)/\ρ'=[some (jV γ),some (.int (u:Int)),some (.tup [jV (Bz.ah (Bz.arr γ) γ.length (u+1) W),.lst (ν.map nj)]),some (jV (Bz.ah (Bz.arr γ) γ.length (u+1) W)),some (.lst (ν.map nj)),o,none]) (λzs ρ' M' hj=>trivial) (λx zs ρ' M' hj e9=>?_) (λρ' M' hj=>?_) _ _ _ ⟨rfl,_,none,rfl,hz,rfl⟩
  ·have⟨rfl,rest,o,ex,fV,rfl⟩:=hj;cases rest with
   |nil=>cases ex
   |cons l rest=>
    cases ex;have⟨l1,l2⟩:=fV l aae;have lv:l[u]=0:=by rw[aab,aaa l1]at l2;exact l2
    walk_at "vc";refine(Θ (d:=cG l) rfl (gm l1) ?_:cE (cG l) (.int (u:Int)) _ _);rw[lv];exact⟨λz=>(nomatch z),λ_=>e9 _ _ ⟨rfl,rest,_,rfl,λy hy=>fV y (aad _ hy),rfl⟩⟩
  ·have⟨rfl,rest,o,ex,fV,rfl⟩:=hj;refine⟨γ,u,B,ρ,ν,qq,d,W,rfl,ro,t,D4,?_⟩;rw[told];walk_at "vc";refine(ar (d:=.lst (ν.map nj)) (xs:=ν.map nj) rfl ?_:fB [.lst (ν.map nj)] _ _);rw[lcu];refine⟨λz=>?_,λ_=>h⟩;have z:(u:Int)<u:=aaz z;omega
def J6(cs ns:List Fr):qp (cs.map Ξ) (ns.map Ξ)=(cs.zip ns).map λp=>.tup [Ξ p.1,Ξ p.2]:=by unfold qp;rw[List.zip_map,aaM];rfl
structure Ch(B:Int)(c:Fr):Prop where
 pos:0<c.2
 he:h9 c B
 u:g_ c
 sz:Sz 300 c
def uk{E B C:Int}(b0:0<B)(e0:0<E)(be:B*E<2^2200)(c0:0<=C)(c1:C<2^300):∀(ps:List (Fr×Fr)) (w:Fr) (j:Nat),j+ps.length<=6->Nb (B*E) (j*C) w->(∀p∈ps,Ch B p.1/\Nb E C p.2)->Nb (B*E) ((j+ps.length:Nat)*C) (ps.foldl (λw p=>eO w (aN p.1 p.2)) w)
 |[],w,j,_,hw,_=>hw
 |p::ps,w,j,hj,hw,h=>by
  rw[aaB]at hj;have⟨h1,h2⟩:=h p aae;have jc:((j:Int)+1)*C=j*C+C:=by rw[Int.add_mul,Int.one_mul]
  have jm:((j:Int)+1)*C<=6*C:=aaO () c0;have j0:0<=(j:Int)*C:=abi () c0;have ht:=yV h1.pos h1.he h1.u h2 ⟨aaP b0 e0,be,c0,acq c1 @_⟩;have hp:=Lq hw ht ⟨aaP b0 e0,be,(),()⟩;rw[<-jc]at hp;have:=uk b0 e0 be c0 c1 ps _ (j+1) () (by exact_mod_cast hp) (λq hq=>h q (aad _ hq));rw[abE,aaB,show j+(ps.length+1)=j+1+ps.length by omega];exact this
def uc:DF:=λas M q _=>∃(cs ns:List Fr) (E B C:Int),as=[.lst (cs.map Ξ),.lst (ns.map Ξ)]/\cs.length<=6/\0<B/\0<E/\B*E<2^2200/\0<=C/\C<2^300/\(∀c∈cs,Ch B c)/\(∀n∈ns,Nb E C n)/\q (Ξ (iG (cs.zip ns))) M
def i9:Ε ["chances","numbers","whole","chance","number"] ["chances","numbers"] (ψ rP):=.of rfl
def CA(F:cZ K "weighed" "weighed" rP f fd)(E:Ev K mg w Cm){KS:Addr}{Ii:FuncData}(pC:aw P w K mg base 3 "plus" ["one","other"] HZ KS Ii)(gA:aw P w K mg base 3 "times" ["one","other"] xq t_ rN):av P w K mg base (cC P w) 4 f fd ["chances","numbers"] (cW K uc):=by
 refine F.dR i9 (λds M q x h=>?_) (λbz A outer s H E' hr=>⟨_,(η (ω 2 i9.nd (eI (ι ο (ι ο θ da) da)))
   (η (c8 (CV E.u9 (Ρ (jv 0) (Ρ (jv 1) θ))) (mQ rfl (b8 (ai (i:=3) i9.nd rfl (Or.inl rfl)) (b8 (ai (i:=4) i9.nd rfl (Or.inl rfl)) jJ))) oX (μ (ω 2 i9.nd (aa pC hr ξ (Ρ (jv 2) (ι (aa gA hr ξ (Ρ (jv 3) (Ρ (jv 4) θ))) θ aY))))))
   (μ (Γ (jv 2))))),λds M q x h=>?_⟩)
 ·have⟨cs,ns,E,B,C,rfl,_⟩:=h;rfl
 ·have⟨cs,ns,Ep,B,C,rfl,hz,b0,e0,be,c0,c1,hc,hn,h⟩:=h;refine⟨gV,?_⟩;refine⟨.lst (cs.map Ξ),.lst (ns.map Ξ),cs.map Ξ,ns.map Ξ,λ_=>True,λ_=>True,rfl,rfl,rfl,?_⟩;rw[J6];refine bK (λxs ρ M'=>M'=M/\∃(rest:List (Fr×Fr)) (w:Fr) (a b:Option Dt) (j:Nat),xs=rest.map (λp=>.tup [Ξ p.1,Ξ p.2])/\(∀p∈rest,Ch B p.1/\Nb Ep C p.2)/\Nb (B*Ep) (j*C) w/\j+rest.length<=6/\rest.foldl (λw p=>eO w (aN p.1 p.2)) w=iG (cs.zip ns)/\ρ=[some (.lst (cs.map Ξ)),some (.lst (ns.map Ξ)),some (Ξ w),a,b]) (λxs ρ M' hj=>⟨trivial,trivial⟩) (λx xs ρ M' hj e9=>?_) (λρ M' hj=>?_) _ _ _ ⟨rfl,cs.zip ns,(0,1),none,none,0,rfl,λp hp=>⟨hc _ (abK hp).1,hn _ (abK hp).2⟩,by rw[Int.natCast_zero,Int.zero_mul];exact TK,?_,rfl,rfl⟩
  ·have⟨rfl,rest,w,a,b,j,ex,ux,hw,hj,hf,rfl⟩:=hj;cases rest with
   |nil=>cases ex
   |cons p rest=>
    cases ex;have⟨h1,h2⟩:=ux p aae;rw[aaB]at hj;have ht:=yV h1.pos h1.he h1.u h2 ⟨aaP b0 e0,be,c0,acq c1 @_⟩;refine⟨p.1,p.2,300,2600,rfl,h1.sz,h2.sz,@_,w,aN p.1 p.2,2600,2600,rfl,hw.sz,ht.sz,@_,?_⟩;refine e9 _ _ ⟨rfl,rest,_,_,_,j+1,rfl,λp hp=>ux p (aad _ hp),?_,(),hf,rfl⟩;exact uk b0 e0 be c0 c1 [p] w j (by simp;omega) hw (λq hq=>by rw[List.mem_singleton.mp hq];exact⟨h1,h2⟩)
  ·have⟨rfl,rest,w,a,b,j,ex,ux,hw,hj,hf,rfl⟩:=hj;cases rest with
   |nil=>rw[<-hf]at h;exact h
   |cons p rest=>cases ex
  ·rw[abe];omega
def p8:List Int->Int
 |[]=>1
 |a::l=>a*p8 l
def ue:∀{l:List Int},(∀a∈l,0<a)->0<p8 l
 |[],_=>@_
 |a::l,h=>aaP (h a aae) (ue λb hb=>h b (aad _ hb))
def D6:∀{l:List Int},(∀a∈l,0<a/\a<=1000000)->p8 l<=1000000^l.length
 |[],_=>@_
 |a::l,h=>by have i:=D6 λb hb=>h b (aad _ hb);have p:=ue (l:=l) λb hb=>(h b (aad _ hb)).1;have h0:=h a aae;show a*p8 l<=_;rw[aaB,abX,aa6 a];exact abB i h0.2 (aak h0.1) (abY @_)
def ze:∀{l:List Int}{a:Int},a∈l->a∣p8 l
 |b::l,a,h=>by
  rcases aaK.mp h with e| e
  ·rw[e];exact⟨p8 l,rfl⟩
  ·have⟨c,hc⟩:=ze e;exact⟨b*c,by show b*p8 l=_;rw[hc];grind⟩
def Aj{p:Fr}(h:p.2∣E):h9 p E:=by have⟨k,e⟩:=h;exact⟨p.1*k,by rw[e];grind⟩
def rj:∀{l:List Int}{a:Int},(∀b∈l,0<b)->a∈l->a<=l.sum
 |b::l,a,h,ha=>by
  have ih:∀{l:List Int},(∀b∈l,0<b)->0<=l.sum:=λ{l}=>by
   induction l with
   |nil=>intro _;exact Int.le_refl _
   |cons c l ih=>
    intro h;have:=ih λd hd=>h d (aad _ hd);have:=h c aae;rw[List.sum_cons];omega
  rw[List.sum_cons];have h0:=h b aae;rcases aaK.mp ha with e| e
  ·have:=ih λd hd=>h d (aad _ hd);omega
  ·have:=rj (λd hd=>h d (aad _ hd)) e;omega
def D3{cs:List Fr}(o:FO cs){c:Fr}(hc:c∈cs):0<c.2/\c.2∣bQ cs/\g_ c/\Sz 300 c:=by
 have⟨a,b,d⟩:=o.Lh.2 c hc;have B0:=o.b0;have⟨_,_,hB⟩:=je cs 1 0 @_ (acA _) λc hc=>⟨(o.Lh.2 c hc).1,acA _⟩;have dv:c.2∣bQ cs:=hB c hc
 have le:=rj (l:=cs.map (mM (bQ cs))) (λb hb=>by
  have⟨x,hx,rfl⟩:=aaj.mp hb
  exact o.pos x hx) (aaj.mpr ⟨c,hc,rfl⟩)
 rw[o.sum]at le;have wp:=o.pos c hc;unfold mM at le wp;have⟨m,em⟩:=dv;have em':bQ cs/c.2=m:=by rw[em];exact abA m ()
 rw[em']at le wp;have m0:0<m:=by
  rw[em]at B0;rcases acp 0 m with z| z
  ·exact z
  ·have:=aaC z (aak a);omega
 have c0:0<=c.1:=by
  rcases acp c.1 0 with z| z
  ·have:=aaO (aak z) (aak m0);omega
  ·exact z
 have c1:c.1<=c.2:=by rw[em]at le;exact Int.le_of_mul_le_mul_right le m0
 refine⟨a,⟨m,em⟩,⟨c0,c1⟩,qO (k:=200) ⟨d,a,?_⟩ @_⟩;have:(c.2.natAbs:Int)<((2^200:Nat):Int):=by rw[abm (aak a)];exact b
 exact abR.mp this
abbrev Pl:=List (Int×Int)
def kP(pl:Pl):List Key:=pl.map λp=>Sum.inl p.1
def vP(pl:Pl):List Dt:=pl.map λp=>Dt.int p.2
abbrev dP(pl:Pl):MO:=.bX (kP pl) (vP pl)
def Ι:Pl->Int->Option Int
 |[],_=>none
 |p::r,i=>if p.1=i then some p.2 else Ι r i
def e_(pl:Pl)(i v:Int):Pl:=if (Ι pl i).isSome=true then pl.map (λp=>if p.1=i then (p.1,v) else p) else pl++[(i,v)]
def Kb{a:Int}:(decide ((Sum.inl a:Key)=Sum.inl b))=decide (a=b):=by
 by_cases h:a=b
 ·rw[aaD h,aaD (aa0 Sum.inl h)]
 ·rw[aaJ h,aaJ λz=>h (Sum.inl.inj z)]
def kE{i:Int}:∀{pl:Pl},aH (kP pl) (vP pl) (Sum.inl i)=(Ι pl i).map Dt.int
 |[]=>rfl
 |p::r=>by
  have ih:=kE (i:=i) (pl:=r);unfold aH at ih⊢;show(List.find? (λq:Key×Dt=>decide (q.1=Sum.inl i)) ((Sum.inl p.1,Dt.int p.2)::(kP r).zip (vP r))).map (·.2)=Option.map Dt.int (if p.1=i then some p.2 else Ι r i);rw[List.find?_cons,Kb];by_cases h:p.1=i
  ·rw[aaD h,aax h];rfl
  ·rw[aaJ h,aaw h];exact ih
def Cq{i:Int}:∀{pl:Pl},Hf (kP pl) (Sum.inl i)=(Ι pl i).isSome
 |[]=>rfl
 |p::r=>by
  have ih:=Cq (i:=i) (pl:=r);unfold Hf at ih⊢;show(decide ((Sum.inl p.1:Key)=Sum.inl i)|| (kP r).any λc=>decide (c=Sum.inl i))=(if p.1=i then some p.2 else Ι r i).isSome;rw[Kb,ih];by_cases h:p.1=i
  ·rw[aaD h,aax h];rfl
  ·rw[aaJ h,aaw h,Bool.false_or]
def D9{i v:Int}:∀{pl:Pl},lT (Sum.inl i:Key) (Dt.int v) (kP pl) (vP pl)=vP (pl.map λp=>if p.1=i then (p.1,v) else p)
 |[]=>rfl
 |p::r=>by
  show(if (Sum.inl p.1:Key)=Sum.inl i then Dt.int v else Dt.int p.2)::lT (Sum.inl i:Key) (Dt.int v) (kP r) (vP r)=Dt.int (if p.1=i then (p.1,v) else p).2::vP (r.map λp=>if p.1=i then (p.1,v) else p);rw[D9];by_cases h:p.1=i
  ·rw[aax h,aax (aa0 Sum.inl h)]
  ·rw[aaw h,aaw λz=>h (Sum.inl.inj z)]
def AX{i v:Int}:∀{pl:Pl},kP (pl.map λp=>if p.1=i then (p.1,v) else p)=kP pl
 |[]=>rfl
 |p::r=>by show(Sum.inl (if p.1=i then (p.1,v) else p).1:Key)::kP (r.map λp=>if p.1=i then (p.1,v) else p)=Sum.inl p.1::kP r;rw[AX];split <;> rfl
def p9{pl:Pl}{i v:Int}:eV (kP pl) (Sum.inl i)=kP (e_ pl i v):=by
 unfold eV e_;rw[Cq];split
 ·exact AX.symm
 ·unfold kP;rw[List.map_append];rfl
def rM{pl:Pl}{i v:Int}:dM (kP pl) (Sum.inl i) (vP pl) (Dt.int v)=vP (e_ pl i v):=by
 unfold dM e_;rw[Cq];split
 ·exact D9
 ·unfold vP;rw[List.map_append];rfl
def qV{i v j:Int}:∀{pl:Pl},Ι (pl.map λp=>if p.1=i then (p.1,v) else p) j=if j=i then (Ι pl j).map λ_=>v else Ι pl j
 |[]=>by split <;> rfl
 |p::r=>by
  have ih:=qV (i:=i) (v:=v) (j:=j) (pl:=r);rw[aaH];unfold Ι;by_cases h:p.1=i
  ·rw[aax h];by_cases hj:p.1=j
   ·rw[aax hj,aax hj,aax ()];rfl
   ·rw[aaw hj,aaw hj];exact ih
  ·rw[aaw h];by_cases hj:p.1=j
   ·rw[aax hj,aax hj,aaw ()]
   ·rw[aaw hj,aaw hj];exact ih
def D7{i j v:Int}:∀{pl:Pl},Ι (pl++[(i,v)]) j=if (Ι pl j).isSome=true then Ι pl j else if i=j then some v else none
 |[]=>rfl
 |p::r=>by
  have ih:=D7 (i:=i) (j:=j) (v:=v) (pl:=r);rw[List.cons_append];unfold Ι;by_cases hj:p.1=j
  ·rw[aax hj,aax hj];rfl
  ·rw[aaw hj,aaw hj];exact ih
def k7{pl:Pl}{i v j:Int}:Ι (e_ pl i v) j=if j=i then some v else Ι pl j:=by
 unfold e_;split
 ·rename_i h;rw[qV];split
  ·rename_i e;subst e;have⟨x,hx⟩:=abz.mp h;rw[hx];rfl
  ·rfl
 ·rename_i h;rw[D7];by_cases e:j=i
  ·subst e;rw[aaw h,aax rfl,aax rfl]
  ·rw[aaw e];cases hj:Ι pl j with
   |none=>rw[if_neg (by simp),if_neg ()]
   |some x=>rfl
def qc(pl:Pl):Prop:=(pl.map (·.1)).Nodup
def ES{i v:Int}:∀{pl:Pl},Ι pl i=some v->(i,v)∈pl
 |[],h=>by cases h
 |p::r,h=>by
  unfold Ι at h;split at h
  ·rename_i e;have:p=(i,v):=by rw[<-e,<-aar h]
   rw[this];exact aae
  ·exact aad _ (ES h)
def DG{i v:Int}:∀{pl:Pl},qc pl->(i,v)∈pl->Ι pl i=some v
 |[],_,h=>by cases h
 |p::r,nd,h=>by
  unfold qc at nd;rw[aaH,abC]at nd;unfold Ι;rcases aaK.mp h with e| e
  ·rw[aax (by rw[<-e])];rw[<-e]
  ·have:p.1≠i:=λz=>nd.1 (by rw[z];exact aaj.mpr ⟨_,e,rfl⟩);rw[aaw this];exact DG nd.2 e
def Lb{i:Int}{pl:Pl}(h:Ι pl i=none):i∉pl.map (·.1):=λz=>by
 have⟨p,hp,e⟩:=aaj.mp z;have:∀{pl:Pl},p∈pl->Ι pl i≠none:=λ{pl}=>by
  induction pl with
  |nil=>intro h;cases h
  |cons q r ih=>
   intro h;unfold Ι;rcases aaK.mp h with e'| e'
   ·rw[if_pos (by rw[<-e'];exact e)];simp
   ·split
    ·simp
    ·exact ih e'
 exact this hp h
def Dd{pl:Pl}{i v:Int}(h:qc pl):qc (e_ pl i v):=by
 unfold qc e_;split
 ·have e:(pl.map λp=>if p.1=i then (p.1,v) else p).map (·.1)=pl.map (·.1):=by rw[aaM];refine abg λp _=>?_;show(if p.1=i then (p.1,v) else p).1=p.1;split <;> rfl
  rw[e];exact h
 ·rename_i hn;have hn:Ι pl i=none:=by
   cases hg:Ι pl i with
   |none=>rfl
   |some x=>rw[hg]at hn;exact aaL rfl hn
  rw[aa8];refine List.nodup_append.mpr ⟨h,by simp,λa ha b hb z=>?_⟩;have:b=i:=by simpa using hb
  exact Lb hn (by rw[<-this,<-z];exact ha)
def RL(p1 p2:Pl):Bool:=decide (p1.length=p2.length)&&(List.range p1.length).all λj=>decide (Ι p2 (p1.getD j (0,0)).1=some (p1.getD j (0,0)).2)
def NO{pl:Pl}{k:Key}(h:(kP pl)[j]? =some k):j<pl.length/\k=Sum.inl (pl.getD j (0,0)).1:=by unfold kP at h;rw[aaq]at h;have⟨p,hp,e⟩:=abU.mp h;refine⟨(aaf.mp hp).1,?_⟩;rw[aab,hp];exact e.symm
def Vs{pl:Pl}(h:(vP pl)[j]? =some d):d= .int (pl.getD j (0,0)).2:=by unfold vP at h;rw[aaq]at h;have⟨p,hp,e⟩:=abU.mp h;rw[aab,hp];exact e.symm
def LB(a b:Int):qo (V.int a) (V.int b)=decide (a=b):=by
 unfold qo;by_cases h:a=b
 ·subst h;simp
 ·simp[h]
def Sh{k1 k2:Nat}{p1 p2:Pl}(h1:M[k1]? =some (dP p1))(h2:M[k2]? =some (dP p2)):K6 M (n+1) (.loc k1) (.loc k2) (RL p1 p2):=by
 have l1:(kP p1).length=p1.length:=by unfold kP;simp
 have l2:(kP p2).length=p2.length:=by unfold kP;simp
 by_cases hl:p1.length=p2.length
 ·have:=K6.bX (M:=M) (n:=n) (f:=λj=>decide (Ι p2 (p1.getD j (0,0)).1=some (p1.getD j (0,0)).2)) h1 h2 (by rw[l1,l2];exact hl) (λj k hk hn=>by
   have⟨hj,e⟩:=NO hk;subst e;rw[kE]at hn;have hn:Ι p2 (p1.getD j (0,0)).1=none:=by
    cases hg:Ι p2 (p1.getD j (0,0)).1 with
    |none=>rfl
    |some x=>rw[hg]at hn;cases hn
   rw[hn];rfl) (λj k d d' hk hd hg=>by
   have⟨hj,e⟩:=NO hk;have ed:=Vs hd;subst e ed;rw[kE]at hg;have⟨x,hx,ex⟩:=abU.mp hg;subst ex;have:decide (Ι p2 (p1.getD j (0,0)).1=some (p1.getD j (0,0)).2)=qo (V.int (p1.getD j (0,0)).2) (V.int x):=by
    rw[hx,LB];by_cases e:(p1.getD j (0,0)).2=x
    ·rw[decide_eq_true e,e];simp
    ·rw[aaJ e,aaJ λz=>e (aar z).symm]
   show K6 M n _ _ (decide (Ι p2 (p1.getD j (0,0)).1=some (p1.getD j (0,0)).2));rw[this]
   exact K6.flat rfl rfl)
  rw[l1]at this;unfold RL;rw[aaD hl,Bool.true_and];exact this
 ·have e:RL p1 p2=false:=by unfold RL;rw[decide_eq_false hl];rfl
  rw[e];exact K6.len h1 h2 (by rw[l1,l2];exact hl)
def E5{pl:Pl}(h:j<pl.length):pl.getD j (0,0)∈pl:=by rw[aab,aaa h];exact aaG _
def IY{pl:Pl}(nd:qc pl):RL pl pl=true:=by unfold RL;rw[aaD rfl,Bool.true_and,abw];intro j hj;exact aaD (DG nd (E5 (aba.mp hj)))
structure V'(M:Ms)(k:Nat)(p1 p2:Pl):Prop where
 ex:∃k1 k2,M[k]? =some (.bX [Sum.inr "one",Sum.inr "other"] [.loc k1,.loc k2])/\M[k1]? =some (dP p1)/\M[k2]? =some (dP p2)
def aj{E:Ms}{k:Nat}{m:MO}(h:M[k]? =some m):(M++E)[k]? =some m:=by rw[aas (aaf.mp h).1];exact h
def fg(pl:Pl)(i:Nat)(n:Nat):Bool:=match Ι pl i with
 |some v=>decide (0<=v)&&decide (v<n)
 |none=>false
def bt(p1 p2:Pl)(k:Str):Option Pl:=if k="one" then some p1 else if k="other" then some p2 else none
def jP(pf:Str->Option Pl)(i:Nat)(r:Rw):Bool:=match pf (kindOf r) with
 |some pl=>fg pl i (Τ r).length
 |none=>true
def ft(γ:List Rw)(pf:Str->Option Pl)(i:Nat):Bool:=match γ[i]? with
 |some r=>jP pf i r
 |none=>true
def fi(γ:List Rw)(pf:Str->Option Pl):Nat->Pl
 |0=>[]
 |n+1=>match (γ[n]?).bind λr=>pf (kindOf r) with
  |some pl=>e_ (fi γ pf n) n ((Ι pl n).getD 0)
  |none=>fi γ pf n
def wK(γ:List Rw)(pf:Str->Option Pl):∀n,(fi γ pf n).length<=n
 |0=>aan _
 |n+1=>by
  have ih:=wK γ pf n;unfold fi;split
  ·unfold e_;split
   ·rw[aac];omega
   ·rw[aah];exact Nat.succ_le_succ ih
  ·omega
def jK(γ:List Rw)(pf:Str->Option Pl):∀(n i:Nat),Ι (fi γ pf n) i=if i<n then ((γ[i]?).bind λr=>pf (kindOf r)).map λpl=>(Ι pl i).getD 0 else none
 |0,i=>by rw[aaw (abL _)];rfl
 |n+1,i=>by
  have ih:=jK γ pf n i;have step:Ι (fi γ pf (n+1)) i=if i=n then (match (γ[n]?).bind λr=>pf (kindOf r) with| some pl=>some ((Ι pl n).getD 0)| none=>Ι (fi γ pf n) i) else Ι (fi γ pf n) i:=by
   rw[fi];cases hb:(γ[n]?).bind λr=>pf (kindOf r) with
   |none=>dsimp only;split <;> rfl
   |some pl=>
    dsimp only;rw[k7];by_cases e:i=n
    ·rw[aax e,aax ()]
    ·rw[aaw e,aaw ()]
  rw[step,ih];by_cases e:i=n
  ·subst e;rw[aax rfl,aaw (abI _),aax (abu _)];cases(γ[i]?).bind λr=>pf (kindOf r) with
   |none=>rfl
   |some pl=>rfl
  ·rw[aaw e];by_cases h:i<n
   ·rw[aax h,aax ()]
   ·rw[aaw h,aaw ()]
def Nw(k:Str):Hf [Sum.inr "one",Sum.inr "other"] (Sum.inr k)=Β k:=by
 have e:∀z:Str,decide ((Sum.inr z:Key)=Sum.inr k)=(k==z):=λz=>by
  by_cases h:z=k
  ·rw[decide_eq_true (congrArg Sum.inr h),h];simp
  ·rw[decide_eq_false λy=>h (Sum.inr.inj y)];simp;exactλy=>h y.symm
 show(decide ((Sum.inr (Str.ofString "one"):Key)=Sum.inr k)|| (decide ((Sum.inr (Str.ofString "other"):Key)=Sum.inr k)|| false))=Β k;rw[e,e,Bool.or_false];rfl
def pO{p1 p2:Pl}{k:Str}(h:Β k=false):bt p1 p2 k=none:=by unfold Β at h;rw[Bool.or_eq_false_iff,beq_eq_false_iff_ne,beq_eq_false_iff_ne]at h;unfold bt;rw[aaw h.1,aaw h.2]
def DC{k:Nat}{p1 p2:Pl}(h:V' M k p1 p2){z:Str}(hz:Β z=true):∃ks ds k' pl,M[k]? =some (.bX ks ds)/\aH ks ds (Sum.inr z)=some (.loc k')/\bt p1 p2 z=some pl/\M[k']? =some (dP pl):=by
 have⟨k1,k2,a,b,c⟩:=h;unfold Β at hz;rw[acw,aby,aby]at hz;rcases hz with rfl| rfl
 ·exact⟨_,_,k1,p1,a,rfl,rfl,b⟩
 ·exact⟨_,_,k2,p2,a,rfl,rfl,c⟩
def Q5(M:Ms)(k:Nat)(pf:Str->Option Pl):Prop:=∃ks ds,M[k]? =some (.bX ks ds)/\∀z:Str,Hf ks (Sum.inr z)=(pf z).isSome/\∀pl,pf z=some pl->∃k',aH ks ds (Sum.inr z)=some (.loc k')/\M[k']? =some (dP pl)
def Q5.app{E:Ms}{k:Nat}{pf:Str->Option Pl}(h:Q5 M k pf):Q5 (M++E) k pf:=by have⟨ks,ds,a,b⟩:=h;refine⟨ks,ds,aj a,λz=>⟨(b z).1,λpl e=>?_⟩⟩;have⟨k',c,d⟩:=(b z).2 pl e;exact⟨k',c,aj d⟩
def V'.pls{k:Nat}{p1 p2:Pl}(h:V' M k p1 p2):Q5 M k (bt p1 p2):=by
 have⟨k1,k2,a,b,c⟩:=id h;refine⟨_,_,a,λz=>⟨?_,λpl e=>?_⟩⟩
 ·rw[Nw];cases hz:Β z with
  |false=>rw[pO hz];rfl
  |true=>
   have⟨_,_,_,_,_,_,g3,_⟩:=DC h hz;rw[g3];rfl
 ·cases hz:Β z with
  |false=>rw[pO hz]at e;cases e
  |true=>
   have⟨ks,ds,k',yD,g1,g2,g3,g4⟩:=DC h hz;rw[a]at g1;cases g1;rw[g3]at e;cases e;exact⟨k',g2,g4⟩
def U6(A:Addr):DF:=λas M q _=>∃ε γ i r k pl,as=[aK A ε γ,.loc k,.int (i:Nat)]/\M[k]? =some (dP pl)/\γ[i]? =some r/\gu r/\q (.bl (fg pl i (Τ r).length)) M
def E_:Ε ["floor","plan","place"] ["floor","plan","place"] (ψ tK):=.of rfl
def CW(F:cZ K "has_door" "has_door" tK f fd)(E:Ev K mg w Cm)(aR:dj P w K mg base 2 Cm "doors" ["self","place"] (rZ Cm) dz dE):av P w K mg base (cC P w) 3 f fd ["floor","plan","place"] (cW K (U6 Cm)):=by
 refine F.dR E_ (λds M q x h=>?_) (λbz A outer s H E' hr=>⟨_,(μ (Γ (gc (Ue hr (jv 2) (jv 1)) (gc (yY ο (gh hr (jv 1) (jv 2))) (kG (JL (gh hr (jv 1) (jv 2)) (bP E.br (ι (cU (b9 aR hr ξ (jv 0) (Ρ (jv 2) θ))) θ aY)))))))),λds M q x h=>?_⟩)
 ·have⟨ε,γ,i,r,k,pl,rfl,_⟩:=h;rfl
 ·have⟨ε,γ,i,r,k,pl,rfl,hk,hi,ro,h⟩:=h;unfold fg at h;have gi:(Sum.inl (i:Int):Key)=Sum.inl ((i:Nat):Int):=rfl;refine⟨k,_,_,Sum.inl (i:Int),rfl,hk,rfl,?_⟩;rw[Cq];cases hg:Ι pl i with
  |none=>
   rw[hg]at h;exact⟨λz=>(nomatch z),λ_=>h⟩
  |some v=>
   rw[hg]at h;have h:q (.bl (decide (0<=v)&&decide (v<((Τ r).length:Int)))) M:=h;have dg:aH (kP pl) (vP pl) (Sum.inl (i:Int))=some (.int v):=by rw[kE,hg];rfl
   refine⟨λ_=>?_,λz=>(nomatch z)⟩;refine⟨k,_,_,Sum.inl (i:Int),_,rfl,hk,rfl,dg,?_⟩;refine⟨λz=>?_,λz=>?_⟩
   ·have z:0<=v:=aaz z;rw[aaD z,Bool.true_and]at h;refine⟨k,_,_,Sum.inl (i:Int),_,rfl,hk,rfl,dg,?_⟩;refine⟨⟨_,_,.inl rfl,rfl⟩,ε,γ,i,r,rfl,hi,ro,cY (iB _) ?_⟩;walk_at "vc";refine(ar (d:=.lst ((Τ r).map eG)) (xs:=(Τ r).map eG) rfl ?_:fB [.lst ((Τ r).map eG)] _ _);rw[aac];exact h
   ·have z:¬0<=v:=abf z;rw[aaJ z,Bool.false_and]at h;have key:decide (0<=v)=false:=aaJ z;exact h
def ua(A:Addr):DF:=λas M q _=>∃ε γ k pf,as=[aK A ε γ,.loc k]/\Q5 M k pf/\Qo ε γ/\(∀i,i<γ.length->ft γ pf i=true)/\q (.loc M.length) (M++[dP (fi γ pf γ.length)])
def lx:Ε ["floor","plans","doors","place","hand"] ["floor","plans"] (ψ sC):=.of rfl
def Bu(F:cZ K "doors_of" "doors_of" sC f fd)(E:Ev K mg w Cm)(a_:dj P w K mg base 1 Cm "size" ["self"] (y8 Cm) et eC)(Υ:dj P w K mg base 1 Cm "kind" ["self","place"] (nU Cm) aT aU){Hs:Addr}{J2:FuncData}(pe:aw P w K mg base 3 "has_door" ["floor","plan","place"] (U6 Cm) Hs J2):av P w K mg base (cC P w) 4 f fd ["floor","plans"] (cW K (ua Cm)):=by
 refine F.dR lx (λds M q x h=>?_) (λbz A outer s H E' hr=>⟨_,(η (ω 2 lx.nd xH)
   (η (gf (bY E.bM (ι (kZ a_ hr ξ (jv 0)) θ aY)) (ai (i:=3) lx.nd rfl (Or.inl rfl)) aI (η (ω 4 lx.nd (b9 Υ hr ξ (jv 0) (Ρ (jv 3) θ)))
   (η (ax (pG hr (jv 4) (jv 1)) (μ qg) Ο)
   (η (ax (eU (bH (aa pe hr ξ (Ρ (jv 0) (ι (gh hr (jv 1) (jv 4)) (Ρ (jv 3) θ) aZ))))) (μ hI) Ο)
   (μ (jD hr (jv 2) (jv 3) (gh hr (gh hr (jv 1) (jv 4)) (jv 3))))))))
   (μ (Γ (jv 2))))),λds M q x h=>?_⟩)
 ·have⟨ε,γ,k,pf,rfl,_⟩:=h;rfl
 ·have⟨ε,γ,k,pf,rfl,tw,pl,gd0,hg⟩:=h;have qj:=pl.len;have km:k≠M.length:=λe=>by have⟨ks,ds,a,_⟩:=tw;rw[e,List.getElem?_eq_none (aan _)]at a;cases a
  walk_at "vc";refine⟨⟨_,_,.inl rfl,rfl⟩,ε,γ,rfl,?_⟩;refine⟨(),?_⟩;rw[show((γ.length:Int)).toNat=γ.length by omega];refine cz (λzs ρ' M'=>∃(i m:Nat) (o3 o4:Option Dt),zs=dN (i:Int) m/\i+m=γ.length/\M'=M++[dP (fi γ pf i)]/\ρ'=[some (aK Cm ε γ),some (.loc k),some (.loc M.length),o3,o4]) (λx zs ρ' M' hj e9=>?_) (λρ' M' hj=>?_) _ _ _ ⟨0,γ.length,none,none,rfl,(),rfl,rfl⟩
  ·have⟨i,m,o3,o4,ex,im,rfl,rfl⟩:=hj;have⟨m',rfl,rfl,rfl⟩:=bV ex;have il:i<γ.length:=()
   have hi:γ[i]? =some γ[i]:=aaa il;generalize hr0:γ[i]=r at *
   have rm:r∈γ:=aag hi;have ro:=(pl.row r rm).1;have ga:ft γ pf i=jP pf i r:=by unfold ft;rw[hi]
   have ac:∀yD,pf (kindOf r)=some yD->fi γ pf (i+1)=e_ (fi γ pf i) i ((Ι yD i).getD 0):=λyD e=>by rw[fi,hi];show(match pf (kindOf r) with| some pl=>_| none=>_)=_;rw[e]
   have an:pf (kindOf r)=none->fi γ pf (i+1)=fi γ pf i:=λe=>by rw[fi,hi];show(match pf (kindOf r) with| some pl=>_| none=>_)=_;rw[e]
   have⟨ks,ds,ca,cb⟩:=(tw.app:Q5 (M++[dP (fi γ pf i)]) k pf);refine⟨⟨_,_,.inl rfl,rfl⟩,ε,γ,i,r,rfl,hi,?_⟩;refine⟨k,_,_,Sum.inr (kindOf r),rfl,ca,rfl,?_⟩;rw[(cb (kindOf r)).1];cases hh:pf (kindOf r) with
   |none=>
    refine⟨λ_=>?_,λz=>(nomatch z)⟩;have e:=hh;refine e9 _ _ ⟨i+1,m',_,_,by rw[abN];rfl,(),by rw[an e],rfl⟩
   |some yD=>
    refine⟨λz=>(nomatch z),λ_=>?_⟩;have⟨k',g2,g4⟩:=(cb (kindOf r)).2 yD hh;have g1:=ca;have g3:=hh;refine⟨k,ks,ds,Sum.inr (kindOf r),_,rfl,g1,rfl,g2,?_⟩;have gr:jP pf i r=fg yD i (Τ r).length:=by unfold jP;rw[g3]
    refine⟨ε,γ,i,r,k',yD,rfl,g4,hi,ro,λz=>?_,λz=>?_⟩
    ·have z:fg yD i (Τ r).length=false:=by simpa using z
     have:=gd0 i il;rw[ga,gr,z]at this;cases this
    ·have z:fg yD i (Τ r).length=true:=by simpa using z
     obtain⟨v,hv⟩:∃v,Ι yD i=some v:=by
      unfold fg at z;cases hv:Ι yD i with
      |none=>rw[hv]at z;cases z
      |some v=>exact⟨v,rfl⟩
     have dg:aH (kP yD) (vP yD) (Sum.inl (i:Int))=some (.int v):=by rw[kE,hv];rfl
     dsimp only[lZ,JD];walk_at "vc";refine⟨k,ks,ds,Sum.inr (kindOf r),_,rfl,g1,rfl,g2,?_⟩;refine⟨k',_,_,Sum.inl (i:Int),_,rfl,g4,rfl,dg,?_⟩;refine⟨M.length,_,_,Sum.inl (i:Int),rfl,aE,rfl,?_,?_⟩
     ·unfold kP;rw[List.length_map];have:=wK γ pf i;omega
     rw[p9 (v:=v),rM,de];have e:=ac yD g3;rw[hv]at e;have e:fi γ pf (i+1)=e_ (fi γ pf i) i v:=e;refine e9 _ _ ⟨i+1,m',_,_,by rw[abN];rfl,(),by rw[e],rfl⟩
  ·have⟨i,m,o3,o4,ex,im,rfl,rfl⟩:=hj;have m0:m=0:=by have:=aa0 List.length ex;rw[fU]at this;exact this.symm
   have:i=γ.length:=()
   subst this;exact hg
structure fm(γ:List Rw)(Η:Pl):Prop where
 hand:∀(i:Nat) (r:Rw),γ[i]? =some r->Β (kindOf r)=true->∃j:Nat,Ι Η i=some (j:Int)/\j<(Τ r).length
 Hb:∀(i:Nat) (r:Rw),γ[i]? =some r->Β (kindOf r)=false->Ι Η i=none
def T3{γ:List Rw}{p1 p2:Pl}(h:∀i,i<γ.length->ft γ (bt p1 p2) i=true):fm γ (fi γ (bt p1 p2) γ.length):=by
 refine⟨λi r hi hk=>?_,λi r hi hk=>?_⟩
 ·have il:=(aaf.mp hi).1;have g:=h i il;unfold ft at g;rw[hi]at g;have g:jP (bt p1 p2) i r=true:=g;obtain⟨pl,e⟩:∃pl,bt p1 p2 (kindOf r)=some pl:=by
   unfold Β at hk;rw[acw,aby,aby]at hk;rcases hk with e| e <;> rw[e]
   ·exact⟨p1,rfl⟩
   ·exact⟨p2,rfl⟩
  unfold jP at g;rw[e]at g;have g:fg pl i (Τ r).length=true:=g;unfold fg at g;cases hv:Ι pl i with
  |none=>rw[hv]at g;cases g
  |some v=>
   rw[hv]at g;have g:(decide (0<=v)&&decide (v<((Τ r).length:Int)))=true:=g;rw[aav,aap,aap]at g;refine⟨v.toNat,?_,()⟩;rw[jK,aax il,hi];show Option.map (λpl=>(Ι pl i).getD 0) (bt p1 p2 (kindOf r))=_;rw[e];show some ((Ι pl i).getD 0)=_;rw[hv,ack g.1];rfl
 ·have il:=(aaf.mp hi).1;rw[jK,aax il,hi];show Option.map (λpl=>(Ι pl i).getD 0) (bt p1 p2 (kindOf r))=_;rw[pO hk];rfl
def aD(Η:Pl)(i:Nat)(r:Rw):List bO:=match Ι Η i with
 |some j=>let d:=(Τ r).getD j.toNat d0;[(d.1,d.2.1,d.2.2++[(1,1)])]
 |none=>Τ r
def OF(A:Addr):DF:=λas M q _=>∃ε γ i r k Η,as=[aK A ε γ,.int (i:Nat),.loc k]/\M[k]? =some (dP Η)/\γ[i]? =some r/\gu r/\fm γ Η/\q (.lst ((aD Η i r).map eG)) M
def tX:Ε ["floor","place","doors","ways"] ["floor","place","doors"] (ψ pR):=.of rfl
def AI(F:cZ K "ways_from" "ways_from" pR f fd)(E:Ev K mg w Cm)(aR:dj P w K mg base 2 Cm "doors" ["self","place"] (rZ Cm) dz dE)(Υ:dj P w K mg base 1 Cm "kind" ["self","place"] (nU Cm) aT aU):av P w K mg base (cC P w) 3 f fd ["floor","place","doors"] (cW K (OF Cm)):=by
 refine F.dR tX (λds M q x h=>?_) (λbz A outer s H E' hr=>⟨_,(η (ω 3 tX.nd (cU (b9 aR hr ξ (jv 0) (Ρ (jv 1) θ))))
   (η (ax (H_ (b9 Υ hr ξ (jv 0) (Ρ (jv 1) θ)) (KC E.yp)) (μ (Γ (lQ (ι (ck (Ζ (jv 3) (gh hr (jv 2) (jv 1))) (dH 3 (d:=.tup [.tup [.int 1,.int 1]]) (by rfl))) θ bL)))) Ο)
   (μ (Γ (jv 3))))),λds M q x h=>?_⟩)
 ·have⟨ε,γ,i,r,k,Η,rfl,_⟩:=h;rfl
 ·have⟨ε,γ,i,r,k,Η,rfl,hk,hi,ro,dk,h⟩:=h;refine⟨⟨_,_,.inl rfl,rfl⟩,ε,γ,i,r,rfl,hi,ro,cY (iB _) ?_⟩;refine⟨⟨_,_,.inl rfl,rfl⟩,ε,γ,i,r,rfl,hi,?_⟩;refine⟨_,_,_,rfl,rfl,rfl,?_⟩;rw[tQ];cases hh:Β (kindOf r) with
  |true=>
   refine⟨λ_=>?_,λz=>(nomatch z)⟩;have⟨j,hj,jl⟩:=dk.hand i r hi hh;have dg:aH (kP Η) (vP Η) (Sum.inl (i:Int))=some (.int (j:Int)):=by rw[kE,hj];rfl
   have e:aD Η i r=[(((Τ r).getD j d0).1,((Τ r).getD j d0).2.1,((Τ r).getD j d0).2.2++[(1,1)])]:=by unfold aD;rw[hj];rfl
   rw[e]at h;have gd:(Τ r).getD j d0=(Τ r)[j]:=by rw[aab,aaa jl];rfl
   have dm:(Τ r)[j].2.2.length<=1:=by
    cases r with
    |fin p=>exact aaL jl (abL _)
    |τ k' ds=>exact(ro.2.2.2 _ (aaG jl)).1
   rw[gd]at h;obtain⟨d,hd⟩:∃d,d=(Τ r)[j]:=⟨_,rfl⟩;rw[<-hd]at h dm;walk_at "vc";refine⟨k,_,_,Sum.inl (i:Int),_,rfl,hk,rfl,dg,?_⟩;refine(Θ (d:=.lst ((Τ r).map eG)) rfl (Oi jl) ?_:cE (.lst ((Τ r).map eG)) (.int (j:Int)) _ _);rw[<-hd];have sz:∀{z:Nat},z<=1000->z<=sizeLine:=λh=>aaE h @_;refine⟨⟨λz=>(nomatch z),sz ?_⟩,sz @_,?_⟩
   ·simp;omega
   have e2:eG (d.1,d.2.1,d.2.2++[(1,1)])= .tup ((.int d.1::Ξ d.2.1::d.2.2.map Ξ)++[.tup [.int 1,.int 1]]):=by unfold eG;rw[List.map_append];rfl
   have h:q (.lst [eG (d.1,d.2.1,d.2.2++[(1,1)])]) M:=h;rw[e2]at h;exact h
  |false=>
   refine⟨λz=>(nomatch z),λ_=>?_⟩;have e:aD Η i r=Τ r:=by unfold aD;rw[dk.Hb i r hi hh]
   rw[e]at h;exact h
def eR(f:Nat->Rat):Nat->Rat
 |0=>0
 |n+1=>eR f n+f n
def ay(f:bO->Rat):List bO->Rat
 |[]=>0
 |d::ds=>f d+ay f ds
def eh{f g:Nat->Rat}:∀{n:Nat},(∀i,i<n->f i=g i)->eR f n=eR g n
 |0,_=>rfl
 |n+1,h=>by show eR f n+f n=eR g n+g n;rw[eh λi hi=>h i (ab2 hi),h n (abu _)]
def tS(a b:Rat)(f g:Nat->Rat):∀n,eR (λi=>a*f i-b*g i) n=a*eR f n-b*eR g n
 |0=>by show(0:Rat)=a*0-b*0;grind
 |n+1=>by show eR (λi=>a*f i-b*g i) n+(a*f n-b*g n)=a*(eR f n+f n)-b*(eR g n+g n);rw[tS a b f g n];grind
def zj{t:Nat}(y:Nat->Rat):∀{n:Nat},n<=t->eR (λx=>(if x=t then 1 else 0)*y x) n=0
 |0,_=>rfl
 |n+1,h=>by show eR (λx=>(if x=t then 1 else 0)*y x) n+(if n=t then 1 else 0)*y n=0;rw[zj y (),if_neg ()];grind
def sZ{t:Nat}(y:Nat->Rat):∀{n:Nat},t<n->eR (λx=>(if x=t then 1 else 0)*y x) n=y t
 |0,h=>aaL h (abL _)
 |n+1,h=>by
  show eR (λx=>(if x=t then 1 else 0)*y x) n+(if n=t then 1 else 0)*y n=y t;by_cases e:n=t
  ·subst e;rw[zj y (Nat.le_refl _),if_pos rfl];grind
  ·rw[sZ y (),if_neg e];grind
def oS(f:Nat->Int):∀n,((Bz.Δ f n:Int):Rat)=eR (λi=>(f i:Rat)) n
 |0=>rfl
 |n+1=>by show((Bz.Δ f n+f n:Int):Rat)=eR (λi=>(f i:Rat)) n+f n;rw[Rat.intCast_add,oS f n]
def ab(q:Rat):Rat:=if q<0 then -q else q
def lP{x m:Rat}:ab x<=m↔ -m<=x/\x<=m:=by unfold ab;split <;> grind
def OT(x:Rat):0<=ab x:=by unfold ab;split <;> grind
def IM(x:Nat->Rat):∀n,∃i,i<n+1/\∀j,j<n+1->ab (x j)<=ab (x i)
 |0=>⟨0,(),λj hj=>by rw[show j=0 by omega];grind⟩
 |n+1=>by
  have⟨i,hi,h⟩:=IM x n;by_cases c:ab (x i)<=ab (x (n+1))
  ·refine⟨n+1,(),λj hj=>?_⟩;by_cases e:j=n+1
   ·subst e;grind
   ·have:=h j ();grind
  ·refine⟨i,(),λj hj=>?_⟩;by_cases e:j=n+1
   ·subst e;grind
   ·exact h j ()
def Lc{x:Nat->Rat}{s c:Rat}(s1:s<1)(h:∀i,i<n->∀m,(∀j,j<n->ab (x j)<=m)->ab (x i)<=c+s*m):∀i,i<n->ab (x i)*(1-s)<=c:=λi hi=>by obtain⟨k,rfl⟩:∃k,n=k+1:=⟨n-1,()⟩;have⟨t,ht,Te⟩:=IM x k;have h1:=h t ht _ Te;have h2:=Te i hi;have:=Rat.mul_le_mul_of_nonneg_right h2 (show 0<=1-s by grind);grind
def mn{f g:bO->Rat}:∀{ds:List bO},(∀d∈ds,f d=g d)->ay f ds=ay g ds
 |[],_=>rfl
 |d::ds,h=>by show f d+ay f ds=g d+ay g ds;rw[h d aae,mn λx hx=>h x (aad _ hx)]
def sY(f g:bO->Rat):∀ds:List bO,ay (λd=>f d-g d) ds=ay f ds-ay g ds
 |[]=>by show(0:Rat)=0-0;grind
 |d::ds=>by show(f d-g d)+ay (λd=>f d-g d) ds=(f d+ay f ds)-(g d+ay g ds);rw[sY f g ds];grind
abbrev cV(d:bO):Rat:=val (χ d)
structure Co(n:Nat)(Φ:List bO):Prop where
 to:∀d∈Φ,0<=d.1/\d.1<n
 c0:∀d∈Φ,0<=cV d
 one:ay cV Φ<=1
def Dq{n:Nat}{y:Nat->Rat}{m:Rat}(hm:∀j,j<n->ab (y j)<=m):∀{Φ:List bO},(∀d∈Φ,0<=d.1/\d.1<n)->(∀d∈Φ,0<=cV d)->ab (ay (λd=>cV d*y d.1.toNat) Φ)<=ay cV Φ*m
 |[],_,_=>by show ab 0<=0*m;unfold ab;rw[if_neg (by grind)];grind
 |d::Φ,h1,h2=>by have i:=Dq hm (λx hx=>h1 x (aad _ hx)) (λx hx=>h2 x (aad _ hx));have⟨a,b⟩:=h1 d aae;have c:=h2 d aae;have y1:=lP.mp (hm d.1.toNat ());show ab (cV d*y d.1.toNat+ay (λd=>cV d*y d.1.toNat) Φ)<=(cV d+ay cV Φ)*m;have e1:=aaZ y1.1 c;have e2:=aaZ y1.2 c;have i:=lP.mp i;refine lP.mpr ⟨?_,?_⟩ <;> grind
def EM{Φ:List bO}(w:Co n Φ)(n0:0<n){y:Nat->Rat}{m:Rat}(hm:∀j,j<n->ab (y j)<=m):ab (ay (λd=>cV d*y d.1.toNat) Φ)<=m:=by
 have:=Dq hm w.to w.c0;have m0:0<=m:=by have:=hm 0 n0;have:=OT (y 0);grind
 have:=abO w.one m0;grind
def J4{c:Fr}(h:0<c.2)(hd:c.2∣B):((mM B c:Int):Rat)=val c*B:=by
 have⟨k,rfl⟩:=hd;unfold mM val;rw[abA _ (),aaQ,aaQ];have:=aJ (show c.2≠0 by omega);generalize (c.1:Rat)=a at *
 generalize (c.2:Rat)=b at *
 generalize (k:Rat)=e at *
 grind
def KL{B:Int}:∀{ds:List bO},(∀d∈ds,0<(χ d).2/\(χ d).2∣B)->((((ds.map χ).map (mM B)).sum:Int):Rat)=ay cV ds*B
 |[],_=>by show((0:Int):Rat)=0*B;grind
 |d::ds,h=>by have i:=KL (ds:=ds) λx hx=>h x (aad _ hx);have⟨a,b⟩:=h d aae;show(((mM B (χ d)+((ds.map χ).map (mM B)).sum:Int)):Rat)=(cV d+ay cV ds)*B;rw[Rat.intCast_add,i,J4 a b];grind
def tN{c:Fr}(h:0<c.2)(h0:0<=c.1):0<=val c:=by
 have e:val c*(c.2:Rat)=c.1:=by
  have:=aJ (show c.2≠0 by omega);unfold val;generalize (c.1:Rat)=x at *
  generalize (c.2:Rat)=y at *
  grind
 have p:(0:Rat)<(c.2:Rat):=abG.mpr h;have q:(0:Rat)<=(c.1:Rat):=abh.mpr h0;by_cases z:0<=val c
 ·exact z
 ·have:=Rat.mul_pos (show 0< -val c by grind) p;grind
def LN{ds:List bO}(o:FO (ds.map χ)):ay cV ds=1/\∀d∈ds,0<=cV d:=by
 have⟨_,_,hB⟩:=je (ds.map χ) 1 0 @_ (acA _) λc hc=>⟨(o.Lh.2 c hc).1,acA _⟩;have hm:∀d∈ds,χ d∈ds.map χ:=λd hd=>aaj.mpr ⟨d,hd,rfl⟩;have e:=KL (B:=bQ (ds.map χ)) (ds:=ds) λd hd=>⟨(o.Lh.2 _ (hm d hd)).1,hB _ (hm d hd)⟩;rw[o.sum]at e;have b0:=aJ (show bQ (ds.map χ)≠0 by have:=o.b0;omega);refine⟨?_,λd hd=>?_⟩
 ·generalize ((bQ (ds.map χ):Int):Rat)=b at *
  grind
 ·refine tN (o.Lh.2 _ (hm d hd)).1 ?_;have p:=o.pos _ (hm d hd);unfold mM at p;have q0:0<=bQ (ds.map χ)/(χ d).2:=Int.ediv_nonneg (aak o.b0) (aak (o.Lh.2 _ (hm d hd)).1);rcases acp (χ d).1 0 with z| z
  ·have:=Int.mul_nonpos_of_nonpos_of_nonneg (aak z) q0;omega
  ·exact z
def GQ{p q:Fr}(hp:0<p.2)(hq:0<q.2):val (iE p q)=val p-val q:=by
 unfold iE;rw[kg (abp (aaP hp hq))];have h1:=aJ (show p.2≠0 by omega);have h2:=aJ (show q.2≠0 by omega);rw[Rat.intCast_sub,aaQ,aaQ,aaQ];unfold val;generalize (p.1:Rat)=a at *
 generalize (p.2:Rat)=b at *
 generalize (q.1:Rat)=c at *
 generalize (q.2:Rat)=d at *
 grind
def C7{p q:Fr}(hp:0<p.2)(hq:0<q.2)(h:h9 p E)(h':h9 q E):h9 (iE p q) E:=by have⟨N,e⟩:=h;have⟨N',e'⟩:=h';unfold iE;exact pT (N:=N-N') (Int.ne_of_gt (Int.mul_pos hp hq)) (by grind)
def GW{p q:Fr}{D:Int}(hp:0<p.2)(hq:0<q.2)(h:eJ p C)(h':eJ q D):eJ (iE p q) (C+D):=by
 unfold iE;have a:=cq h.1 (aak hq);have b:=cq h'.1 (aak hp);have c:=cq h.2 (aak hq);have d:=cq h'.2 (aak hp);refine n9 (aaP hp hq) ?_ ?_
 ·have e:p.2*q.2*(C+D)=p.2*C*q.2+q.2*D*p.2:=by grind
  have e2: -(q.2*D)*p.2= -(q.2*D*p.2):=by grind
  omega
 ·have e: -(p.2*q.2*(C+D))= -(p.2*C)*q.2+ -(q.2*D*p.2):=by grind
  omega
structure Nr(E C:Int)(p:Fr):Prop where
 red:Red p
 he:h9 p E
 ab:eJ p C
structure nc(n:Nat)(E C:Int)(v:Nat->Rat)(ns:List Fr):Prop where
 len:ns.length=n
 nr:∀x,x<n->Nr E C (ns.getD x (0,1))
 val:∀x,x<n->val (ns.getD x (0,1))=v x
def tP(ε:Fr)(ns:List Fr)(d:bO):List Fr:=ns.set d.1.toNat (iE (ns.getD d.1.toNat (0,1)) (aN ε (χ d)))
def hG(ε:Fr)(n i:Nat)(Φ:List bO):List Fr:=Φ.foldl (tP ε) ((List.replicate n ((0,1):Fr)).set i (1,1))
def Zx(c:0<=C):Nr E C (0,1):=⟨⟨@_,@_⟩,⟨0,by simp⟩,⟨by show(0:Int)<=1*C;omega,by show -(1*C)<=(0:Int);omega⟩⟩
def YV:Nr E 1 (1,1):=⟨⟨@_,@_⟩,⟨E,by simp⟩,⟨@_,@_⟩⟩
def zQ{ns:List Fr}{t x:Nat}{a:Fr}(h:t<ns.length):(ns.set t a).getD x (0,1)=if x=t then a else ns.getD x (0,1):=by
 rw[aab,List.getElem?_set];by_cases e:x=t
 ·subst e;rw[aax rfl,aax h,aax rfl];rfl
 ·rw[aaw (Ne.symm e),aaw e,<-aab]
def Jh(hi:i<n):nc n E 1 (λx=>if x=i then 1 else 0) ((List.replicate n ((0,1):Fr)).set i (1,1)):=by
 have g:∀x,((List.replicate n ((0,1):Fr)).set i (1,1)).getD x (0,1)=if x=i then (1,1) else (0,1):=λx=>by
  rw[zQ (by simpa using hi)]
  congr 1
  rw[aab,ab3];split <;> rfl
 refine⟨by simp,λx _=>?_,λx _=>?_⟩
 ·rw[g];split
  ·exact YV
  ·exact Zx @_
 ·rw[g];show Pg.val (if x=i then (1,1) else (0,1))=if x=i then 1 else 0
  unfold Pg.val;split
  ·show((1:Int):Rat)/((1:Int):Rat)=1;grind
  ·show((0:Int):Rat)/((1:Int):Rat)=0;grind
structure RE(ε:Fr)(E:Int)(d:bO):Prop where
 s0:0<ε.2
 su:g_ ε
 c0:0<(χ d).2
 cu:g_ (χ d)
 he:h9 (aN ε (χ d)) E
def RE.nr{ε:Fr}{d:bO}(h:RE ε E d):Nr E 1 (aN ε (χ d)):=by have p:=aaP h.s0 h.c0;have u:=CC h.s0 h.c0 h.su h.cu;have r:Red (aN ε (χ d)):=b7 (abp p);have rp:=r.pos;have⟨u1,u2⟩:=u;exact⟨r,h.he,⟨(),()⟩⟩
def yM{ε:Fr}{v:Nat->Rat}{ns:List Fr}{d:bO}(h:nc n E C v ns)(c:0<=C)(hd:0<=d.1/\d.1<n)(sc:RE ε E d):nc n E (C+1) (λx=>v x-Pg.val ε*((if d.1.toNat=x then 1 else 0)*cV d)) (tP ε ns d):=by
 have ht:d.1.toNat<ns.length:=by rw[h.len];omega
 have k:=sc.nr;have g:=λx=>zQ (x:=x) (a:=iE (ns.getD d.1.toNat (0,1)) (aN ε (χ d))) ht;refine⟨by unfold tP;rw[List.length_set];exact h.len,λx hx=>?_,λx hx=>?_⟩
 ·unfold tP;rw[g];have a:=h.nr x hx;split
  ·rename_i e;rw[<-e];have p:=aaP a.red.pos k.red.pos;exact⟨b7 (abp p),C7 a.red.pos k.red.pos a.he k.he,GW a.red.pos k.red.pos a.ab k.ab⟩
  ·have:=aaC (show C<=C+1 by omega) (aak a.red.pos);exact⟨a.red,a.he,⟨abM a.ab.1 this,by have:=a.ab.2;omega⟩⟩
 ·unfold tP;rw[g];have a:=h.nr x hx;have b:=h.val x hx;split
  ·rename_i e;rw[<-e,GQ a.red.pos k.red.pos,b,lC sc.s0 sc.c0,if_pos rfl];grind
  ·rename_i e;rw[b,if_neg (Ne.symm e)];grind
def vf{n:Nat}{ε:Fr}{E:Int}:∀{Φ:List bO}{ns:List Fr}{v:Nat->Rat}{C:Int},(∀d∈Φ,(0<=d.1/\d.1<n)/\RE ε E d)->0<=C->nc n E C v ns->nc n E (C+Φ.length) (λx=>v x-Pg.val ε*ay (λd=>(if d.1.toNat=x then 1 else 0)*cV d) Φ) (Φ.foldl (tP ε) ns)
 |[],ns,v,C,_,_,h=>by
  refine⟨h.len,λx hx=>?_,λx hx=>?_⟩
  ·rw[List.length_nil,Int.natCast_zero,Int.add_zero];exact h.nr x hx
  ·show _=v x-Pg.val ε*0;rw[show v x-Pg.val ε*0=v x by grind];exact h.val x hx
 |d::Φ,ns,v,C,hw,c,h=>by have⟨h1,h2⟩:=hw d aae;have i:=vf (Φ:=Φ) (λx hx=>hw x (aad _ hx)) () (yM h c h1 h2);rw[abE,aaB,show C+((Φ.length+1:Nat):Int)=C+1+Φ.length by omega];refine⟨i.len,i.nr,λx hx=>?_⟩;rw[i.val x hx];show v x-Pg.val ε*((if d.1.toNat=x then 1 else 0)*cV d)-Pg.val ε*ay (λd=>(if d.1.toNat=x then 1 else 0)*cV d) Φ=v x-Pg.val ε*((if d.1.toNat=x then 1 else 0)*cV d+ay (λd=>(if d.1.toNat=x then 1 else 0)*cV d) Φ);grind
def vW(s:Rat)(i:Nat)(Φ:List bO)(x:Nat):Rat:=(if x=i then 1 else 0)-s*ay (λd=>(if d.1.toNat=x then 1 else 0)*cV d) Φ
def Nh{ε:Fr}{Φ:List bO}(hi:i<n)(hw:∀d∈Φ,(0<=d.1/\d.1<n)/\RE ε E d):nc n E (1+Φ.length) (vW (Pg.val ε) i Φ) (hG ε n i Φ):=vf hw @_ (Jh hi)
def Kv{n i:Nat}{s:Rat}(hi:i<n)(y:Nat->Rat):∀{Φ:List bO},(∀d∈Φ,0<=d.1/\d.1<n)->eR (λx=>vW s i Φ x*y x) n=y i-s*ay (λd=>cV d*y d.1.toNat) Φ
 |[],_=>by rw[eh (g:=λx=>(if x=i then 1 else 0)*y x) λx _=>by show((if x=i then 1 else 0)-s*0)*y x=_;grind];rw[sZ y hi];show y i=y i-s*0;grind
 |d::Φ,h=>by
  have⟨a,b⟩:=h d aae;have ih:=Kv (s:=s) hi y (Φ:=Φ) λx hx=>h x (aad _ hx)
  rw[eh (g:=λx=>1*(vW s i Φ x*y x)-(s*cV d)*((if x=d.1.toNat then 1 else 0)*y x)) λx _=>by
   show((if x=i then 1 else 0)-s*((if d.1.toNat=x then 1 else 0)*cV d+ay (λd=>(if d.1.toNat=x then 1 else 0)*cV d) Φ))*y x=1*(((if x=i then 1 else 0)-s*ay (λd=>(if d.1.toNat=x then 1 else 0)*cV d) Φ)*y x)-(s*cV d)*((if x=d.1.toNat then 1 else 0)*y x);by_cases e:x=d.1.toNat
   ·rw[if_pos e,if_pos e.symm];grind
   ·rw[if_neg e,if_neg (Ne.symm e)];grind]
  rw[tS,ih,sZ y (show d.1.toNat<n by omega)];show _=y i-s*(cV d*y d.1.toNat+ay (λd=>cV d*y d.1.toNat) Φ);grind
def mO(ns:List Fr):List Int:=ns.map λc=>c.1*(bQ ns/c.2)
def Ak{ns:List Fr}(h:∀c∈ns,Nr E C c)(e0:0<E)(c0:0<=C):0<bQ ns/\bQ ns<=E/\∀c∈ns,((mM (bQ ns) c:Int):Rat)=val c*(bQ ns:Int)/\ -(C*E)<=mM (bQ ns) c/\mM (bQ ns) c<=C*E:=by
 have b0:0<bQ ns:=fQ ns 1 @_ λc hc=>(h c hc).red.pos;have⟨d1,_,d3⟩:=je ns 1 E @_ (Int.one_dvd _) λc hc=>⟨(h c hc).red.pos,yb (h c hc).red (h c hc).he⟩;have le:=ab6 e0 d1;refine⟨b0,le,λc hc=>⟨J4 (h c hc).red.pos (d3 c hc),?_⟩⟩;have hd:=d3 c hc;have cp:=(h c hc).red.pos;have⟨a1,a2⟩:=(h c hc).ab;have le:bQ ns<=E:=le;have b0:0<bQ ns:=b0;generalize hL:bQ ns=L at *
 have hd:c.2∣L:=by rw[<-hL];exact hd
 have⟨k,rfl⟩:=hd;unfold mM;rw[abA _ ()];have k0:0<=k:=by
  rcases acp k 0 with z| z
  ·have:=abZ cp z;omega
  ·exact z
 have m1:=cq a1 k0;have m2:=cq a2 k0;have m3:=aaC le c0;have e1:c.2*C*k=C*(c.2*k):=by grind
 have e2: -(c.2*C)*k= -(C*(c.2*k)):=by grind
 exact⟨(),()⟩
def mN(ε:Fr)(n i:Nat)(Φ:List bO)(given:Fr):List Int:=mO (hG ε n i Φ++[given])
structure vw(ε:Fr)(n:Nat)(E C:Int)(Φ:List bO)(given:Fr):Prop where
 wo:Co n Φ
 sc:∀d∈Φ,RE ε E d
 gn:Nr E C given
 e0:0<E
 cl:1+(Φ.length:Int)<=C
def zB{D:Int}{p:Fr}(h:Nr E C p)(l:C<=D):Nr E D p:=by have:=aaC l (aak h.red.pos);have⟨a,b⟩:=h.ab;exact⟨h.red,h.he,⟨(),()⟩⟩
def ET{ns:List Fr}{x:Nat}(h:x<ns.length):ns.getD x (0,1)∈ns:=by rw[aab,aaa h];exact aaG h
def Bf{ε:Fr}{Φ:List bO}{given:Fr}(hi:i<n)(p:vw ε n E C Φ given):(mN ε n i Φ given).length=n+1/\(∀x∈mN ε n i Φ given,-(C*E)<=x/\x<=C*E)/\∃L:Rat,0<L/\(∀y:Nat->Rat,eR (λx=>((mN ε n i Φ given).getD x 0:Rat)*y x) n=L*(y i-Pg.val ε*ay (λd=>cV d*y d.1.toNat) Φ))/\((mN ε n i Φ given).getD n 0:Rat)=L*Pg.val given:=by
 have no:=Nh hi λd hd=>⟨p.wo.to d hd,p.sc d hd⟩;have c0:0<=C:=by have:=p.cl;omega
 have all:∀c∈hG ε n i Φ++[given],Nr E C c:=λc hc=>by
  rcases aaV.mp hc with z| z
  ·have⟨x,hx,e⟩:=abl z;have TQ:x<n:=by rw[<-no.len];exact hx
   have:=no.nr x TQ;rw[aab,aaa hx]at this;rw[<-e];exact zB this p.cl
  ·rw[aa2.mp z];exact p.gn
 have⟨b0,bE,hb⟩:=Ak all p.e0 c0;have ln:(hG ε n i Φ).length=n:=no.len;have at_:∀x,x<n+1->(mN ε n i Φ given).getD x 0=mM (bQ (hG ε n i Φ++[given])) ((hG ε n i Φ++[given]).getD x (0,1)):=λx hx=>by
  unfold mN mO;have hx:x<(hG ε n i Φ++[given]).length:=by simp[ln];exact hx
  rw[aab,aaq,aab,aaa hx];rfl
 have in_:∀x,x<n+1->(hG ε n i Φ++[given]).getD x (0,1)∈hG ε n i Φ++[given]:=λx hx=>ET (by simp[ln];exact hx);refine⟨by unfold mN mO;simp[ln],λx hx=>?_,((bQ (hG ε n i Φ++[given]):Int):Rat),?_,λy=>?_,?_⟩
 ·unfold mN mO at hx;have⟨c,hc,rfl⟩:=aaj.mp hx;exact(hb c hc).2
 ·exact abG.mpr b0
 ·rw[eh (g:=λx=>((bQ (hG ε n i Φ++[given]):Int):Rat)*(vW (Pg.val ε) i Φ x*y x)-0*0) λx hx=>by
   rw[at_ x (),(hb _ (in_ x ())).1];have:(hG ε n i Φ++[given]).getD x (0,1)=(hG ε n i Φ).getD x (0,1):=by rw[aab,aas (by rw[ln];exact hx),<-aab]
   rw[this,no.val x hx];grind]
  rw[tS _ 0 (λx=>vW (Pg.val ε) i Φ x*y x) (λ_=>0),Kv hi y p.wo.to];grind
 ·rw[at_ n (),(hb _ (in_ n ())).1];have:(hG ε n i Φ++[given]).getD n (0,1)=given:=by rw[aab,aao (by rw[ln];exact aan _),ln,Nat.sub_self];rfl
  rw[this];grind
structure Sys(ε:Fr)(n:Nat)(B:Int)(ws:Nat->List bO)(gv:Nat->Fr):Prop where
 n1:1<=n
 s0:0<=Pg.val ε
 s1:Pg.val ε<1
 b1:1<=B
 Hi:∀i,i<n->∃E C,vw ε n E C (ws i) (gv i)/\C*E<=B
def h8(ε:Fr)(n:Nat)(ws:Nat->List bO)(gv:Nat->Fr):List (List Int):=(List.range n).map λi=>mN ε n i (ws i) (gv i)
section
variable{ε:Fr}{ws:Nat->List bO}{gv:Nat->Fr}
def CT{k x:Nat}(h:k<n):Bz.arr (h8 ε n ws gv) k x=(mN ε n k (ws k) (gv k)).getD x 0:=by
 unfold Bz.arr h8
 congr 1
 rw[aab,aaq,aaY h];rfl
def lq:(h8 ε n ws gv).length=n:=by unfold h8;simp
def Sys.eq(S:Sys ε n B ws gv){k:Nat}(hk:k<n):∃L:Rat,0<L/\(∀y:Nat->Rat,eR (λx=>(Bz.arr (h8 ε n ws gv) k x:Rat)*y x) n=L*(y k-Pg.val ε*ay (λd=>cV d*y d.1.toNat) (ws k)))/\(Bz.arr (h8 ε n ws gv) k n:Rat)=L*Pg.val (gv k):=by
 have⟨E,C,p,_⟩:=S.Hi k hk;have⟨_,_,L,l0,l1,l2⟩:=Bf hk p;refine⟨L,l0,λy=>?_,?_⟩
 ·rw[<-l1 y];exact eh λx _=>by rw[CT hk]
 ·rw[CT hk];exact l2
def Sys.zero(S:Sys ε n B ws gv){y:Nat->Rat}(h:∀k,k<n->y k=Pg.val ε*ay (λd=>cV d*y d.1.toNat) (ws k)):∀k,k<n->y k=0:=λk hk=>by
 have:=Lc (n:=n) (x:=y) (c:=0) S.s1 (λi hi m hm=>by
  have⟨E,C,p,_⟩:=S.Hi i hi;have w:=lP.mp (EM p.wo () hm);have a:=aaZ w.1 S.s0;have b:=aaZ w.2 S.s0;rw[h i hi]
  refine lP.mpr ⟨?_,?_⟩ <;> grind) k hk
 have a0:=OT (y k);have s1:=S.s1;have:ab (y k)=0:=by
  by_cases e:ab (y k)=0
  ·exact e
  ·have p:=Rat.mul_pos (show 0<ab (y k) by grind) (show 0<1-Pg.val ε by grind);grind
 unfold ab at this;split at this <;> grind
def Sys.Z5(S:Sys ε n B ws gv)(y:Bz.Row)(h:∀k,k<n->Bz.Δ (λx=>Bz.arr (h8 ε n ws gv) k x*y x) n=0):∀x,x<n->y x=0:=λx hx=>by
 have:=S.zero (y:=λx=>(y x:Rat)) (λk hk=>by
  have⟨L,l0,l1,_⟩:=S.eq hk;have e:=aa0 (λz:Int=>(z:Rat)) (h k hk);rw[oS,eh (g:=λx=>(Bz.arr (h8 ε n ws gv) k x:Rat)*(y x:Rat)) λx _=>aaQ _ _,l1 λx=>(y x:Rat)]at e;have e:L*((y k:Rat)-Pg.val ε*ay (λd=>cV d*(y d.1.toNat:Rat)) (ws k))=0:=e;rcases Rat.mul_eq_zero.mp e with z| z
  ·grind
  ·grind) x hx
 exact Rat.intCast_eq_zero_iff.mp this
def Sys.bd(S:Sys ε n B ws gv):Bz.Bd (Bz.arr (h8 ε n ws gv)) n (n+1) B:=⟨S.b1,λk c hk hc=>by
 have⟨E,C,p,hB⟩:=S.Hi k hk;have⟨ln,hb,_⟩:=Bf hk p;rw[CT hk];have:=hb ((mN ε n k (ws k) (gv k)).getD c 0) (by rw[aab,aaa ()];exact aaG _)
 exact⟨(),()⟩⟩
structure Tab(ε:Fr)(n:Nat)(ws:Nat->List bO)(gv:Nat->Fr)(tb:List Fr):Prop where
 len:tb.length=n
 red:∀i,i<n->Red (tb.getD i (0,1))
 eq:∀i,i<n->Pg.val (tb.getD i (0,1))=Pg.val (gv i)+Pg.val ε*ay (λd=>cV d*Pg.val (tb.getD d.1.toNat (0,1))) (ws i)
def Sys.uniq(S:Sys ε n B ws gv){t t':List Fr}(h:Tab ε n ws gv t)(h':Tab ε n ws gv t'):t=t':=by
 have z:=S.zero (y:=λx=>Pg.val (t.getD x (0,1))-Pg.val (t'.getD x (0,1))) (λk hk=>by
  rw[h.eq k hk,h'.eq k hk];rw[show(λd:bO=>cV d*(Pg.val (t.getD d.1.toNat (0,1))-Pg.val (t'.getD d.1.toNat (0,1))))=λd=>cV d*Pg.val (t.getD d.1.toNat (0,1))-cV d*Pg.val (t'.getD d.1.toNat (0,1)) by funext d;grind,sY]
  grind)
 apply abq
 ·rw[h.len,h'.len]
 ·intro i h1 h2;have hi:i<n:=by rw[<-h.len];exact h1
  have a:=h.red i hi;have b:=h'.red i hi;have c:=z i hi;rw[aab,aaa h1]at a c;rw[aab,aaa h2]at b c;exact yA a b (by have c:Pg.val t[i]-Pg.val t'[i]=0:=c;grind)
def Sys.ex(S:Sys ε n B ws gv)(BC:n<=12):∃(tb:List Fr) (z:Bz.Row) (N:Int),Bz.P_ (Bz.arr (h8 ε n ws gv)) n n z N/\N≠0/\(∀i,i<n->N*(tb.getD i (0,1)).1=z i*(tb.getD i (0,1)).2)/\Tab ε n ws gv tb/\∀i,i<n->(tb.getD i (0,1)).2<=(12*B)^n:=by
 have⟨ρ,ν,q,d,W,t⟩:=Bz.Turn.exists (A:=Bz.arr (h8 ε n ws gv)) (n:=n) n;have hc:ν=List.range n:=by
  rcases t.all with e| ⟨x,h1,h2⟩
  ·exact e
  ·have⟨z,z1,z2⟩:=t.kernel h1 h2;have:=S.Z5 z z2 x h1;rw[z1]at this;exact aaL () t.d0
 have lr:ρ.length=n:=by rw[<-t.st.lc,hc,abc]
 have sol:=t.R9 λi h1 h2=>aaL h1 ();have d0:=t.d0;generalize hz:Bz.Lk (Bz.arr (h8 ε n ws gv)) n W ν n ν.length=z at *
 have g:∀i,i<n->((List.range n).map λi=>aB (z i) d).getD i (0,1)=aB (z i) d:=λi hi=>by rw[aab,aaq,aaY hi];rfl
 refine⟨(List.range n).map λi=>aB (z i) d,z,d,sol,d0,λi hi=>?_,⟨by simp,λi hi=>?_,λi hi=>?_⟩,λi hi=>?_⟩
 ·rw[g i hi,<-cI d0]
 ·rw[g i hi];exact b7 d0
 ·have⟨L,l0,l1,l2⟩:=S.eq hi;have⟨E,C,p,_⟩:=S.Hi i hi;have e:=aa0 (λz:Int=>(z:Rat)) (sol i hi);rw[oS,eh (g:=λx=>(Bz.arr (h8 ε n ws gv) i x:Rat)*(z x:Rat)) λx _=>aaQ _ _,l1 λx=>(z x:Rat),aaQ,l2]at e;rw[g i hi,kg d0]
  rw[mn (g:=λdd=>(1/(d:Rat))*(cV dd*(z dd.1.toNat:Rat))-0) λdd R4=>by
   have⟨a,b⟩:=p.wo.to dd R4;rw[g _ (),kg d0];have:=aJ d0
   grind]
  have sc:∀(k:Rat) (ds:List bO),ay (λdd=>k*(cV dd*(z dd.1.toNat:Rat))-0) ds=k*ay (λdd=>cV dd*(z dd.1.toNat:Rat)) ds:=λk ds=>by
   induction ds with
   |nil=>show(0:Rat)=k*0;grind
   |cons a ds ih=>
    show k*(cV a*(z a.1.toNat:Rat))-0+ay (λdd=>k*(cV dd*(z dd.1.toNat:Rat))-0) ds=k*(cV a*(z a.1.toNat:Rat)+ay (λdd=>cV dd*(z dd.1.toNat:Rat)) ds);rw[ih];grind
  rw[sc];have:=aJ d0;have e:L*((z i:Rat)-Pg.val ε*ay (λdd=>cV dd*(z dd.1.toNat:Rat)) (ws i))=(d:Rat)*(L*Pg.val (gv i)):=e;have e2:(z i:Rat)-Pg.val ε*ay (λdd=>cV dd*(z dd.1.toNat:Rat)) (ws i)=(d:Rat)*Pg.val (gv i):=by
   have:L*((z i:Rat)-Pg.val ε*ay (λdd=>cV dd*(z dd.1.toNat:Rat)) (ws i)-(d:Rat)*Pg.val (gv i))=0:=by grind
   rcases Rat.mul_eq_zero.mp this with y| y
   ·grind
   ·grind
  grind
 ·rw[g i hi];have ad:=t.st.XQ S.bd (λc C2=>aau (t.cl c C2) (Nat.le_succ _)) ();rw[lr]at ad;have l:=j6 (t:=z i) d0;have q0:=cR (t:=z i) d0;have⟨a1,a2⟩:=ad;omega
end
def Ju{d:bO}{c:Fr}{q:DQ}(e:d.2.2=[c])(h:q (Ξ c) M):cE (eG d) (.int 2) M q:=by unfold eG;rw[e];exact Θ (xs:=[.int d.1,Ξ d.2.1,Ξ c]) rfl (Ν (j:=2) rfl) h
def kM{k:Nat}(h:M[k]? =some (MO.lst xs)):f_ M (.loc k)=some xs:=by show(match M[k]? with| some (MO.lst xs)=>some xs| _=>none)=some xs;rw[h]
def J0{p:Fr}(h:Nr E C p)(e0:0<E)(e1:E<2^190)(c0:0<=C)(c1:C<2^110):Sz 300 p:=Ow (k:=190) (m:=110) h.red h.he e0 e1 h.ab c0 c1
def KW:DF:=λas M q _=>∃(ns:List Fr) (E C:Int),as=[.lst (ns.map Ξ)]/\ns.length<=13/\(∀c∈ns,Nr E C c)/\0<E/\E<2^190/\0<=C/\C<2^110/\q (cG (mO ns)) M
def mr:Ε ["numbers","bottom"] ["numbers"] (ψ oi):=.of rfl
def y3(F:cZ K "whole_row" "whole_row" oi f fd)(E:Ev K mg w Cm){iL:Addr}{iI:FuncData}(cy:aw P w K mg base 2 "common_bottom" ["chances"] iD iL iI):av P w K mg base (cC P w) 3 f fd ["numbers"] (cW K KW):=by
 refine F.dR mr (λds M q x h=>?_) (λbz A outer s H E' hr=>⟨_,(η (ω 1 mr.nd (aa cy hr ξ (Ρ (jv 0) θ)))
   (μ (Γ (gE (ys:=["bottom"]) (af:=[1]) (.of mr rfl rfl rfl) (bC (jv 0)) (λC s H fp=>(au (Ζ (jv 0) ο) (jN (jv 1) (Ζ (jv 0) ο)))))))),λds M q x h=>?_⟩)
 ·have⟨ns,E,C,rfl,_⟩:=h;rfl
 ·have⟨ns,Ep,C,rfl,hz,hn,e0,e1,c0,c1,h⟩:=h;have⟨b0,bE,_⟩:=Ak hn e0 c0;have Y7:∀c∈ns,Sz 300 c:=λc hc=>J0 (hn c hc) e0 e1 c0 c1;have b2:∀c∈ns,c.2<2^200:=λc hc=>by have:=ab6 e0 (yb (hn c hc).red (hn c hc).he);exact aaN this (acq e1 @_)
  refine⟨ns,rfl,⟨hz,λc hc=>⟨(hn c hc).red.pos,b2 c hc⟩⟩,?_⟩;walk_at "vc";refine eL (i:=0) rfl rfl ⟨by rw[aac];exact aaE hz @_,?_⟩;refine fv (f:=λd=>.int (match d with| .tup [.int a,.int b]=>a*(bQ ns/b)| _=>0)) trivial (λx hx q hq=>?_) ?_
  ·have⟨y,hy,rfl⟩:=aaj.mp hx;have s:=Y7 y hy;have y0:=(hn y hy).red.pos;refine⟨⟨y0,c7 s @_⟩,⟨fR s @_,?_⟩,hq⟩;exact qz (k:=190) (Int.ediv_nonneg (aak b0) (aak y0)) (aaN (aci _ (aak b0)) (aaN bE e1)) @_
  ·rw[aaW,aaM];have e:ns.map ((λd=>Dt.int (match d with| .tup [.int a,.int b]=>a*(bQ ns/b)| _=>0)) ∘ Ξ)=(mO ns).map Dt.int:=by unfold mO;rw[aaM];rfl
   rw[e];exact h
structure Zy(E C:Int):Prop where
 e1:E<2^190
 c1:C<2^110
def UZ(A:Addr):DF:=λas M q _=>∃(ε:Fr) (γ:List Rw) (i:Nat) (Φ:List bO) (given:Fr) (E C:Int),as=[aK A ε γ,.int (i:Nat),.lst (Φ.map eG),Ξ ε,Ξ given]/\i<γ.length/\γ.length<=12/\aX ε=true/\(∀d∈Φ,∃c,d.2.2=[c])/\vw ε γ.length E C Φ given/\Zy E C/\(∀d∈Φ,Sz 300 (χ d))/\∀E',q (cG (mN ε γ.length i Φ given)) (M++E')
def sL:Ε ["floor","place","ways","share","given","numbers","way"] ["floor","place","ways","share","given"] (ψ xr):=.of rfl
def Fd(F:cZ K "led_row" "led_row" xr f fd)(E:Ev K mg w Cm)(a_:dj P w K mg base 1 Cm "size" ["self"] (y8 Cm) et eC){Pb:Addr}{P7:FuncData}(wB:aw P w K mg base 3 "minus" ["one","other"] Kt Pb P7)(gA:aw P w K mg base 3 "times" ["one","other"] xq t_ rN){EZ:Addr}{Gw:FuncData}(mK:aw P w K mg base 3 "whole_row" ["numbers"] KW EZ Gw):av P w K mg base (cC P w) 5 f fd ["floor","place","ways","share","given"] (cW K (UZ Cm)):=by
 refine F.dR sL (λds M q x h=>?_) (λbz A outer s H E' hr=>⟨_,(η (ω 5 sL.nd (Bx (dH 3 (d:=.lst [.tup [.int 0,.int 1]]) (by rfl)) (kZ a_ hr ξ (jv 0))))
   (η (ki (jv 5) (jv 1) (eI (ι ο (ι ο θ da) da)))
   (η (c8 (bC (jv 2)) (ai (i:=6) sL.nd rfl (Or.inl rfl)) aI (μ (ki (jv 5) (Ζ (jv 6) ο) (aa wB hr ξ (ι (Ζ (jv 5) (Ζ (jv 6) ο)) (ι (aa gA hr ξ (Ρ (jv 3) (ι (Ζ (jv 6) ο) θ aZ))) θ aY) aZ)))))
   (μ (Γ (aa mK hr ξ (ι (mG (jv 5) (lQ (Ρ (jv 4) θ))) θ bL))))))),λds M q x h=>?_⟩)
 ·have⟨ε,γ,i,Φ,given,E,C,rfl,_⟩:=h;rfl
 ·have⟨ε,γ,i,Φ,given,Ep,C,rfl,il,qj,hs,MJ,p,sz,hcs,h⟩:=h;have szs:=nG hs;have e0:=p.e0;have c0:0<=C:=by have:=p.cl;omega
  generalize hn:γ.length=n at *
  refine⟨⟨_,_,.inl rfl,rfl⟩,ε,γ,rfl,?_⟩;rw[hn];refine⟨[Ξ (0,1)],n,rfl,rfl,(),(),?_,?_⟩
  ·show 1*((n:Int)).toNat<=sizeLine;exact aaE (show _<=12 by omega) @_
  rw[show((n:Int)).toNat=n by omega,q_];dsimp only[sW];walk_at "vc";refine⟨gV,?_⟩;refine⟨M.length,(i:Nat),_,i,rfl,rfl,aE,by rw[aa5];exact rQ il,?_⟩;rw[de];have e00:(List.replicate n (Ξ (0,1))).set i (.tup [.int 1,.int 1])=((List.replicate n ((0,1):Fr)).set i (1,1)).map Ξ:=by rw[List.map_set,List.map_replicate];rfl
  rw[e00];dsimp only[qe,fc];walk_at "vc";refine bK (λzs ρ' M'=>∃(fq rest:List bO) (ns:List Fr) (v:Nat->Rat) (o:Option Dt),Φ=fq++rest/\zs=rest.map eG/\ns=fq.foldl (tP ε) ((List.replicate n ((0,1):Fr)).set i (1,1))/\nc n Ep (1+fq.length) v ns/\M'=M++[MO.lst (ns.map Ξ)]/\ρ'=[some (aK Cm ε γ),some (.int (i:Int)),some (.lst (Φ.map eG)),some (Ξ ε),some (Ξ given),some (.loc M.length),o]) (λzs ρ' M' hj=>trivial) (λx zs ρ' M' hj e9=>?_) (λρ' M' hj=>?_) _ _ _ ⟨[],Φ,_,_,none,rfl,rfl,rfl,Jh il,rfl,rfl⟩
  ·have⟨fq,rest,ns,v,o,ew,ex,en,no,rfl,rfl⟩:=hj;cases rest with
   |nil=>cases ex
   |cons d rest=>
    cases ex;have dm:d∈Φ:=by rw[ew];exact aaI _ aae
    have⟨t0,t1⟩:=p.wo.to d dm;have⟨c,hc⟩:=MJ d dm;have ec:χ d=c:=by unfold χ;rw[hc];rfl
    have sc:=p.sc d dm;have RK:=hcs d dm;have dl:1+(fq.length:Int)<=C:=by have:=aa0 List.length ew;rw[aah,aaB]at this;have:=p.cl;omega
    have tl:d.1.toNat<ns.length:=by rw[no.len];omega
    have Y7:=J0 (zB (no.nr d.1.toNat ()) dl) e0 sz.e1 c0 sz.c1;have szt:=J0 (zB sc.nr (show(1:Int)<=C by omega)) e0 sz.e1 c0 sz.c1;have at_:lF (ns.map Ξ) d.1=some (Ξ (ns.getD d.1.toNat (0,1))):=by have:=Of tl;rw[show((d.1.toNat:Nat):Int)=d.1 by omega]at this;rw[this,aab,aaa tl];rfl
    have nx:∀o,_:=λo=>e9 [some (aK Cm ε γ),some (.int (i:Int)),some (.lst (Φ.map eG)),some (Ξ ε),some (Ξ given),some (.loc M.length),o] (M++[MO.lst ((tP ε ns d).map Ξ)]) ⟨fq++[d],rest,tP ε ns d,_,o,by rw[ew];simp,rfl,by rw[List.foldl_append,<-en];rfl,by
     have:=yM no () ⟨t0,t1⟩ sc;rw[show 1+((fq++[d]).length:Int)=1+(fq.length:Int)+1 by simp;omega]
     exact this,rfl,rfl⟩
    dsimp only[gN,sW];walk_at "vc";refine DB ?_;refine(Θ (d:=.loc M.length) (kM aE) at_ ?_:cE (.loc M.length) (.int d.1) _ _);refine Ju hc ?_;rw[<-ec];refine⟨ε,χ d,11,300,rfl,szs,RK,@_,?_⟩;refine⟨_,_,300,300,rfl,Y7,szt,@_,?_⟩;refine DB ?_;refine⟨M.length,d.1,_,d.1.toNat,rfl,rfl,aE,by rw[aac];have:=rQ tl;rwa[show((d.1.toNat:Nat):Int)=d.1 by omega]at this,?_⟩;rw[de];have:(ns.map Ξ).set d.1.toNat (Ξ (iE (ns.getD d.1.toNat (0,1)) (aN ε (χ d))))=(tP ε ns d).map Ξ:=by unfold tP;rw[List.map_set]
    rw[this];exact nx _
  ·have⟨fq,rest,ns,v,o,ew,ex,en,no,rfl,rfl⟩:=hj;cases rest with
   |cons d rest=>cases ex
   |nil=>
    rw[aa7]at ew;subst ew;have en:ns=hG ε n i Φ:=en;walk_at "vc";refine⟨by show 1<=sizeLine;decide,ns.map Ξ,[Ξ given],ir aE,rfl,?_,?_⟩
    ·rw[aac,no.len];exact aaE (show n+1<=13 by omega) @_
    refine⟨ns++[given],Ep,C,by rw[aa8];rfl,by rw[aah,no.len];show n+1<=13;omega,λc hc=>?_,e0,sz.e1,c0,sz.c1,?_⟩
    ·rcases aaV.mp hc with z| z
     ·have⟨x,hx,e⟩:=abl z;have:=no.nr x (by rw[<-no.len];exact hx);rw[aab,aaa hx]at this;rw[<-e];exact zB this p.cl
     ·rw[aa2.mp z];exact p.gn
    rw[en];exact h _
def y4:∀(ps:List (Fr×Fr)) (w:Fr),Red w->(∀p∈ps,0<p.1.2/\0<p.2.2)->Red (ps.foldl (λw p=>eO w (aN p.1 p.2)) w)
 |[],w,h,_=>h
 |p::ps,w,h,hp=>by have⟨a,b⟩:=hp p aae;have t:Red (aN p.1 p.2):=b7 (abp (aaP a b));exact y4 ps _ (b7 (abp (aaP h.pos t.pos))) λx hx=>hp x (aad _ hx)
def vK:∀(Φ:List bO) (w:Fr),0<w.2->(∀d∈Φ,0<(χ d).2/\0<d.2.1.2)->val (((Φ.map χ).zip (Φ.map (·.2.1))).foldl (λw p=>eO w (aN p.1 p.2)) w)=val w+ay (λd=>cV d*val d.2.1) Φ
 |[],w,_,_=>by show val w=val w+0;grind
 |d::Φ,w,h,hp=>by have⟨a,b⟩:=hp d aae;have t:Red (aN (χ d) d.2.1):=b7 (abp (aaP a b));have u:Red (eO w (aN (χ d) d.2.1)):=b7 (abp (aaP h t.pos));have ih:=vK Φ (eO w (aN (χ d) d.2.1)) u.pos λx hx=>hp x (aad _ hx);rw[aaH,aaH,abd,abE,ih,s_ h t.pos,lC a b];show _=val w+(cV d*val d.2.1+ay (λd=>cV d*val d.2.1) Φ);grind
structure FW(ε:Fr)(γ:List Rw)(X C:Int):Prop where
 pl:Qo ε γ
 n1:1<=γ.length
 hnd:∀k ds,Rw.τ k ds∈γ->Β k=true->∀d∈ds,d.2.2=[]
 pay:∀k ds,Rw.τ k ds∈γ->∃E,0<E/\E<=X/\∀d∈ds,Nr E C d.2.1
 fin:∀p,Rw.fin p∈γ->∃E,0<E/\E<=X/\Nr E C p
 x1:X<=10^36
 c9:9<=C
 c1:C<=10^30
def nq(X C:Int):Int:=6*C*(1000000000*X)
def P9(Η:Pl)(i:Nat):Rw->List bO
 |.fin _=>[]
 |.τ k ds=>aD Η i (.τ k ds)
def RO(Η:Pl)(i:Nat):Rw->Fr
 |.fin p=>p
 |.τ k ds=>iG (((aD Η i (.τ k ds)).map χ).zip ((aD Η i (.τ k ds)).map (·.2.1)))
def iZ(γ:List Rw)(i:Nat):Rw:=γ.getD i (.fin (0,1))
structure XE(n:Nat)(B E C:Int)(d:bO):Prop where
 to:0<=d.1/\d.1<n
 one:d.2.2=[χ d]
 ch:Ch B (χ d)
 py:Nr E C d.2.1
section
variable{ε:Fr}{γ:List Rw}{X:Int}{Η:Pl}
def FW.Φ(fw:FW ε γ X C)(dk:fm γ Η){k:Str}{ds:List bO}(hi:γ[i]? =some (.τ k ds)):(aD Η i (.τ k ds)).length<=6/\ay cV (aD Η i (.τ k ds))=1/\(∀d∈aD Η i (.τ k ds),0<=cV d)/\∃B E,0<B/\B<=1000000/\0<E/\E<=X/\∀d∈aD Η i (.τ k ds),XE γ.length B E C d:=by
 have rm:Rw.τ k ds∈γ:=aag hi;have dr:=dD fw.pl rm;have⟨E,e0,eX,hp⟩:=fw.pay k ds rm;cases hh:Β k with
 |true=>
  have⟨j,hj,jl⟩:=dk.hand i _ hi hh;have jl:j<ds.length:=jl;have gd:ds.getD j d0=ds[j]:=by rw[aab,aaa jl];rfl
  have dm:=aaG jl;have e:aD Η i (.τ k ds)=[(ds[j].1,ds[j].2.1,[(1,1)])]:=by unfold aD;rw[hj];show[((ds.getD ((j:Int)).toNat d0).1,(ds.getD ((j:Int)).toNat d0).2.1,(ds.getD ((j:Int)).toNat d0).2.2++[(1,1)])]=_;rw[abS,gd,fw.hnd k ds rm hh _ dm];rfl
  have v1:cV (ds[j].1,ds[j].2.1,[((1,1):Fr)])=1:=by show((1:Int):Rat)/((1:Int):Rat)=1;grind
  rw[e];refine⟨by simp,?_,λd hd=>?_,1,E,@_,@_,e0,eX,λd hd=>?_⟩
  ·show cV (ds[j].1,ds[j].2.1,[(1,1)])+0=1;rw[v1];grind
  ·rw[List.mem_singleton.mp hd,v1];grind
  ·rw[aa2.mp hd];refine⟨dr.to ds[j] dm,rfl,?_,hp ds[j] dm⟩;show Ch 1 ((1,1):Fr);exact⟨@_,⟨1,@_⟩,⟨@_,@_⟩,qO (k:=2) ⟨@_,@_,@_⟩ @_⟩
 |false=>
  have hc:k="chance"/\FO (ds.map χ):=by
   rcases dr.kd with z| ⟨_,z⟩
   ·rw[z]at hh;cases hh
   ·exact z
  have⟨rfl,co⟩:=hc;have e:aD Η i (.τ "chance" ds)=ds:=by unfold aD;rw[dk.Hb i _ hi hh];rfl
  have⟨s1,s2⟩:=LN co;rw[e];refine⟨dr.l6,s1,s2,bQ (ds.map χ),E,co.b0,co.b1,e0,eX,λd hd=>?_⟩;have⟨a,b,c,f⟩:=D3 co (aaj.mpr ⟨d,hd,rfl⟩);exact⟨dr.to d hd,(dr.ro.2.2.1 rfl).1 d hd,⟨a,Aj b,c,f⟩,hp d hd⟩
def OK{p:Fr}(h:Nr E C p)(e0:0<E)(e1:E<=10^36)(c0:0<=C)(c1:C<=10^30):Nb E C p:=KA h.red h.he h.ab ⟨e0,aaN e1 @_,c0,aaN c1 @_⟩
def FW.sh(fw:FW ε γ X C):0<ε.2/\ε.2<=1000/\g_ ε/\0<=val ε/\val ε<1/\1<=1000*(1-val ε):=by
 have h:=fw.pl.sh;have⟨a,b,c⟩:=Ie h;unfold aX at h;rw[aav,aav,aap,aap,aap]at h;have⟨h1,h2,h3⟩:=h;have ev:val ε*(ε.2:Rat)=ε.1:=by
  have:=aJ (show ε.2≠0 by omega);unfold val;generalize (ε.1:Rat)=x at *
  generalize (ε.2:Rat)=y at *
  grind
 have p:(0:Rat)<(ε.2:Rat):=abG.mpr a;have q:(ε.2:Rat)<=((1000:Int):Rat):=abh.mpr b;have r:(ε.1:Rat)+((1:Int):Rat)<=(ε.2:Rat):=by rw[<-Rat.intCast_add];exact abh.mpr ()
 have q:(ε.2:Rat)<=1000:=q;have r:(ε.1:Rat)+1<=(ε.2:Rat):=r;have lt:val ε<1:=by
  by_cases z:val ε<1
  ·exact z
  ·have:=Rat.mul_le_mul_of_nonneg_right (show 1<=val ε by grind) (Rat.le_of_lt p);grind
 refine⟨a,b,c,tN a h1,lt,?_⟩;have:=Rat.mul_le_mul_of_nonneg_right q (show 0<=1-val ε by grind);grind
def FW.Hi(fw:FW ε γ X C)(dk:fm γ Η){r:Rw}(hi:γ[i]? =some r):∃E,vw ε γ.length E (6*C) (P9 Η i r) (RO Η i r)/\6*C*E<=nq X C/\Zy E (6*C)/\(∀d∈P9 Η i r,∃c,d.2.2=[c])/\∀d∈P9 Η i r,Sz 300 (χ d):=by
 have⟨s0,s1,su,_⟩:=fw.sh;have c9:=fw.c9;have c1:=fw.c1;have x1:=fw.x1;have rm:r∈γ:=aag hi;have Tt:∀E,E<=1000000000*X->6*C*E<=nq X C:=λE h=>aaC h ();cases r with
 |fin p=>
  have⟨E,e0,eX,hp⟩:=fw.fin p rm;exact⟨E,⟨⟨λ_ z=>(nomatch z),λ_ z=>(nomatch z),by show(0:Rat)<=1;grind⟩,λ_ z=>(nomatch z),zB hp (),e0,by show 1+0<=6*C;omega⟩,Tt E (),⟨Int.lt_of_le_of_lt eX (),()⟩,λ_ z=>(nomatch z),λ_ z=>(nomatch z)⟩
 |τ k ds=>
  have⟨l6,one,pos,B,E,b0,b1,e0,eX,hw⟩:=fw.Φ dk hi;show∃E,vw ε γ.length E (6*C) (aD Η i (.τ k ds)) (iG (((aD Η i (.τ k ds)).map χ).zip ((aD Η i (.τ k ds)).map (·.2.1))))/\6*C*E<=nq X C/\Zy E (6*C)/\(∀d∈aD Η i (.τ k ds),∃c,d.2.2=[c])/\∀d∈aD Η i (.τ k ds),Sz 300 (χ d);generalize Vg:aD Η i (.τ k ds)=ws at *
  have be0:0<B*E:=aaP b0 e0;have be1:B*E<=1000000*X:=abB b1 eX (aak e0) @_;have se0:0<ε.2*(B*E):=aaP s0 be0;have se1:ε.2*(B*E)<=1000*(1000000*X):=abB s1 be1 (aak be0) @_
  have nb:=uk (E:=E) (B:=B) (C:=C) b0 e0 (aaN be1 ()) () () ((ws.map χ).zip (ws.map (·.2.1))) (0,1) 0 (by rw[abe,aac,aac];omega) (by rw[Int.natCast_zero,Int.zero_mul];exact TK) (λp hp=>by
   have⟨q1,q2⟩:=abK hp;have⟨d1,m1,x1⟩:=aaj.mp q1;have⟨d2,m2,x2⟩:=aaj.mp q2
   exact⟨by rw[<-x1];exact(hw d1 m1).ch,by rw[<-x2];exact OK (hw d2 m2).py e0 () () c1⟩)
  have red:Red (iG ((ws.map χ).zip (ws.map (·.2.1)))):=y4 _ _ ⟨@_,@_⟩ λp hp=>by have⟨q1,q2⟩:=abK hp;have⟨d1,m1,x1⟩:=aaj.mp q1;have⟨d2,m2,x2⟩:=aaj.mp q2;exact⟨by rw[<-x1];exact(hw d1 m1).ch.pos,by rw[<-x2];exact(hw d2 m2).py.red.pos⟩
  refine⟨ε.2*(B*E),⟨⟨λd hd=>(hw d hd).to,pos,by rw[one];grind⟩,λd hd=>⟨s0,su,(hw d hd).ch.pos,(hw d hd).ch.u,?_⟩,⟨red,?_,?_⟩,se0,()⟩,Tt _ (),⟨Int.lt_of_le_of_lt se1 (),()⟩,λd hd=>⟨_,(hw d hd).one⟩,λd hd=>(hw d hd).ch.sz⟩
  ·have:=yT E (tF s0 (hw d hd).ch.pos (Fg ε) (hw d hd).ch.he);rwa[Int.mul_assoc]at this
  ·have:=yT ε.2 nb.he;rwa[aa6]at this
  ·refine P5 red.pos nb.ab ?_;refine aaO ?_ ();rw[abe,aac,aac];omega
def rw_at(h:i<γ.length):γ[i]? =some (iZ γ i):=by unfold iZ;rw[aab,aaa h];rfl
abbrev vb(γ:List Rw)(Η:Pl)(i:Nat):List bO:=P9 Η i (iZ γ i)
abbrev vB(γ:List Rw)(Η:Pl)(i:Nat):Fr:=RO Η i (iZ γ i)
def FW.sys(fw:FW ε γ X C)(dk:fm γ Η)(b1:1<=nq X C):Sys ε γ.length (nq X C) (vb γ Η) (vB γ Η):=by have⟨_,_,_,v0,v1,_⟩:=fw.sh;refine⟨fw.n1,v0,v1,b1,λi hi=>?_⟩;have⟨E,p,l,_⟩:=fw.Hi dk (rw_at hi);exact⟨E,_,p,l⟩
structure i8(ε:Fr)(γ:List Rw)(Η:Pl)(tb:List Fr):Prop where
 tab:Tab ε γ.length (vb γ Η) (vB γ Η) tb
 bot:∀i,i<γ.length->(tb.getD i (0,1)).2<2^1030
end
def KQ(A:Addr):DF:=λas M q _=>∃ε γ i r k Η X C,as=[aK A ε γ,.int (i:Nat),.loc k]/\M[k]? =some (dP Η)/\γ[i]? =some r/\fm γ Η/\FW ε γ X C/\∀E',q (cG (mN ε γ.length i (P9 Η i r) (RO Η i r))) (M++E')
def og:Ε ["floor","place","doors","ways","paid"] ["floor","place","doors"] (ψ C9):=.of rfl
def HF(F:cZ K "row_of" "row_of" C9 f fd)(E:Ev K mg w Cm)(Υ:dj P w K mg base 1 Cm "kind" ["self","place"] (nU Cm) aT aU){MB:Addr}{Nj:FuncData}(nA:aw P w K mg base 5 "led_row" ["floor","place","ways","share","given"] (UZ Cm) MB Nj){oj:Addr}{pk:FuncData}(fj:dj P w K mg base 2 Cm "pay" ["self","place"] (QZ Cm) oj pk){y9:Addr}{yX:FuncData}(gG:dj P w K mg base 1 Cm "share" ["self"] (Ig Cm) y9 yX){E9:Addr}{Gp:FuncData}(my:aw P w K mg base 3 "ways_from" ["floor","place","doors"] (OF Cm) E9 Gp){tR:Addr}{tH:FuncData}(gO:aw P w K mg base 4 "weighed" ["chances","numbers"] uc tR tH):av P w K mg base (cC P w) 6 f fd ["floor","place","doors"] (cW K (KQ Cm)):=by
 refine F.dR og (λds M q x h=>?_) (λbz A outer s H E' hr=>⟨_,(η (ax (cQ hr (b9 Υ hr ξ (jv 0) (Ρ (jv 1) θ)) ia) (μ (Γ (aa nA hr ξ (Ρ (jv 0) (Ρ (jv 1) (ι (lQ θ) (ι (kZ gG hr ξ (jv 0)) (ι (b9 fj hr ξ (jv 0) (Ρ (jv 1) θ)) θ aY) aY))))))) Ο)
   (η (ω 3 og.nd (aa my hr ξ (Ρ (jv 0) (Ρ (jv 1) (Ρ (jv 2) θ)))))
   (η (ω 4 og.nd (aa gO hr ξ (ι (gE (ys:=[]) (af:=[]) (.of og rfl rfl rfl) (bC (jv 3)) (λC s H fp=>(Ζ (jv 0) ο))) (ι (gE (ys:=[]) (af:=[]) (.of og rfl rfl rfl) (bC (jv 3)) (λC s H fp=>(Ζ (jv 0) ο))) θ))))
   (μ (Γ (aa nA hr ξ (Ρ (jv 0) (Ρ (jv 1) (Ρ (jv 3) (ι (kZ gG hr ξ (jv 0)) (Ρ (jv 4) θ) aY)))))))))),λds M q x h=>?_⟩)
 ·have⟨ε,γ,i,r,k,Η,X,C,rfl,_⟩:=h;rfl
 ·have⟨ε,γ,i,r,k,Η,X,C,rfl,hk,hi,dk,fw,h⟩:=h;have il:=(aaf.mp hi).1;have qj:=fw.pl.len;have rm:r∈γ:=aag hi;have ro:=(fw.pl.row r rm).1;have⟨Ep,p,_,sz,one,RK⟩:=fw.Hi dk hi;have sl:∀{z:Nat},z<=1000->z<=sizeLine:=λh=>aaE h @_;refine⟨⟨_,_,.inl rfl,rfl⟩,ε,γ,i,r,rfl,hi,?_⟩;cases r with
  |fin pp=>
   refine⟨λ_=>?_,λz=>(nomatch z)⟩;walk_at "vc";refine⟨sl @_,?_⟩;refine⟨⟨_,_,.inl rfl,rfl⟩,ε,γ,rfl,?_⟩;refine⟨⟨_,_,.inl rfl,rfl⟩,ε,γ,i,.fin pp,rfl,hi,ro,?_⟩;exact⟨ε,γ,i,[],pp,Ep,6*C,rfl,il,qj,fw.pl.sh,one,p,sz,RK,h⟩
  |τ kd ds=>
   refine⟨λz=>aaL (aaz z) ro.1,λ_=>?_⟩;have⟨l6,_,_,B,E,b0,b1,e0,eX,hw⟩:=fw.Φ dk hi;have c9:=fw.c9;have c1:=fw.c1;have x1:=fw.x1;have h:∀E',q (cG (mN ε γ.length i (aD Η i (.τ kd ds)) (iG (((aD Η i (.τ kd ds)).map χ).zip ((aD Η i (.τ kd ds)).map (·.2.1)))))) (M++E'):=h;have p:vw ε γ.length Ep (6*C) (aD Η i (.τ kd ds)) (iG (((aD Η i (.τ kd ds)).map χ).zip ((aD Η i (.τ kd ds)).map (·.2.1)))):=p;have one:∀d∈aD Η i (.τ kd ds),∃c,d.2.2=[c]:=one;have RK:∀d∈aD Η i (.τ kd ds),Sz 300 (χ d):=RK;refine⟨ε,γ,i,.τ kd ds,k,Η,rfl,hk,hi,ro,dk,?_⟩;generalize aD Η i (.τ kd ds)=ws at *
   dsimp only[pE,fc];walk_at "vc";refine⟨by rw[aac];exact sl (),?_⟩;refine dF (F:=λx d=>x=eG d/\d∈ws) (f:=λd=>Ξ (χ d)) (as:=ws) trivial (λx d hx qq hq=>?_) (i7 eG ws ws λx hx=>hx) ?_
   ·have⟨rfl,hd⟩:=hx;walk_at "vc";exact Ju (hw d hd).one hq
   rw[aaW];refine⟨by rw[aac];exact sl (),?_⟩;refine dF (F:=λx d=>x=eG d/\d∈ws) (f:=λd=>Ξ d.2.1) (as:=ws) trivial (λx d hx qq hq=>?_) (i7 eG ws ws λx hx=>hx) ?_
   ·have⟨rfl,hd⟩:=hx;walk_at "vc";exact yH hq
   rw[aaW];refine⟨ws.map χ,ws.map (·.2.1),E,B,C,by rw[aaM,aaM];rfl,by rw[aac];exact l6,b0,e0,?_,(),(),λc hc=>?_,λc hc=>?_,?_⟩
   ·have:B*E<=1000000*X:=abB b1 eX (aak e0) @_;exact aaN this ()
   ·have⟨d,hd,rfl⟩:=aaj.mp hc;exact(hw d hd).ch
   ·have⟨d,hd,rfl⟩:=aaj.mp hc;exact OK (hw d hd).py e0 () () c1
   refine⟨⟨_,_,.inl rfl,rfl⟩,ε,γ,rfl,?_⟩;exact⟨ε,γ,i,ws,_,Ep,6*C,rfl,il,qj,fw.pl.sh,one,p,sz,RK,h⟩
def Qk(A:Addr):DF:=λas M q _=>∃ε γ k Η X C,as=[aK A ε γ,.loc k]/\M[k]? =some (dP Η)/\fm γ Η/\FW ε γ X C/\nq X C<=2^450/\(12*nq X C)^γ.length<2^1030/\∀tb,i8 ε γ Η tb->q (.loc M.length) (M++[.lst (tb.map Ξ)])
def sf:Ε ["floor","doors"] ["floor","doors"] (ψ oO):=.of rfl
def AD(F:cZ K "worths_by" "worths_by" oO f fd)(E:Ev K mg w Cm){Gy:Addr}{Fl:FuncData}(lY:aw P w K mg base 4 "answer_of" ["rows"] xR Gy Fl)(a_:dj P w K mg base 1 Cm "size" ["self"] (y8 Cm) et eC){Ry:Addr}{Rq:FuncData}(xT:aw P w K mg base 6 "row_of" ["floor","place","doors"] (KQ Cm) Ry Rq):av P w K mg base (cC P w) 7 f fd ["floor","doors"] (cW K (Qk Cm)):=by
 refine F.dR sf (λds M q x h=>?_) (λbz A outer s H E' hr=>⟨_,(μ (Γ (aa lY hr ξ (ι (Hz (ys:=["floor","doors"]) (af:=[0,1]) (.of sf rfl rfl rfl) (bY E.bM (ι (kZ a_ hr ξ (jv 0)) θ aY)) (λC s H fp=>(cU (aa xT hr (gy (P:=P) (w:=w)) (Ρ (jv 1) (Ρ (jv 0) (Ρ (jv 2) θ))))))) θ)))),λds M q x h=>?_⟩)
 ·have⟨ε,γ,k,Η,X,C,rfl,_⟩:=h;rfl
 ·have⟨ε,γ,k,Η,X,C,rfl,hk,dk,fw,me,x',h⟩:=h;have qj:=fw.pl.len;have n1:=fw.n1;have b1:1<=nq X C:=by have⟨E,p,l,_⟩:=fw.Hi dk (rw_at (show 0<γ.length by omega));have c9:=fw.c9;have:=aaC (show 1<=E by have:=p.e0;omega) (show 0<=6*C by omega);omega
  have S:=fw.sys dk b1;have⟨tb,z,N,sol,n0,SQ,tab,bot⟩:=S.ex qj;have sl:∀{z:Nat},z<=1000->z<=sizeLine:=λh=>aaE h @_;walk_at "vc";dsimp only[K'];walk_at "vc";refine⟨⟨_,_,.inl rfl,rfl⟩,ε,γ,rfl,?_⟩;refine⟨⟨(),()⟩,by rw[fU];exact sl (),?_⟩;refine om (f:=λx=>match x with| .int j=>cG ((h8 ε γ.length (vb γ Η) (vB γ Η)).getD j.toNat [])| _=>.bj) _ _ (λx W2 q' hq=>?_) ?_
  ·have⟨j,hj,rfl⟩:=r9 W2;have hj:j<γ.length:=()
   rw[Int.zero_add]at hq⊢;have hq:q' (cG ((h8 ε γ.length (vb γ Η) (vB γ Η)).getD j [])) M:=hq;have e:(h8 ε γ.length (vb γ Η) (vB γ Η)).getD j []=mN ε γ.length j (vb γ Η j) (vB γ Η j):=by unfold h8;rw[aab,aaq,aaY hj];rfl
   rw[e]at hq;exact⟨ε,γ,j,iZ γ j,k,Η,X,C,rfl,hk,rw_at hj,dk,fw,λE'=>mS (.old (gC _)) hq⟩
  have er:=DO (h8 ε γ.length (vb γ Η) (vB γ Η)) [] cG;rw[lq]at er;rw[aaW,show((γ.length:Int)).toNat=γ.length by omega];refine(λ(key:∀l,l=(h8 ε γ.length (vb γ Η) (vB γ Η)).map cG->xR [.lst l] M q _)=>key _ er) λl hl=>?_;subst hl;have ln:∀r∈h8 ε γ.length (vb γ Η) (vB γ Η),r.length=γ.length+1:=λr fV=>by unfold h8 at fV;have⟨i,hi,rfl⟩:=aaj.mp fV;have⟨E,p,_⟩:=fw.Hi dk (rw_at (aba.mp hi));exact(Bf (aba.mp hi) p).1
  have bd:=S.bd;refine⟨h8 ε γ.length (vb γ Η) (vB γ Η),γ.length,nq X C,tb,z,N,rfl,⟨by rw[lq];exact n1,by rw[lq];exact qj,qj,ln,by rw[lq];exact bd,me⟩,n1,tab.len,by rw[lq];exact sol,n0,λi hi=>⟨(tab.red i hi).pos,(tab.red i hi).low,SQ i hi⟩,by rw[lq];exact S.Z5,?_⟩;exact h tb ⟨tab,λi hi=>aaN (bot i hi) x'⟩
def EE(A:Addr):DF:=λas M q _=>∃ε γ k1 k2 p1 p2 X C,as=[aK A ε γ,.loc k1,.loc k2]/\M[k1]? =some (dP p1)/\M[k2]? =some (dP p2)/\FW ε γ X C/\nq X C<=2^450/\(12*nq X C)^γ.length<2^1030/\(∀i,i<γ.length->ft γ (bt p1 p2) i=true)/\∀tb,i8 ε γ (fi γ (bt p1 p2) γ.length) tb->∀m1 m2,q (.loc (M.length+2)) (M++[m1,m2,.lst (tb.map Ξ)])
def CB:Ε ["floor","plan_one","plan_other"] ["floor","plan_one","plan_other"] (ψ oG):=.of rfl
def Ag(F:cZ K "worths_of" "worths_of" oG f fd)(E:Ev K mg w Cm){oB:Addr}{oI:FuncData}(fA:aw P w K mg base 7 "worths_by" ["floor","doors"] (Qk Cm) oB oI){ug:Addr}{qW:FuncData}(gM:aw P w K mg base 4 "doors_of" ["floor","plans"] (ua Cm) ug qW):av P w K mg base (cC P w) 8 f fd ["floor","plan_one","plan_other"] (cW K (EE Cm)):=by
 refine F.dR CB (λds M q x h=>?_) (λbz A outer s H E' hr=>⟨_,(μ (Γ (aa fA hr ξ (Ρ (jv 0) (ι (aa gM hr ξ (Ρ (jv 0) (ι (NG (jv 1) (jv 2)) θ))) θ aY))))),λds M q x h=>?_⟩)
 ·have⟨ε,γ,k1,k2,p1,p2,X,C,rfl,_⟩:=h;rfl
 ·have⟨ε,γ,k1,k2,p1,p2,X,C,rfl,h1,h2,fw,me,x',gd,h⟩:=h;refine⟨ε,γ,M.length,bt p1 p2,rfl,V'.pls ⟨k1,k2,aE,aj h1,aj h2⟩,fw.pl,gd,?_⟩;refine⟨ε,γ,_,_,X,C,rfl,aE,T3 gd,fw,me,x',λtb wt=>?_⟩;have:=h tb wt (.bX [Sum.inr "one",Sum.inr "other"] [.loc k1,.loc k2]) (dP (fi γ (bt p1 p2) γ.length));simpa [List.append_assoc] using this
def Hw(x:Nat->Rat):∀n,∃i,i<n+1/\∀j,j<n+1->x i<=x j
 |0=>⟨0,(),λj hj=>by rw[show j=0 by omega];grind⟩
 |n+1=>by
  have⟨i,hi,h⟩:=Hw x n;by_cases c:x (n+1)<=x i
  ·refine⟨n+1,(),λj hj=>?_⟩;by_cases e:j=n+1
   ·rw[e];grind
   ·have:=h j ();grind
  ·refine⟨i,(),λj hj=>?_⟩;by_cases e:j=n+1
   ·rw[e];grind
   ·exact h j ()
def xy{n:Nat}{y:Nat->Rat}{m:Rat}(hm:∀j,j<n->m<=y j):∀{Φ:List bO},(∀d∈Φ,0<=d.1/\d.1<n)->(∀d∈Φ,0<=cV d)->ay cV Φ*m<=ay (λd=>cV d*y d.1.toNat) Φ
 |[],_,_=>by show(0:Rat)*m<=0;grind
 |d::Φ,h1,h2=>by have i:=xy hm (λx hx=>h1 x (aad _ hx)) (λx hx=>h2 x (aad _ hx));have t:=h1 d aae;have:=aaZ (hm d.1.toNat ()) (h2 d aae);show(cV d+ay cV Φ)*m<=cV d*y d.1.toNat+ay (λd=>cV d*y d.1.toNat) Φ;grind
def QM{s:Rat}{ws:Nat->List bO}{δ r:Nat->Rat}(s0:0<=s)(s1:s<1)(wo:∀i,i<n->Co n (ws i))(h:∀i,i<n->δ i=r i+s*ay (λd=>cV d*δ d.1.toNat) (ws i))(r0:∀i,i<n->0<=r i):∀i,i<n->r i<=δ i:=λi hi=>by
 obtain⟨k,rfl⟩:∃k,n=k+1:=⟨n-1,()⟩;have⟨t,ht,Te⟩:=Hw δ k;have nn:0<=δ t:=by
  by_cases c:0<=δ t
  ·exact c
  ·have g:=xy Te (wo t ht).to (wo t ht).c0;have o:=Rat.mul_le_mul_of_nonneg_right (wo t ht).one (show 0<= -δ t by grind);have g2:δ t<=ay (λd=>cV d*δ d.1.toNat) (ws t):=by grind
   have g3:=aaZ g2 s0;have e:=h t ht;have r:=r0 t ht;have:=Rat.mul_pos (show 0<1-s by grind) (show 0< -δ t by grind);grind
 have g:=xy (y:=δ) (m:=0) (λj hj=>by have:=Te j hj;grind) (wo i hi).to (wo i hi).c0;have:=Rat.mul_nonneg s0 (show 0<=ay (λd=>cV d*δ d.1.toNat) (ws i) by grind);have e:=h i hi;grind
def vh(c:Rat)(f:bO->Rat):∀ds:List bO,ay (λd=>c*f d) ds=c*ay f ds
 |[]=>by show(0:Rat)=c*0;grind
 |d::ds=>by show c*f d+ay (λd=>c*f d) ds=c*(f d+ay f ds);rw[vh c f ds];grind
section
variable{ε:Fr}{ws:Nat->List bO}{gv:Nat->Fr}{tb:List Fr}
def jj(ε:Fr)(ws:Nat->List bO)(gv:Nat->Fr)(x:Nat->Rat)(i:Nat):Rat:=val (gv i)+val ε*ay (λd=>cV d*x d.1.toNat) (ws i)
def Tab.cmp(S:Sys ε n B ws gv)(h:Tab ε n ws gv tb){x:Nat->Rat}{sg:Rat}(hr:∀i,i<n->0<=sg*(jj ε ws gv x i-x i)):∀i,i<n->sg*(jj ε ws gv x i-x i)<=sg*(val (tb.getD i (0,1))-x i):=by
 refine QM (δ:=λi=>sg*(val (tb.getD i (0,1))-x i)) (r:=λi=>sg*(jj ε ws gv x i-x i)) S.s0 S.s1 (ws:=ws) (λi hi=>?_) (λi hi=>?_) hr
 ·have⟨E,C,p,_⟩:=S.Hi i hi;exact p.wo
 ·have e:=h.eq i hi;have l:ay (λd=>cV d*(sg*(val (tb.getD d.1.toNat (0,1))-x d.1.toNat))) (ws i)=sg*(ay (λd=>cV d*val (tb.getD d.1.toNat (0,1))) (ws i)-ay (λd=>cV d*x d.1.toNat) (ws i)):=by rw[<-sY,<-vh];exact mn λd _=>by grind
  show sg*(val (tb.getD i (0,1))-x i)=sg*(jj ε ws gv x i-x i)+val ε*ay (λd=>cV d*(sg*(val (tb.getD d.1.toNat (0,1))-x d.1.toNat))) (ws i);rw[l,e];unfold jj;grind
end
def aQ:List (Int×Nat)->Pl->Prop
 |[],[]=>True
 |(k,c)::r,(k',v)::p=>k=k'/\0<=v/\v<c/\aQ r p
 |_,_=>False
def QD:List (Int×Nat)->List Pl
 |[]=>[[]]
 |(k,c)::r=>(List.range c).flatMap λj:Nat=>(QD r).map λp=>(k,(j:Int))::p
def Ai:∀{kc:List (Int×Nat)}{p:Pl},aQ kc p->p∈QD kc
 |[],[],_=>aa2.mpr rfl
 |(k,c)::r,(k',v)::p,h=>by have⟨rfl,v0,v1,h⟩:=h;refine List.mem_flatMap.mpr ⟨v.toNat,aba.mpr (),aaj.mpr ⟨p,Ai h,?_⟩⟩;rw[ack v0]
 |[],_::_,h=>h.elim
 |_::_,[],h=>h.elim
def cB:∀{kc:List (Int×Nat)}{p:Pl},aQ kc p->p.map (·.1)=kc.map (·.1)
 |[],[],_=>rfl
 |(k,c)::r,(k',v)::p,h=>by have⟨rfl,_,_,h⟩:=h;rw[aaH,aaH,cB h]
 |[],_::_,h=>h.elim
 |_::_,[],h=>h.elim
def yR:∀{kc:List (Int×Nat)}{p:Pl}{i v:Int},aQ kc p->Ι p i=some v->∃c,(i,c)∈kc/\0<=v/\v<(c:Int)
 |[],[],_,_,_,h=>by cases h
 |(k,c)::r,(k',v')::p,i,v,h,g=>by
  have⟨rfl,v0,v1,h⟩:=h;unfold Ι at g;split at g
  ·rename_i e;have e:k=i:=e;cases g;exact⟨c,by rw[<-e];exact aae,v0,v1⟩
  ·have⟨c',m,a⟩:=yR h g;exact⟨c',aad _ m,a⟩
 |[],_::_,_,_,h,_=>h.elim
 |_::_,[],_,_,h,_=>h.elim
def zm:∀{kc:List (Int×Nat)}{p:Pl}{i v:Int},aQ kc p->(∀c,(i,c)∈kc->0<=v/\v<(c:Int))->aQ kc (p.map λq=>if q.1=i then (q.1,v) else q)
 |[],[],_,_,_,_=>trivial
 |(k,c)::r,(k',v')::p,i,v,h,g=>by
  have⟨rfl,v0,v1,h⟩:=h;have ih:=zm h λc hc=>g c (aad _ hc);show aQ ((k,c)::r) ((if k=i then (k,v) else (k,v'))::p.map λq=>if q.1=i then (q.1,v) else q);by_cases e:k=i
  ·rw[aax e];have:=g c (by rw[<-e];exact aae);exact⟨rfl,this.1,this.2,ih⟩
  ·rw[aaw e];exact⟨rfl,v0,v1,ih⟩
 |[],_::_,_,_,h,_=>h.elim
 |_::_,[],_,_,h,_=>h.elim
def ny{i:Int}:∀{p:Pl},i∈p.map (·.1)->(Ι p i).isSome=true
 |q::p,h=>by
  unfold Ι;split
  ·rfl
  ·rcases aaK.mp h with e| e
   ·rename_i ne;exact aaL e.symm ne
   ·exact ny e
def HU{p:Pl}{i v:Int}(h:aQ kc p)(hk:i∈kc.map (·.1))(g:∀c,(i,c)∈kc->0<=v/\v<(c:Int)):aQ kc (e_ p i v):=by unfold e_;rw[aax (ny (by rw[cB h];exact hk))];exact zm h g
def Ho{α:Type}{P Q:α->Bool}:∀{l:List α},(∀a∈l,P a=true->Q a=true)->∀{b:α},b∈l->Q b=true->P b=false->l.countP P<l.countP Q
 |a::l,h,b,hb,hq,hp=>by
  have le:l.countP P<=l.countP Q:=List.countP_mono_left λx hx=>h x (aad _ hx);rw[List.countP_cons,List.countP_cons];rcases aaK.mp hb with e| e
  ·subst e;rw[hq,hp];show l.countP P+0<l.countP Q+1;omega
  ·have:=Ho (λx hx=>h x (aad _ hx)) e hq hp;have ha:=h a aae;cases hP:P a with
   |false=>rw[aaw @_];split <;> omega
   |true=>rw[ha hP,aax rfl];omega
noncomputable def Yu(ε:Fr)(γ:List Rw)(Η:Pl)(i:Nat):Rat:=open Classical in if h:∃tb,i8 ε γ Η tb then val (h.choose.getD i (0,1)) else 0
noncomputable def BW(ε:Fr)(γ:List Rw)(sg:Rat)(Η:Pl):Rat:=eR (λi=>sg*Yu ε γ Η i) γ.length
def ye{ε:Fr}{γ:List Rw}{Η:Pl}{X:Int}{tb:List Fr}(fw:FW ε γ X C)(dk:fm γ Η)(b1:1<=nq X C)(h:i8 ε γ Η tb)(i:Nat):Yu ε γ Η i=val (tb.getD i (0,1)):=by have ex:∃tb,i8 ε γ Η tb:=⟨tb,h⟩;unfold Yu;rw[dif_pos ex,(fw.sys dk b1).uniq ex.choose_spec.tab h.tab]
def Ds{f g:Nat->Rat}:∀{n:Nat},(∀i,i<n->f i<=g i)->∀{k:Nat},k<n->f k<g k->eR f n<eR g n
 |n+1,h,k,hk,hl=>by
  have le:∀{m:Nat},(∀i,i<m->f i<=g i)->eR f m<=eR g m:=λ{m}=>by
   induction m with
   |zero=>intro _;show(0:Rat)<=0;grind
   |succ m ih=>
    intro h;have:=ih λi hi=>h i (ab2 hi);have:=h m (abu _);show eR f m+f m<=eR g m+g m;grind
  show eR f n+f n<eR g n+g n;by_cases e:k=n
  ·subst e;have:=le λi hi=>h i (ab2 hi);grind
  ·have:=Ds (λi hi=>h i (ab2 hi)) (show k<n by omega) hl;have:=h n (abu _);grind
noncomputable def above(ε:Fr)(γ:List Rw)(sg:Rat)(mk:Pl->Pl)(kc:List (Int×Nat))(p:Pl):Nat:=open Classical in (QD kc).countP λq=>decide (BW ε γ sg (mk p)<BW ε γ sg (mk q))
def HL{ε:Fr}{γ:List Rw}{sg:Rat}{mk:Pl->Pl}{p q:Pl}(hq:aQ kc q)(lt:BW ε γ sg (mk p)<BW ε γ sg (mk q)):above ε γ sg mk kc q<above ε γ sg mk kc p:=by unfold above;refine Ho (λa _ ha=>?_) (Ai hq) (decide_eq_true lt) (decide_eq_false (by grind));have:=aaz ha;exact decide_eq_true (by grind)
def lV(ns:List Fr):Fr:=ns.foldl (λf n=>if cX f n then n else f) (ns.headD (0,1))
def mW(ns:List Fr):Fr:=ns.foldl (λf n=>if cX n f then n else f) (ns.headD (0,1))
def B2:DF:=λas M q _=>∃p r k l,as=[Ξ p,Ξ r]/\Sz k p/\Sz l r/\k+l+1<=8000/\q (.bl (cX p r)) M
def Lu:Ε ["one","other"] ["one","other"] (ψ Bc):=.of rfl
def HE(F:cZ K "under" "under" Bc f fd)(E:Ev K mg w Cm):av P w K mg base (cC P w) 1 f fd ["one","other"] (cW K B2):=by
 refine F.dR Lu (λds M q x h=>?_) (λbz A outer s H E' hr=>⟨_,(μ (Γ (JL (au (Ζ (jv 0) ο) (Ζ (jv 1) ο)) (au (Ζ (jv 1) ο) (Ζ (jv 0) ο))))),λds M q x h=>?_⟩)
 ·have⟨p,r,k,l,rfl,_⟩:=h;rfl
 ·have⟨p,r,k,l,rfl,hp,fV,hk,h⟩:=h;exact⟨⟨fR hp (),c7 fV ()⟩,⟨fR fV (),c7 hp ()⟩,h⟩
def xY(f:List Fr->Fr):DF:=λas M q _=>∃ns:List Fr,as=[.lst (ns.map Ξ)]/\ns≠[]/\(∀n∈ns,Sz 1300 n)/\q (Ξ (f ns)) M
def jG:Ε ["numbers","found","number"] ["numbers"] (ψ oE):=.of rfl
def AL(F:cZ K "greatest" "greatest" oE f fd)(E:Ev K mg w Cm){Cp:Addr}{CN:FuncData}(k4:aw P w K mg base 1 "under" ["one","other"] B2 Cp CN):av P w K mg base (cC P w) 2 f fd ["numbers"] (cW K (xY lV)):=by
 refine F.dR jG (λds M q x h=>?_) (λbz A outer s H E' hr=>⟨_,(η (ω 1 jG.nd (Ζ (jv 0) ο))
   (η (c8 (bC (jv 0)) (ai (i:=2) jG.nd rfl (Or.inl rfl)) aI (μ (ax (bH (aa k4 hr ξ (Ρ (jv 1) (Ρ (jv 2) θ)))) (μ (ω 1 jG.nd (jv 2))) Ο)))
   (μ (Γ (jv 1))))),λds M q x h=>?_⟩)
 ·have⟨ns,rfl,_⟩:=h;rfl
 ·have⟨ns,rfl,h0,hn,h⟩:=h;have⟨n0,ns',rfl⟩:=abr h0;walk_at "vc";refine Θ (d:=.lst ((n0::ns').map Ξ)) rfl bw ?_;refine eL (i:=0) (d:=.lst ((n0::ns').map Ξ)) rfl rfl ?_;refine bK (λxs ρ M'=>M'=M/\∃(rest:List Fr) (f:Fr) (a:Option Dt),xs=rest.map Ξ/\(∀p∈rest,Sz 1300 p)/\Sz 1300 f/\rest.foldl (λf n=>if cX f n then n else f) f=lV (n0::ns')/\ρ=[some (.lst ((n0::ns').map Ξ)),some (Ξ f),a]) (λxs ρ M' hj=>trivial) (λx xs ρ M' hj e9=>?_) (λρ M' hj=>?_) _ _ _ ⟨rfl,n0::ns',n0,none,rfl,hn,hn n0 aae,rfl,rfl⟩
  ·have⟨rfl,rest,f,a,ex,ux,hw,hf,rfl⟩:=hj;cases rest with
   |nil=>cases ex
   |cons p rest=>
    cases ex;have hp:=ux p aae;rw[abE]at hf;refine⟨f,p,1300,1300,rfl,hw,hp,@_,λz=>?_,λz=>?_⟩
    ·rw[z,aax rfl]at hf;exact e9 _ _ ⟨rfl,rest,p,_,rfl,λp hp=>ux p (aad _ hp),hp,hf,rfl⟩
    ·rw[z,aaw @_]at hf;exact e9 _ _ ⟨rfl,rest,f,_,rfl,λp hp=>ux p (aad _ hp),hw,hf,rfl⟩
  ·have⟨rfl,rest,f,a,ex,ux,hw,hf,rfl⟩:=hj;cases rest with
   |nil=>rw[<-hf]at h;exact h
   |cons p rest=>cases ex
def qS:Ε ["numbers","found","number"] ["numbers"] (ψ B7):=.of rfl
def Ij(F:cZ K "least" "least" B7 f fd)(E:Ev K mg w Cm){Cp:Addr}{CN:FuncData}(k4:aw P w K mg base 1 "under" ["one","other"] B2 Cp CN):av P w K mg base (cC P w) 2 f fd ["numbers"] (cW K (xY mW)):=by
 refine F.dR qS (λds M q x h=>?_) (λbz A outer s H E' hr=>⟨_,(η (ω 1 qS.nd (Ζ (jv 0) ο))
   (η (c8 (bC (jv 0)) (ai (i:=2) qS.nd rfl (Or.inl rfl)) aI (μ (ax (bH (aa k4 hr ξ (Ρ (jv 2) (Ρ (jv 1) θ)))) (μ (ω 1 qS.nd (jv 2))) Ο)))
   (μ (Γ (jv 1))))),λds M q x h=>?_⟩)
 ·have⟨ns,rfl,_⟩:=h;rfl
 ·have⟨ns,rfl,h0,hn,h⟩:=h;have⟨n0,ns',rfl⟩:=abr h0;walk_at "vc";refine Θ (d:=.lst ((n0::ns').map Ξ)) rfl bw ?_;refine eL (i:=0) (d:=.lst ((n0::ns').map Ξ)) rfl rfl ?_;refine bK (λxs ρ M'=>M'=M/\∃(rest:List Fr) (f:Fr) (a:Option Dt),xs=rest.map Ξ/\(∀p∈rest,Sz 1300 p)/\Sz 1300 f/\rest.foldl (λf n=>if cX n f then n else f) f=mW (n0::ns')/\ρ=[some (.lst ((n0::ns').map Ξ)),some (Ξ f),a]) (λxs ρ M' hj=>trivial) (λx xs ρ M' hj e9=>?_) (λρ M' hj=>?_) _ _ _ ⟨rfl,n0::ns',n0,none,rfl,hn,hn n0 aae,rfl,rfl⟩
  ·have⟨rfl,rest,f,a,ex,ux,hw,hf,rfl⟩:=hj;cases rest with
   |nil=>cases ex
   |cons p rest=>
    cases ex;have hp:=ux p aae;rw[abE]at hf;refine⟨p,f,1300,1300,rfl,hp,hw,@_,λz=>?_,λz=>?_⟩
    ·rw[z,aax rfl]at hf;exact e9 _ _ ⟨rfl,rest,p,_,rfl,λp hp=>ux p (aad _ hp),hp,hf,rfl⟩
    ·rw[z,aaw @_]at hf;exact e9 _ _ ⟨rfl,rest,f,_,rfl,λp hp=>ux p (aad _ hp),hw,hf,rfl⟩
  ·have⟨rfl,rest,f,a,ex,ux,hw,hf,rfl⟩:=hj;cases rest with
   |nil=>rw[<-hf]at h;exact h
   |cons p rest=>cases ex
structure Hy(ε:Fr)(γ:List Rw)(tb:List Fr):Prop where
 sh:aX ε=true
 len:γ.length<=12
 row:∀r∈γ,gu r/\fL r γ.length=true
 tl:tb.length=γ.length
 ts:∀t∈tb,Sz 1150 t
def gs(ε:Fr)(tb:List Fr):Rw->Fr
 |.fin p=>p
 |.τ k ds=>if k="one" then lV (ds.map (ae ε tb)) else mW (ds.map (ae ε tb))
def c_(ε:Fr)(tb:List Fr):Rw->List Nat
 |.fin _=>[]
 |.τ k ds=>if Β k then (List.range ds.length).filter λj=>decide (ae ε tb (ds.getD j d0)=gs ε tb (.τ k ds)) else []
def zR{ε:Fr}{γ:List Rw}{tb:List Fr}{k:Str}{ds:List bO}(f:Hy ε γ tb)(h:Rw.τ k ds∈γ):ao ds γ.length=true/\(Β k=true\/k="chance"):=by
 have h2:=(f.row _ h).2;have h2:(if Β k then ao ds γ.length else if k="chance" then ao ds γ.length&&aq (ds.map χ) else false)=true:=h2;by_cases hk:Β k=true
 ·rw[aax hk]at h2;exact⟨h2,.inl hk⟩
 ·rw[aaw hk]at h2;by_cases hc:k="chance"
  ·rw[aax hc,aav]at h2;exact⟨h2.1,.inr hc⟩
  ·rw[aaw hc]at h2;cases h2
def EF{ε:Fr}{γ:List Rw}{tb:List Fr}{k:Str}{ds:List bO}{d:bO}(f:Hy ε γ tb)(h:Rw.τ k ds∈γ)(hd:d∈ds):0<=d.1/\d.1<γ.length/\Sz 101 d.2.1:=by have h2:=(zR f h).1;unfold ao at h2;rw[aav,aav]at h2;have h3:=abw.mp h2.2 d hd;unfold aP at h3;rw[aav,aav,aap,aap]at h3;exact⟨h3.1,h3.2.1,BE h3.2.2 ((f.row _ h).1.2.2.2 d hd).2⟩
def Im{ε:Fr}{γ:List Rw}{tb:List Fr}{k:Str}{ds:List bO}(f:Hy ε γ tb)(h:Rw.τ k ds∈γ):1<=ds.length/\ds.length<=6:=by have h2:=(zR f h).1;unfold ao at h2;rw[aav,aav,aap,aap]at h2;exact h2.1
def Ey{ε:Fr}{γ:List Rw}{tb:List Fr}(f:Hy ε γ tb)(h0:0<=t)(h1:t<γ.length):lF (tb.map Ξ) t=some (Ξ (uo tb t))/\Sz 1150 (uo tb t):=by
 have hl:t.toNat<tb.length:=by rw[f.tl];omega
 have e:uo tb t=tb[t.toNat]:=by unfold uo;rw[List.getD_eq_getElem?_getD,List.getElem?_eq_getElem hl];rfl
 refine⟨?_,by rw[e];exact f.ts _ (aaG hl)⟩;have e2:(tb.map Ξ)[t.toNat]? =some (Ξ (uo tb t)):=by rw[aaq,aaa hl,e];rfl
 have:=Ν e2;rwa[show((t.toNat:Nat):Int)=t by omega]at this
def JR{ε:Fr}{γ:List Rw}{tb:List Fr}{k:Str}{ds:List bO}{d:bO}(f:Hy ε γ tb)(h:Rw.τ k ds∈γ)(hd:d∈ds):Sz 1300 (ae ε tb d):=by have⟨a,b,c⟩:=EF f h hd;exact qO (ME c (zG (nG f.sh) (Ey f a b).2)) @_
def Ur(p q:Fr):nJ [.int p.1,.int p.2] [.int q.1,.int q.2]=decide (p=q):=by
 have⟨a,b⟩:=p;have⟨c,d⟩:=q;show((a==c)&&((b==d)&&true))=_;rw[Bool.and_true];by_cases h1:a=c
 ·by_cases h2:b=d
  ·subst h1 h2;simp
  ·have:¬((a,b)=(c,d)):=λz=>h2 (Prod.mk.inj z).2;rw[decide_eq_false this];simp[h2]
 ·have:¬((a,b)=(c,d)):=λz=>h1 (Prod.mk.inj z).1;rw[decide_eq_false this];simp[h1]
def Uc{p r:Fr}{k:Bool->Ms->Prop}(h:k (decide (p=r)) M):BB (Ξ p) (Ξ r) M (λd M1=>match d with| .bl b=>k b M1| _=>False):=by show k (nJ [.int p.1,.int p.2] [.int r.1,.int r.2]) M;rw[Ur];exact h
def ql(p:Fr->Bool):∀(xs:List Fr) (n:Nat),((ji n (xs.map Ξ)).filter (λx=>match x with| .tup [_,.tup [.int a,.int b]]=>p (a,b)| _=>false)).map (λx=>match x with| .tup [i,_]=>i| _=>.bj)=((List.range xs.length).filter λj=>p (xs.getD j (0,1))).map λj:Nat=>Dt.int ((n+j:Nat):Int)
 |[],n=>rfl
 |x::xs,n=>by
  have ih:=ql p xs (n+1);rw[aaB,abF,aaH];show(List.filter _ (.tup [.int n,Ξ x]::ji (n+1) (xs.map Ξ))).map _=_;have e1:((List.map Nat.succ (List.range xs.length)).filter λj=>p ((x::xs).getD j (0,1)))=((List.range xs.length).filter λj=>p (xs.getD j (0,1))).map Nat.succ:=by rw[List.filter_map];rfl
  by_cases hp:p x=true
  ·have h1:(match Dt.tup [.int n,Ξ x] with| .tup [_,.tup [.int a,.int b]]=>p (a,b)| _=>false)=true:=hp;rw[List.filter_cons_of_pos (by exact h1),List.filter_cons_of_pos (by exact hp),aaH,aaH,ih,e1,aaM]
   congr 1
   apply abg;intro j _;show Dt.int _=Dt.int _
   congr 2;omega
  ·have h1:¬(match Dt.tup [.int n,Ξ x] with| .tup [_,.tup [.int a,.int b]]=>p (a,b)| _=>false)=true:=hp;rw[List.filter_cons_of_neg (by exact h1),List.filter_cons_of_neg (by exact hp),ih,e1,aaM];apply abg;intro j _;show Dt.int _=Dt.int _
   congr 2;omega
def Kr(C:Addr):DF:=λas M q _=>∃ε γ tb td i j k ds d,as=[aK C ε γ,.int (i:Nat),.int (j:Nat),td]/\γ[i]? =some (.τ k ds)/\ds[j]? =some d/\Hy ε γ tb/\f_ M td=some (tb.map Ξ)/\q (Ξ (ae ε tb d)) M
def nz:Ε ["self","place","door","table","taken"] ["self","place","door","table"] (ψ ky):=.of rfl
def uq(F:cZ K "shown" "Floor.shown" ky f fd)(E:Ev K mg w Cm){KS:Addr}{Ii:FuncData}(pC:aw P w K mg base 3 "plus" ["one","other"] HZ KS Ii)(gA:aw P w K mg base 3 "times" ["one","other"] xq t_ rN):av P w K mg base (cC P w) 4 f fd ["self","place","door","table"] (cW K (Kr Cm)):=by
 refine F.dR nz (λds M q x h=>?_) (λbz A outer s H E' hr=>⟨_,(η (ω 4 nz.nd (Ζ (Ζ (Ζ (tJ E.d7 E.cJ (jv 0)) (jv 1)) ο) (jv 2)))
   (μ (Γ (aa pC hr ξ (ι (Ζ (jv 4) ο) (ι (aa gA hr ξ (ι (tJ E.d7 E.fJ (jv 0)) (ι (Ζ (jv 3) (Ζ (jv 4) ο)) θ aZ))) θ aY) aZ))))),λds M q x h=>?_⟩)
 ·have⟨ε,γ,tb,td,i,j,k,ds,d,rfl,_⟩:=h;rfl
 ·have⟨ε,γ,tb,td,i,j,k,ds,d,rfl,hi,hj,f,ht,h⟩:=h;have hm:Rw.τ k ds∈γ:=aag hi;have hd:d∈ds:=aag hj;have⟨a,b,c⟩:=EF f hm hd;have⟨t1,t2⟩:=Ey f a b;have hdj:(ds.map eG)[j]? =some (eG d):=by rw[aaq,hj];rfl
  refine⟨_,_,_,.inl rfl,rfl,?_⟩;walk_at "vc";refine Θ (xs:=γ.map az) rfl (Ν (nH hi)) (zk (Θ (d:=.lst (ds.map eG)) rfl (Ν hdj) ?_));refine yH ⟨_,_,_,.inl rfl,rfl,DB (Θ (d:=td) ht t1 ⟨ε,uo tb d.1,11,1150,rfl,nG f.sh,t2,@_,d.2.1,_,101,1161,rfl,c,zG (nG f.sh) t2,@_,h⟩)⟩
def oz(C:Addr):DF:=λas M q _=>∃ε γ tb td i k ds,as=[aK C ε γ,.int (i:Nat),td]/\γ[i]? =some (.τ k ds)/\Hy ε γ tb/\f_ M td=some (tb.map Ξ)/\q (.lst (ds.map λd=>Ξ (ae ε tb d))) M
def jT:Ε ["self","place","table"] ["self","place","table"] (ψ hU):=.of rfl
def oF(F:cZ K "all_shown" "Floor.all_shown" hU f fd)(E:Ev K mg w Cm)(aR:dj P w K mg base 2 Cm "doors" ["self","place"] (rZ Cm) dz dE){zF:Addr}{zT:FuncData}(jy:dj P w K mg base 4 Cm "shown" ["self","place","door","table"] (Kr Cm) zF zT):av P w K mg base (cC P w) 5 f fd ["self","place","table"] (cW K (oz Cm)):=by
 refine F.dR jT (λds M q x h=>?_) (λbz A outer s H E' hr=>⟨_,(μ (Γ (Hz (ys:=["place","table","self"]) (af:=[1,2,0]) (.of jT rfl rfl rfl) (bY E.bM (ι (bP E.br (ι (cU (b9 aR hr ξ (jv 0) (Ρ (jv 1) θ))) θ aY)) θ aY)) (λC s H fp=>(b9 jy hr (gy (P:=P) (w:=w)) (jv 3) (Ρ (jv 1) (Ρ (jv 0) (Ρ (jv 2) θ)))))))),λds M q x h=>?_⟩)
 ·have⟨ε,γ,tb,td,i,k,ds,rfl,_⟩:=h;rfl
 ·have⟨ε,γ,tb,td,i,k,ds,rfl,hi,f,ht,h⟩:=h;have hm:Rw.τ k ds∈γ:=aag hi;have ro:=(f.row _ hm).1;have l6:=Im f hm;refine⟨⟨_,_,.inl rfl,rfl⟩,ε,γ,i,.τ k ds,rfl,hi,ro,cY (ds:=ds.map eG) (iB ds) ?_⟩;walk_at "vc";refine ar (d:=.lst (ds.map eG)) (xs:=ds.map eG) rfl ?_;rw[aac];refine⟨⟨(),()⟩,by rw[fU];exact aaE (show _<=6 by omega) @_,?_⟩;refine om (f:=λx=>match x with| .int j=>Ξ (ae ε tb (ds.getD j.toNat d0))| _=>.bj) _ _ (λx W2 q' hq=>?_) ?_
  ·have⟨j,hj,rfl⟩:=r9 W2;have hj:j<ds.length:=()
   have e:ds.getD (0+(j:Int)).toNat d0=ds[j]:=by rw[show(0+(j:Int)).toNat=j by omega,aab,aaa hj];rfl
   have hq:q' (Ξ (ae ε tb (ds.getD (0+(j:Int)).toNat d0))) M:=hq;rw[e]at hq;refine⟨⟨_,_,.inl rfl,rfl⟩,ε,γ,tb,td,i,j,k,ds,ds[j],by rw[Int.zero_add],hi,aaa hj,f,ht,hq⟩
  ·rw[aaW,show((ds.length:Int)).toNat=ds.length by omega];exact(λ(key:∀l,l=ds.map (λd=>Ξ (ae ε tb d))->q (.lst l) M)=>key _ (DO ds d0 (λd=>Ξ (ae ε tb d)))) λl hl=>by rw[hl];exact h
def NV(C:Addr):DF:=λas M q _=>∃ε γ tb td i r,as=[aK C ε γ,.int (i:Nat),td]/\γ[i]? =some r/\Β (kindOf r)=true/\Hy ε γ tb/\f_ M td=some (tb.map Ξ)/\q (Ξ (gs ε tb r)) M
def kq:Ε ["self","place","table","kind"] ["self","place","table"] (ψ mw):=.of rfl
def wL(F:cZ K "look" "Floor.look" mw f fd)(E:Ev K mg w Cm)(Υ:dj P w K mg base 1 Cm "kind" ["self","place"] (nU Cm) aT aU){oj:Addr}{pk:FuncData}(fj:dj P w K mg base 2 Cm "pay" ["self","place"] (QZ Cm) oj pk){tR:Addr}{tH:FuncData}(gO:aw P w K mg base 4 "weighed" ["chances","numbers"] uc tR tH){hX:Addr}{g7:FuncData}(bc:dj P w K mg base 5 Cm "all_shown" ["self","place","table"] (oz Cm) hX g7)(aR:dj P w K mg base 2 Cm "doors" ["self","place"] (rZ Cm) dz dE){GF:Addr}{FR:FuncData}(mT:aw P w K mg base 2 "greatest" ["numbers"] (xY lV) GF FR){QB:Addr}{Q_:FuncData}(wX:aw P w K mg base 2 "least" ["numbers"] (xY mW) QB Q_):av P w K mg base (cC P w) 6 f fd ["self","place","table"] (cW K (NV Cm)):=by
 refine F.dR kq (λds M q x h=>?_) (λbz A outer s H E' hr=>⟨_,(η (ω 3 kq.nd (b9 Υ hr ξ (jv 0) (Ρ (jv 1) θ)))
   (η (ax (cQ hr (jv 3) ia) (μ (Γ (b9 fj hr ξ (jv 0) (Ρ (jv 1) θ)))) Ο)
   (η (ax (cQ hr (jv 3) ia) (μ (Γ (aa gO hr ξ (ι (gE (ys:=[]) (af:=[]) (.of kq rfl rfl rfl) (bC (cU (b9 aR hr ξ (jv 0) (Ρ (jv 1) θ)))) (λC s H fp=>(Ζ (jv 0) ο))) (ι (b9 bc hr ξ (jv 0) (Ρ (jv 1) (Ρ (jv 2) θ))) θ aY))))) Ο)
   (η (ax (cQ hr (jv 3) ia) (μ (Γ (aa mT hr ξ (ι (b9 bc hr ξ (jv 0) (Ρ (jv 1) (Ρ (jv 2) θ))) θ aY)))) Ο)
   (μ (Γ (aa wX hr ξ (ι (b9 bc hr ξ (jv 0) (Ρ (jv 1) (Ρ (jv 2) θ))) θ aY)))))))),λds M q x h=>?_⟩)
 ·have⟨ε,γ,tb,td,i,r,rfl,_⟩:=h;rfl
 ·have⟨ε,γ,tb,td,i,r,rfl,hi,hand,f,ht,h⟩:=h;have hm:r∈γ:=aag hi;have ro:=(f.row _ hm).1;refine⟨⟨_,_,.inl rfl,rfl⟩,ε,γ,i,r,rfl,hi,?_⟩;cases r with
  |fin p=>exact⟨λ_=>⟨⟨_,_,.inl rfl,rfl⟩,ε,γ,i,.fin p,rfl,hi,ro,h⟩,λz=>(nomatch z)⟩
  |τ k ds=>
   have l6:=Im f hm;have eS:ds.map (λd=>Ξ (ae ε tb d))=(ds.map (ae ε tb)).map Ξ:=by rw[aaM];rfl
   have hS:∀n∈ds.map (ae ε tb),Sz 1300 n:=λn hn=>by have⟨d,hd,rfl⟩:=aaj.mp hn;exact JR f hm hd
   have hN:ds.map (ae ε tb)≠[]:=λz=>by have:=aa0 List.length z;rw[aac]at this;simp at this;rw[this]at l6;exact aaL l6.1 @_
   refine⟨λz=>aaL (aaz z) ro.1,λ_=>⟨λz=>?_,λz=>?_⟩⟩
   ·have z:k="chance":=aaz z;rw[z]at hand;exact aaL hand (by show¬Β (Str.ofString "chance")=true;decide)
   ·have z:k≠"chance":=abf z;refine⟨λz1=>?_,λz1=>?_⟩
    ·have z1:k="one":=aaz z1;have e1:gs ε tb (.τ k ds)=lV (ds.map (ae ε tb)):=aax z1;rw[e1]at h;refine⟨⟨_,_,.inl rfl,rfl⟩,ε,γ,tb,td,i,k,ds,rfl,hi,f,ht,?_⟩;rw[eS];exact⟨_,rfl,hN,hS,h⟩
    ·have z1:k≠"one":=abf z1;have e1:gs ε tb (.τ k ds)=mW (ds.map (ae ε tb)):=aaw z1;rw[e1]at h;refine⟨⟨_,_,.inl rfl,rfl⟩,ε,γ,tb,td,i,k,ds,rfl,hi,f,ht,?_⟩;rw[eS];exact⟨_,rfl,hN,hS,h⟩
def Ot(C:Addr):DF:=λas M q _=>∃ε γ tb td i r,as=[aK C ε γ,.int (i:Nat),td]/\γ[i]? =some r/\Hy ε γ tb/\f_ M td=some (tb.map Ξ)/\q (.lst ((c_ ε tb r).map λj:Nat=>Dt.int j)) M
def j5:Ε ["self","place","table","look"] ["self","place","table"] (ψ mJ):=.of rfl
def xP(F:cZ K "best" "Floor.best" mJ f fd)(E:Ev K mg w Cm)(Υ:dj P w K mg base 1 Cm "kind" ["self","place"] (nU Cm) aT aU){CL:Addr}{BU:FuncData}(j4:dj P w K mg base 6 Cm "look" ["self","place","table"] (NV Cm) CL BU){hX:Addr}{g7:FuncData}(bc:dj P w K mg base 5 Cm "all_shown" ["self","place","table"] (oz Cm) hX g7):av P w K mg base (cC P w) 7 f fd ["self","place","table"] (cW K (Ot Cm)):=by
 refine F.dR j5 (λds M q x h=>?_) (λbz A outer s H E' hr=>⟨_,(η (ax (vJ (b9 Υ hr ξ (jv 0) (Ρ (jv 1) θ)) (KC E.yp)) (μ (Γ (lQ θ))) Ο)
   (η (ω 3 j5.nd (b9 j4 hr ξ (jv 0) (Ρ (jv 1) (Ρ (jv 2) θ))))
   (μ (Γ (Ik (ys:=["look"]) (af:=[3]) (.of j5 rfl rfl rfl) (xh E.eK (ι (b9 bc hr ξ (jv 0) (Ρ (jv 1) (Ρ (jv 2) θ))) θ aY)) (λC s H fp=>(cQ hr (jv 1) (jv 2))) (λC s H fp=>(jv 0))))))),λds M q x h=>?_⟩)
 ·have⟨ε,γ,tb,td,i,r,rfl,_⟩:=h;rfl
 ·have⟨ε,γ,tb,td,i,r,rfl,hi,f,ht,h⟩:=h;have hm:r∈γ:=aag hi;have ro:=(f.row _ hm).1;refine⟨⟨_,_,.inl rfl,rfl⟩,ε,γ,i,r,rfl,hi,.str (kindOf r),[.str "one",.str "other"],[.str "one",.str "other"],rfl,rfl,rfl,?_⟩;rw[tQ];cases r with
  |fin p=>exact⟨λ_=>⟨@_,h⟩,λz=>(nomatch (show(!Β "end")=false from z))⟩
  |τ k ds=>
   have l6:=Im f hm;refine⟨λz=>?_,λz=>?_⟩
   ·have z:Β k=false:=by have:(!Β k)=true:=z;simpa using this
    have e1:c_ ε tb (.τ k ds)=[]:=aaw (by rw[z];decide);rw[e1]at h;exact⟨@_,h⟩
   ·have z:Β k=true:=by have:(!Β k)=false:=z;simpa using this
    have e1:c_ ε tb (.τ k ds)=(List.range ds.length).filter λj=>decide (ae ε tb (ds.getD j d0)=gs ε tb (.τ k ds)):=aax z;rw[e1]at h;refine⟨⟨_,_,.inl rfl,rfl⟩,ε,γ,tb,td,i,.τ k ds,rfl,hi,z,f,ht,?_⟩;refine⟨⟨_,_,.inl rfl,rfl⟩,ε,γ,tb,td,i,k,ds,rfl,hi,f,ht,?_⟩;generalize gs ε tb (.τ k ds)=lk at *
    have eS:ds.map (λd=>Ξ (ae ε tb d))=(ds.map (ae ε tb)).map Ξ:=by rw[aaM];rfl
    rw[eS];refine⟨_,_,_,rfl,rfl,by rw[jM,aac,aac];exact aaE l6.2 @_,?_⟩;refine eQ trivial (λx=>match x with| .tup [_,.tup [.int a,.int b]]=>decide ((a,b)=lk)| _=>false) (λx=>match x with| .tup [i,_]=>i| _=>.bj) _ _ (λx hx q' p' h1 h2=>?_) ?_
    ·have⟨j,hj,ej⟩:=abl hx;have⟨y,hy,rfl⟩:=pJ (n:=0) (i:=j) (aaf.mpr ⟨hj,ej⟩);rw[aaq]at hy;have⟨s0,hs0,rfl⟩:=abU.mp hy;have h1:decide (s0=lk)=true->q' (.int ((0+j:Nat):Int)) M:=h1;have h2:decide (s0=lk)=false->p' M:=h2;clear hx hj ej hy;have key:BB (Ξ s0) (Ξ lk) M (λd M1=>match d with| .bl b=>(match b with| true=>q' (.int ((0+j:Nat):Int)) M1| false=>p' M1)| _=>False):=by
      refine Uc (k:=λb M1=>match b with| true=>q' (.int ((0+j:Nat):Int)) M1| false=>p' M1) ?_;cases hb:decide (s0=lk) with
      |true=>exact h1 hb
      |false=>exact h2 hb
     exact key
    ·rw[aaW,ql (λs0=>decide (s0=lk)) (ds.map (ae ε tb)) 0,aac];have e3:∀j∈List.range ds.length,decide ((ds.map (ae ε tb)).getD j (0,1)=lk)=decide (ae ε tb (ds.getD j d0)=lk):=λj hj=>by have hj:=aba.mp hj;rw[aab,aaq,aab,aaa hj];rfl
     rw[List.filter_congr e3];have e4:∀l:List Nat,(l.map λj:Nat=>Dt.int ((0+j:Nat):Int))=l.map λj:Nat=>Dt.int j:=λl=>abg λj _=>by rw[Nat.zero_add]
     rw[e4];exact h
end
end Pg
namespace L2
open PySem
def Ao{g:Dt->En->(En->Prop)->Prop}{tb:DS}{Dn:lL}{k:Nat}{u:Addr->HO}{m:MO}(J:List Key->En->Ms->Prop)(aS:∀xs ρ M,J xs ρ M->M[k]? =some (.raw u))
  (step:∀x xs ρ M,J (x::xs) ρ M->(∀ρ M,J xs ρ M->uy g tb Dn k u m xs ρ M)->g (vS x) ρ λρ'=>tb {Dn with nx:=uy g tb Dn k u m xs,ct:=uy g tb Dn k u m xs,bk:=λρ M=>M[k]? =some (.raw u)/\Dn.nx ρ (M.set k m)} ρ' M)
  (fin:∀ρ M,J [] ρ M->Dn.nx ρ (M.set k m)):∀(xs:List Key) (ρ:En) (M:Ms),J xs ρ M->uy g tb Dn k u m xs ρ M
 |[],ρ,M,h=>⟨aS _ _ _ h,fin _ _ h⟩
 |x::xs,ρ,M,h=>⟨aS _ _ _ h,step x xs ρ M h λρ' M' h'=>Ao J aS step fin xs ρ' M' h'⟩
end L2
namespace Pg
open PySem L2 Fr0 Tx
variable{M:Ms}{xs:List Dt}{ds:List bO}{mg:Str->Option Value}{f cL ef q5:Addr}{fd cM eA rX:FuncData}{ε:Fr}{γ:List Rw}{tb:List Fr}{X C a b:Int}{Η p:Pl}{i j n:Nat}{r:Rw}{d:bO}{hand υ:Str}{cK:Bool}
def iR(ε:Fr)(γ:List Rw)(tb:List Fr)(i:Int):List Nat:=match γ[i.toNat]? with
 |some r=>c_ ε tb r
 |none=>[]
def A1(l:List Nat)(v:Int):Bool:=QT (.int v) (l.map λj:Nat=>V.int j)
def qB(ε:Fr)(γ:List Rw)(tb:List Fr)(p:Int×Int):Pl:=if A1 (iR ε γ tb p.1) p.2 then [] else [(p.1,((iR ε γ tb p.1).headD 0:Nat))]
def Λ(ε:Fr)(γ:List Rw)(tb:List Fr)(pl:Pl):Pl:=pl.flatMap (qB ε γ tb)
def vX:∀l:List Nat,g9 (l.map λj:Nat=>Dt.int j)=some (l.map λj:Nat=>V.int j)
 |[]=>rfl
 |j::l=>by have ih:=vX l;rw[aaH,aaH];unfold g9;rw[ih];rfl
def AY{k:Nat}{m:MO}(h:M[k]? =some m):M.set k m=M:=by
 apply List.ext_getElem?;intro i;rw[List.getElem?_set];split
 ·rename_i e;subst e;rw[aax (aaf.mp h).1,h]
 ·rfl
def qR(pl:Pl):vP pl=(pl.map (·.2)).map Dt.int:=by unfold vP;rw[List.map_map];rfl
def fZ{ε:Fr}{γ:List Rw}{tb:List Fr}{i:Int}:∀{pl:Pl},i∈(Λ ε γ tb pl).map (·.1)->i∈pl.map (·.1)
 |p::r,h=>by
  unfold Λ at h;rw[List.flatMap_cons,aa8]at h;rcases aaV.mp h with z| z
  ·unfold qB at z;split at z
   ·cases z
   ·rw[aaH];exact aaK.mpr (.inl (aa2.mp z))
  ·exact aad _ (fZ z)
def mi{ε:Fr}{γ:List Rw}{tb:List Fr}:∀pl:Pl,(Λ ε γ tb pl).length<=pl.length
 |[]=>aan _
 |p::r=>by
  have ih:=mi (ε:=ε) (γ:=γ) (tb:=tb) r;unfold Λ at ih⊢;rw[List.flatMap_cons,aah,aaB];have:(qB ε γ tb p).length<=1:=by
   unfold qB;split
   ·exact ab9 _
   ·exact aan _
  omega
def nD{i:Int}:∀{pl:Pl},i∉pl.map (·.1)->Ι pl i=none
 |[],_=>rfl
 |p::r,h=>by unfold Ι;rw[aaw λz=>h (by rw[<-z];exact aae)];exact nD λz=>h (aad _ z)
def MZ{E:Ms}{td:Dt}(h:f_ M td=some xs):f_ (M++E) td=some xs:=by
 cases td with
 |loc j=>
  have h:(match M[j]? with| some (.lst xs)=>some xs| _=>none)=some xs:=h;show(match (M++E)[j]? with| some (.lst xs)=>some xs| _=>none)=some xs;cases e:M[j]? with
  |none=>rw[e]at h;cases h
  |some m=>rw[aj e];rw[e]at h;exact h
 |_=>exact h
def MF{td:Dt}{k:Nat}{ks:List Key}{ds:List Dt}{m:MO}(h:f_ M td=some xs)(hk:M[k]? =some (.bX ks ds)):f_ (M.set k m) td=some xs:=by
 cases td with
 |loc j=>
  have h:(match M[j]? with| some (.lst xs)=>some xs| _=>none)=some xs:=h;show(match (M.set k m)[j]? with| some (.lst xs)=>some xs| _=>none)=some xs;rw[aa9 (λz=>by rw[<-z,hk]at h;cases h)];exact h
 |_=>exact h
section
variable{P:Program}{w:World}{K:fI}{base:Heap}{Cm:Addr}
def Ej(A:Addr):DF:=λas M q _=>∃(ε:Fr) (γ:List Rw) (tb:List Fr) (td:Dt) (k:Nat) (pl:Pl),as=[aK A ε γ,.loc k,td]/\M[k]? =some (dP pl)/\Hy ε γ tb/\f_ M td=some (tb.map Ξ)/\qc pl/\pl.length<=12/\(∀p∈pl,0<=p.1/\∃r,γ[p.1.toNat]? =some r/\Β (kindOf r)=true/\c_ ε tb r≠[])/\q (.loc M.length) (M++[dP (Λ ε γ tb pl)])
def fK:Ε ["floor","plan","table","better","place","best"] ["floor","plan","table"] (ψ jL):=.of rfl
def rF(F:cZ K "better_doors" "better_doors" jL f fd)(E:Ev K mg w Cm){Cn:Addr}{CO:FuncData}(kB:dj P w K mg base 7 Cm "best" ["self","place","table"] (Ot Cm) Cn CO):av P w K mg base (cC P w) 8 f fd ["floor","plan","table"] (cW K (Ej Cm)):=by
 refine F.dR fK (λds M q x h=>?_) (λbz A outer s H E' hr=>⟨_,(η (ω 3 fK.nd xH)
   (η (MT (jv 1) (ai (i:=4) fK.nd rfl (Or.inl rfl)) aI (η (ω 5 fK.nd (b9 kB hr ξ (jv 0) (Ρ (jv 4) (Ρ (jv 2) θ))))
   (μ (ax (vJ (MU (jv 1) (jv 4)) (jv 5)) (μ (jD hr (jv 3) (jv 4) (Ζ (jv 5) ο))) Ο))))
   (μ (Γ (jv 3))))),λds M q x h=>?_⟩)
 ·have⟨ε,γ,tb,td,k,pl,rfl,_⟩:=h;rfl
 ·have⟨ε,γ,tb,td,k,pl,rfl,hk,f,ht,nd,qj,hp,h⟩:=h;have kl:k<M.length:=(aaf.mp hk).1;walk_at "vc";refine⟨k,kP pl,pl.map (·.2),rfl,by rw[<-qR];exact aj hk,λep=>?_⟩;show uy _ _ _ k (G9 P w (kP pl) (pl.map (·.2)) ep) _ _ _ ((M++[MO.bX [] []]).set k (.raw (G9 P w (kP pl) (pl.map (·.2)) ep)));have Rc:∀p∈pl,aH (kP pl) ((pl.map (·.2)).map Dt.int) (Sum.inl p.1)=some (.int p.2):=λp hm=>by
   rw[<-qR,kE];have:∀{l:Pl},qc l->p∈l->Ι l p.1=some p.2:=λ{l}=>by
    induction l with
    |nil=>intro _ z;cases z
    |cons a l ih=>
     intro nl hm;unfold qc at nl;rw[aaH,abC]at nl;unfold Ι;rcases aaK.mp hm with e| e
     ·rw[aax (by rw[e]),e]
     ·rw[aaw λz=>nl.1 (by rw[z];exact aaj.mpr ⟨p,e,rfl⟩)];exact ih nl.2 e
   rw[this nd hm];rfl
  generalize hu:G9 P w (kP pl) (pl.map (·.2)) ep=u;have YF:(M++[MO.bX [] []]).set k (.raw u)=M.set k (.raw u)++[dP []]:=by rw[ab0 _ _ kl];rfl
  have hb:∀Η,((M.set k (.raw u)++[dP Η]).set k (.bX (kP pl) (vP pl)))=M++[dP Η]:=λΗ=>by
   rw[ab0 _ _ (by rw[abn];exact kl),List.set_set]
   congr 1
   exact AY hk
  rw[YF];refine Ao (λxs ρ' M'=>∃(fq rest:Pl) (o4 o5:Option Dt),pl=fq++rest/\xs=kP rest/\M'=M.set k (.raw u)++[dP (Λ ε γ tb fq)]/\ρ'=[some (aK Cm ε γ),some (.loc k),some td,some (.loc M.length),o4,o5]) (λxs ρ' M' hj=>?_) (λx xs ρ' M' hj e9=>?_) (λρ' M' hj=>?_) _ _ _ ⟨[],pl,none,none,rfl,rfl,rfl,rfl⟩
  ·have⟨fq,rest,o4,o5,e,rfl,rfl,rfl⟩:=hj;exact aj (by rw[aa3 kl])
  ·have⟨fq,rest,o4,o5,e,ex,rfl,rfl⟩:=hj;cases rest with
   |nil=>cases ex
   |cons p rest=>
    cases ex;have pm:p∈pl:=by rw[e];simp
    have⟨p0,r,Wb,ux,hr3⟩:=hp p pm;have⟨p1,v⟩:=p;obtain⟨i,rfl⟩:∃i:Nat,p1=(i:Int):=⟨p1.toNat,by have:0<=p1:=p0;omega⟩;have Wb:γ[i]? =some r:=Wb;have hbA:iR ε γ tb (i:Int)=c_ ε tb r:=by unfold iR;rw[abS,Wb]
    have MR:(M.set k (.raw u)++[dP (Λ ε γ tb fq)])[k]? =some (.raw u):=aj (by rw[aa3 kl]);have SK:(M.set k (.raw u)++[dP (Λ ε γ tb fq)])[M.length]? =some (dP (Λ ε γ tb fq)):=by have:=aE (M:=M.set k (.raw u)) (o:=dP (Λ ε γ tb fq));rwa[abn]at this
    have bsn:Λ ε γ tb (fq++[((i:Int),v)])=Λ ε γ tb fq++qB ε γ tb ((i:Int),v):=by unfold Λ;rw[List.flatMap_append];simp
    have Vv:∀Η o5,Η=Λ ε γ tb (fq++[((i:Int),v)])->_:=λΗ o5 ea=>e9 [some (aK Cm ε γ),some (.loc k),some td,some (.loc M.length),some (.int (i:Int)),o5] (M.set k (.raw u)++[dP Η]) ⟨fq++[((i:Int),v)],rest,_,o5,by rw[e,abb];rfl,rfl,by rw[ea],rfl⟩;have hg:=Rc _ pm;rw[<-hu]at MR SK Vv⊢;walk_at "vc";refine⟨⟨_,_,.inl rfl,rfl⟩,ε,γ,tb,td,i,r,rfl,Wb,f,MZ (MF ht hk),?_⟩;generalize c_ ε tb r=bl at *
    refine⟨k,kP pl,(pl.map λx:Int×Int=>x.2),ep,Sum.inl (i:Int),v,rfl,MR,rfl,hg,?_⟩;refine⟨.int v,_,_,rfl,rfl,vX bl,λz=>?_,λz=>?_⟩
    ·have z:(!A1 bl v)=true:=z;have z:¬A1 bl v=true:=by simpa using z
     have⟨j,bl',rfl⟩:=abr hr3;dsimp only[lZ];walk_at "vc";refine(Θ (d:=.lst ((j::bl').map λj:Nat=>Dt.int j)) rfl bw ?_:cE (.lst ((j::bl').map λj:Nat=>Dt.int j)) (.int 0) _ _);have ll:=mi (ε:=ε) (γ:=γ) (tb:=tb) fq;have dl:fq.length<=12:=by have:=aa0 List.length e;rw[aah]at this;omega
     refine⟨M.length,_,_,Sum.inl (i:Int),rfl,SK,rfl,by unfold kP;rw[List.length_map];omega,?_⟩;rw[p9 (v:=(j:Int)),rM];have gn:Ι (Λ ε γ tb fq) (i:Int)=none:=nD λy=>by have y:=fZ y;rw[e]at nd;unfold qc at nd;rw[aa8,acx]at nd;exact nd.2.2 _ y _ aae rfl
     have e1:e_ (Λ ε γ tb fq) (i:Int) (j:Int)=Λ ε γ tb (fq++[((i:Int),v)]):=by rw[bsn];unfold e_ qB;rw[gn,hbA,aaw z,aaw @_];rfl
     rw[e1,List.set_append_right (h:=by rw[abn];exact aan _),abn,Nat.sub_self];exact Vv _ _ rfl
    ·have z:(!A1 bl v)=false:=z;have z:A1 bl v=true:=by simpa using z
     exact Vv _ _ (by rw[bsn];unfold qB;rw[hbA,if_pos z,List.append_nil])
  ·have⟨fq,rest,o4,o5,e,ex,rfl,rfl⟩:=hj;have:rest=[]:=by cases rest with| nil=>rfl| cons p r=>cases ex
   subst this;rw[aa7]at e;rw[qR]at hb;rw[hb,<-e];exact h
def e7(γ:List Rw)(i:Nat):Str:=match γ[i]? with
 |some r=>kindOf r
 |none=>""
def jF(γ:List Rw)(hand:Str):List Nat:=(List.range γ.length).filter λi=>decide (e7 γ i=hand)
def Ca(γ:List Rw)(hand:Str):Pl:=(jF γ hand).map λi:Nat=>((i:Int),0)
def Cf(p:Nat->Bool)(n:Nat):((dN 0 n).filter λx=>match x with| .int j=>p j.toNat| _=>false)=((List.range n).filter p).map λi:Nat=>Dt.int i:=by
 unfold dN;rw[List.filter_map];have e:((λx:Dt=>match x with| .int j=>p j.toNat| _=>false) ∘ λi:Nat=>Dt.int (0+(i:Int)))=p:=funext λi=>by show p (0+(i:Int)).toNat=p i;rw[show(0+(i:Int)).toNat=i by omega]
 rw[e];exact abg λi _=>by show Dt.int (0+(i:Int))=Dt.int i;rw[Int.zero_add]
def DL(A:Addr):DF:=λas M q _=>∃(ε:Fr) (γ:List Rw) (hand:Str),as=[aK A ε γ,.str hand]/\γ.length<=12/\q (.lst ((jF γ hand).map λi:Nat=>Dt.int i)) M
def tm:Ε ["floor","hand"] ["floor","hand"] (ψ pH):=.of rfl
def zV(F:cZ K "places_of" "places_of" pH f fd)(E:Ev K mg w Cm){et:Addr}{eC:FuncData}(a_:dj P w K mg base 1 Cm "size" ["self"] (y8 Cm) et eC){aT:Addr}{aU:FuncData}(Υ:dj P w K mg base 1 Cm "kind" ["self","place"] (nU Cm) aT aU):av P w K mg base (cC P w) 2 f fd ["floor","hand"] (cW K (DL Cm)):=by
 refine F.dR tm (λds M q x h=>?_) (λbz A outer s H E' hr=>⟨_,(μ (Γ (zS (ys:=["hand","floor"]) (af:=[1,0]) (.of tm rfl rfl rfl) (Ou (bY E.bM (ι (kZ a_ hr ξ (jv 0)) θ aY))) (λC s H fp=>(cQ hr (b9 Υ hr (gy (P:=P) (w:=w)) (jv 2) (Ρ (jv 0) θ)) (jv 1))) (λC s H fp=>(jv 0))))),λds M q x h=>?_⟩)
 ·have⟨ε,γ,hand,rfl,_⟩:=h;rfl
 ·have⟨ε,γ,hand,rfl,qj,h⟩:=h;have sl:∀{z:Nat},z<=1000->z<=sizeLine:=λh=>aaE h @_;walk_at "vc";dsimp only[w4,kOf];walk_at "vc";refine⟨⟨_,_,.inl rfl,rfl⟩,ε,γ,rfl,?_⟩;refine⟨(),by rw[fU];exact sl (),?_⟩;rw[show((γ.length:Int)).toNat=γ.length by omega];refine eQ trivial (λx=>match x with| .int j=>decide (e7 γ j.toNat=hand)| _=>false) (λx=>x) _ _ (λx hx q' p' h1 h2=>?_) ?_
  ·have⟨j,hj,rfl⟩:=r9 hx;rw[Int.zero_add]at h1 h2⊢;have hr:γ[j]? =some γ[j]:=aaa hj;have Qe:e7 γ j=kindOf γ[j]:=by unfold e7;rw[hr]
   have h1:decide (e7 γ j=hand)=true->q' (.int (j:Int)) M:=h1;have h2:decide (e7 γ j=hand)=false->p' M:=h2;rw[Qe]at h1 h2;refine⟨⟨_,_,.inl rfl,rfl⟩,ε,γ,j,γ[j],rfl,hr,?_⟩;show(match decide (kindOf γ[j]=hand) with| true=>q' (.int (j:Int)) M| false=>p' M);cases hb:decide (kindOf γ[j]=hand) with
   |true=>exact h1 hb
   |false=>exact h2 hb
  ·rw[aaW,List.map_id'];exact(λ(key:∀l,l=(jF γ hand).map (λi:Nat=>Dt.int i)->q (.lst l) M)=>key _ (Cf (λi=>decide (e7 γ i=hand)) γ.length)) λl hl=>by rw[hl];exact h
def El(A:Addr):DF:=λas M q _=>∃(ε:Fr) (γ:List Rw) (hand:Str),as=[aK A ε γ,.str hand]/\γ.length<=12/\q (.loc M.length) (M++[dP (Ca γ hand)])
def j9:Ε ["floor","hand","plan","place"] ["floor","hand"] (ψ l9):=.of rfl
def ym(F:cZ K "first_plan" "first_plan" l9 f fd)(E:Ev K mg w Cm){Fo:Addr}{FK:FuncData}(ma:aw P w K mg base 2 "places_of" ["floor","hand"] (DL Cm) Fo FK):av P w K mg base (cC P w) 3 f fd ["floor","hand"] (cW K (El Cm)):=by
 refine F.dR j9 (λds M q x h=>?_) (λbz A outer s H E' hr=>⟨_,(η (ω 2 j9.nd xH)
   (η (c8 (bC (aa ma hr ξ (Ρ (jv 0) (Ρ (jv 1) θ)))) (ai (i:=3) j9.nd rfl (Or.inl rfl)) aI (μ (jD hr (jv 2) (jv 3) ο)))
   (μ (Γ (jv 2))))),λds M q x h=>?_⟩)
 ·have⟨ε,γ,hand,rfl,_⟩:=h;rfl
 ·have⟨ε,γ,hand,rfl,qj,h⟩:=h;have aeW:(jF γ hand).length<=12:=by have:=aca (λi=>decide (e7 γ i=hand)) (List.range γ.length);rw[abc]at this;unfold jF;omega
  have Z_:(jF γ hand).Nodup:=List.nodup_range.filter _;walk_at "vc";dsimp only[qe,fc];walk_at "vc";refine⟨ε,γ,hand,rfl,qj,?_⟩;refine bK (λxs ρ' M'=>∃(fq rest:List Nat) (o3:Option Dt),jF γ hand=fq++rest/\xs=rest.map (λi:Nat=>Dt.int i)/\M'=M++[dP (fq.map λi:Nat=>((i:Int),0))]/\ρ'=[some (aK Cm ε γ),some (.str hand),some (.loc M.length),o3]) (λxs ρ' M' hj=>trivial) (λx xs ρ' M' hj e9=>?_) (λρ' M' hj=>?_) _ _ _ ⟨[],jF γ hand,none,rfl,rfl,rfl,rfl⟩
  ·have⟨fq,rest,o3,e,ex,rfl,rfl⟩:=hj;cases rest with
   |nil=>cases ex
   |cons i rest=>
    cases ex;have dl:fq.length<=12:=by have:=aa0 List.length e;rw[aah]at this;omega
    dsimp only[lZ];walk_at "vc";refine⟨M.length,_,_,Sum.inl (i:Int),rfl,aE,rfl,by unfold kP;rw[List.length_map,List.length_map];omega,?_⟩;rw[p9 (v:=0),rM,de];have gn:Ι (fq.map λi:Nat=>((i:Int),0)) (i:Int)=none:=nD λy=>by
     rw[aaM]at y;have⟨j,hj,ej⟩:=aaj.mp y;have ej:(j:Int)=(i:Int):=ej;have:j=i:=()
     subst this;rw[e,acx]at Z_;exact Z_.2.2 _ hj _ aae rfl
    refine e9 _ _ ⟨fq++[i],rest,_,by rw[e,abb];rfl,rfl,?_,rfl⟩;unfold e_;rw[gn,aaw @_,aa8];rfl
  ·have⟨fq,rest,o3,e,ex,rfl,rfl⟩:=hj;have:rest=[]:=by cases rest with| nil=>rfl| cons p r=>cases ex
   subst this;rw[aa7]at e;rw[<-e];exact h
def bG:Pl->Pl->Pl
 |p,[]=>p
 |p,e::r=>bG (e_ p e.1 e.2) r
def Jk:∀{r p:Pl},qh (kP p) (kP r)=kP (bG p r)
 |[],p=>rfl
 |e::r,p=>by show qh (eV (kP p) (Sum.inl e.1)) (kP r)=kP (bG (e_ p e.1 e.2) r);rw[p9 (v:=e.2)];exact Jk
def IJ:∀{r p:Pl},sN (kP p) (vP p) (kP r) (vP r)=vP (bG p r)
 |[],p=>rfl
 |e::r,p=>by show sN (eV (kP p) (Sum.inl e.1)) (dM (kP p) (Sum.inl e.1) (vP p) (.int e.2)) (kP r) (vP r)=vP (bG (e_ p e.1 e.2) r);rw[p9 (v:=e.2),rM];exact IJ
def d9{i:Int}:∀{r p:Pl},qc r->Ι (bG p r) i=match Ι r i with| some v=>some v| none=>Ι p i
 |[],p,_=>rfl
 |e::r,p,nd=>by
  unfold qc at nd;rw[aaH,abC]at nd;have ih:=d9 (i:=i) (r:=r) (p:=e_ p e.1 e.2) nd.2;show Ι (bG (e_ p e.1 e.2) r) i=match (if e.1=i then some e.2 else Ι r i) with| some v=>some v| none=>Ι p i
  rw[ih,k7];by_cases h:e.1=i
  ·have hn:Ι r i=none:=by
    cases hg:Ι r i with
    |none=>rfl
    |some v=>exact aaL (aaj.mpr ⟨_,ES hg,h.symm⟩) nd.1
   rw[hn,aax h,aax h.symm]
  ·rw[aaw h,aaw (Ne.symm h)]
def Vi(A:Addr):DF:=λas M q _=>∃(ε:Fr) (γ:List Rw) (kh ka:Nat) (ph pa:Pl) (X C:Int),as=[aK A ε γ,.loc kh,.loc ka]/\M[kh]? =some (dP ph)/\M[ka]? =some (dP pa)/\ph.length+pa.length<=1000/\fm γ (bG ph pa)/\FW ε γ X C/\nq X C<=2^450/\(12*nq X C)^γ.length<2^1030/\∀tb,i8 ε γ (bG ph pa) tb->q (.loc (M.length+1)) (M++[dP (bG ph pa),.lst (tb.map Ξ)])
def jR:Ε ["floor","held","answer","doors"] ["floor","held","answer"] (ψ gW):=.of rfl
def oV(F:cZ K "worths_against" "worths_against" gW f fd)(E:Ev K mg w Cm){oB:Addr}{oI:FuncData}(fA:aw P w K mg base 7 "worths_by" ["floor","doors"] (Qk Cm) oB oI):av P w K mg base (cC P w) 8 f fd ["floor","held","answer"] (cW K (Vi Cm)):=by
 refine F.dR jR (λds M q x h=>?_) (λbz A outer s H E' hr=>⟨_,(η (ω 3 jR.nd (wu E.kK (Ρ (jv 1) θ)))
   (η (eT (JM (jv 3) (jv 2)))
   (μ (Γ (aa fA hr ξ (Ρ (jv 0) (Ρ (jv 3) θ))))))),λds M q x h=>?_⟩)
 ·have⟨ε,γ,kh,ka,ph,pa,X,C,rfl,_⟩:=h;rfl
 ·have⟨ε,γ,kh,ka,ph,pa,X,C,rfl,hh,ha,lz,dk,fw,me,x',h⟩:=h;walk_at "vc";refine⟨kh,_,_,rfl,hh,?_⟩;dsimp only[Ih];walk_at "vc";have kl:ka<M.length:=(aaf.mp ha).1;refine⟨⟨M.length,_,_,rfl,aE⟩,M.length,ka,_,_,_,_,rfl,rfl,(),aE,aj ha,by unfold kP;rw[List.length_map,List.length_map];exact lz,?_⟩;rw[Jk,IJ,de];refine⟨ε,γ,_,_,X,C,rfl,aE,dk,fw,me,x',λtb wt=>?_⟩;have:=h tb wt;simpa [List.append_assoc] using this
def K7{a b:Fr}(ha:0<a.2)(hb:0<b.2):a.1*b.2<=b.1*a.2↔val a<=val b:=by
 have e1:val a*(a.2:Rat)=a.1:=by
  have:=aJ (show a.2≠0 by omega);unfold val;generalize (a.1:Rat)=x at *
  generalize (a.2:Rat)=y at *
  grind
 have e2:val b*(b.2:Rat)=b.1:=by
  have:=aJ (show b.2≠0 by omega);unfold val;generalize (b.1:Rat)=x at *
  generalize (b.2:Rat)=y at *
  grind
 have p1:(0:Rat)<(a.2:Rat):=abG.mpr ha;have p2:(0:Rat)<(b.2:Rat):=abG.mpr hb;have pp:=Rat.mul_pos p1 p2;rw[<-abh,aaQ,aaQ,<-e1,<-e2];generalize (a.2:Rat)=y at *
 generalize (b.2:Rat)=z at *
 generalize val a=u at *
 generalize val b=v at *
 constructor
 ·intro h;by_cases c:u<=v
  ·exact c
  ·have:=Rat.mul_pos (show 0<u-v by grind) pp;grind
 ·intro h;have:=abO h (Rat.le_of_lt pp);grind
def k_{f n:Fr}(h1:0<f.2)(h2:0<n.2):cX f n=true↔val f<val n:=by
 unfold cX;rw[aap];have:=K7 h2 h1;constructor
 ·intro h;by_cases c:val n<=val f
  ·have:=this.mpr c;omega
  ·grind
 ·intro h;by_cases c:n.1*f.2<=f.1*n.2
  ·have:=this.mp c;grind
  ·omega
def l':∀(ns:List Fr) (f:Fr),0<f.2->(∀n∈ns,0<n.2)->(ns.foldl (λf n=>if cX f n then n else f) f∈f::ns)/\val f<=val (ns.foldl (λf n=>if cX f n then n else f) f)/\∀n∈ns,val n<=val (ns.foldl (λf n=>if cX f n then n else f) f)
 |[],f,_,_=>⟨List.mem_cons_self,by show val f<=val f;grind,λ_ z=>nomatch z⟩
 |a::ns,f,h,hn=>by
  have ha:=hn a aae;have u:=k_ h ha;rw[abE];by_cases c:cX f a=true
  ·rw[aax c];have⟨m,l,al⟩:=l' ns a ha λn z=>hn n (aad _ z);have:=u.mp c;refine⟨List.mem_cons_of_mem _ m,by grind,λn z=>?_⟩;rcases aaK.mp z with e| e
   ·rw[e];exact l
   ·exact al n e
  ·rw[aaw c];have⟨m,l,al⟩:=l' ns f h λn z=>hn n (aad _ z);have c2:¬val f<val a:=λz=>c (u.mpr z);refine⟨?_,l,λn z=>?_⟩
   ·rcases aaK.mp m with e| e
    ·rw[e];exact aae
    ·exact aad _ (aad _ e)
   ·rcases aaK.mp z with e| e
    ·rw[e];grind
    ·exact al n e
def l7:∀(ns:List Fr) (f:Fr),0<f.2->(∀n∈ns,0<n.2)->(ns.foldl (λf n=>if cX n f then n else f) f∈f::ns)/\val (ns.foldl (λf n=>if cX n f then n else f) f)<=val f/\∀n∈ns,val (ns.foldl (λf n=>if cX n f then n else f) f)<=val n
 |[],f,_,_=>⟨List.mem_cons_self,by show val f<=val f;grind,λ_ z=>nomatch z⟩
 |a::ns,f,h,hn=>by
  have ha:=hn a aae;have u:=k_ ha h;rw[abE];by_cases c:cX a f=true
  ·rw[aax c];have⟨m,l,al⟩:=l7 ns a ha λn z=>hn n (aad _ z);have:=u.mp c;refine⟨List.mem_cons_of_mem _ m,by grind,λn z=>?_⟩;rcases aaK.mp z with e| e
   ·rw[e];exact l
   ·exact al n e
  ·rw[aaw c];have⟨m,l,al⟩:=l7 ns f h λn z=>hn n (aad _ z);have c2:¬val a<val f:=λz=>c (u.mpr z);refine⟨?_,l,λn z=>?_⟩
   ·rcases aaK.mp m with e| e
    ·rw[e];exact aae
    ·exact aad _ (aad _ e)
   ·rcases aaK.mp z with e| e
    ·rw[e];grind
    ·exact al n e
def h_(k:Str):Rat:=if k="one" then 1 else -1
section
variable{k:Str}
def pP(h0:ds≠[])(hp:∀d∈ds,0<(ae ε tb d).2):gs ε tb (.τ k ds)∈ds.map (ae ε tb)/\∀d∈ds,h_ k*val (ae ε tb d)<=h_ k*val (gs ε tb (.τ k ds)):=by
 have⟨d1,oa,rfl⟩:=abr h0;have hn:∀n∈(d1::oa).map (ae ε tb),0<n.2:=λn hn=>by have⟨d,hd,rfl⟩:=aaj.mp hn;exact hp d hd
 have h1:=hp d1 aae;unfold h_;by_cases e:k="one"
 ·have e1:gs ε tb (.τ k (d1::oa))=lV ((d1::oa).map (ae ε tb)):=aax e;have⟨m,l,al⟩:=l' ((d1::oa).map (ae ε tb)) (ae ε tb d1) h1 hn;have e2:lV ((d1::oa).map (ae ε tb))=((d1::oa).map (ae ε tb)).foldl (λf n=>if cX f n then n else f) (ae ε tb d1):=rfl;rw[e1,e2,aax e];refine⟨?_,λd hd=>?_⟩
  ·rcases aaK.mp m with y| y
   ·rw[y];exact aae
   ·exact y
  ·have:=al _ (aaj.mpr ⟨d,hd,rfl⟩);grind
 ·have e1:gs ε tb (.τ k (d1::oa))=mW ((d1::oa).map (ae ε tb)):=aaw e;have⟨m,l,al⟩:=l7 ((d1::oa).map (ae ε tb)) (ae ε tb d1) h1 hn;have e2:mW ((d1::oa).map (ae ε tb))=((d1::oa).map (ae ε tb)).foldl (λf n=>if cX n f then n else f) (ae ε tb d1):=rfl;rw[e1,e2,aaw e];refine⟨?_,λd hd=>?_⟩
  ·rcases aaK.mp m with y| y
   ·rw[y];exact aae
   ·exact y
  ·have:=al _ (aaj.mpr ⟨d,hd,rfl⟩);grind
end
def xV{l:List Nat}{v:Int}:A1 l v=true↔∃j∈l,(j:Int)=v:=by
 unfold A1 QT;rw[List.any_eq_true];constructor
 ·rintro⟨u,hu,e⟩;have⟨j,hj,rfl⟩:=aaj.mp hu;refine⟨j,hj,?_⟩;unfold qo at e;simpa using e
 ·rintro⟨j,hj,e⟩;refine⟨.int j,aaj.mpr ⟨j,hj,rfl⟩,?_⟩;unfold qo;simpa using e
section
variable{cc:Pl}{k:Str}
def nY(hi:γ[i]? =some r):iZ γ i=r:=by unfold iZ;rw[aab,hi];rfl
def iU(hh:Β k=true):j∈c_ ε tb (.τ k ds)↔j<ds.length/\ae ε tb (ds.getD j d0)=gs ε tb (.τ k ds):=by have e:c_ ε tb (.τ k ds)=(List.range ds.length).filter λj=>decide (ae ε tb (ds.getD j d0)=gs ε tb (.τ k ds)):=aax hh;rw[e,List.mem_filter,aba,aap]
def LJ(hh:Β k=true)(h0:ds≠[])(hp:∀d∈ds,0<(ae ε tb d).2):c_ ε tb (.τ k ds)≠[]:=by have⟨m,_⟩:=pP (k:=k) h0 hp;have⟨d,hd,e⟩:=aaj.mp m;have⟨j,jl,ej⟩:=abl hd;have:j∈c_ ε tb (.τ k ds):=(iU hh).mpr ⟨jl,by rw[aab,aaa jl];show ae ε tb ds[j]=_;rw[ej,e]⟩;exact List.ne_nil_of_mem this
def gH(fw:FW ε γ X C)(hm:Rw.τ k ds∈γ)(hd:d∈ds)(hp:∀t,t<γ.length->0<(tb.getD t (0,1)).2):val (ae ε tb d)=val d.2.1+val ε*val (tb.getD d.1.toNat (0,1))/\Red (ae ε tb d):=by have s0:=fw.sh.1;have dr:=dD fw.pl hm;have⟨t0,t1⟩:=dr.to d hd;have tp:0<(tb.getD d.1.toNat (0,1)).2:=hp _ ();have p0:=(dr.py d hd).2;have t:Red (aN ε (tb.getD d.1.toNat (0,1))):=b7 (abp (aaP s0 tp));refine⟨?_,b7 (abp (aaP p0 t.pos))⟩;show val (eO d.2.1 (aN ε (tb.getD d.1.toNat (0,1))))=_;rw[s_ p0 t.pos,lC s0 tp]
def jg(fw:FW ε γ X C)(hi:γ[i]? =some (.τ k ds))(hh:Β k=true)(gj:Ι Η i=some (j:Int))(jl:j<ds.length)(hp:∀t,t<γ.length->0<(tb.getD t (0,1)).2):jj ε (vb γ Η) (vB γ Η) (λx=>val (tb.getD x (0,1))) i=val (ae ε tb (ds.getD j d0)):=by
 have rm:Rw.τ k ds∈γ:=aag hi;have gd:ds.getD j d0=ds[j]:=by rw[aab,aaa jl];rfl
 have dm:=aaG jl;have e:aD Η i (.τ k ds)=[(ds[j].1,ds[j].2.1,[(1,1)])]:=by unfold aD;rw[gj];show[((ds.getD ((j:Int)).toNat d0).1,(ds.getD ((j:Int)).toNat d0).2.1,(ds.getD ((j:Int)).toNat d0).2.2++[(1,1)])]=_;rw[abS,gd,fw.hnd k ds rm hh _ dm];rfl
 have v1:val ((1,1):Fr)=1:=by show((1:Int):Rat)/((1:Int):Rat)=1;grind
 have v0:val ((0,1):Fr)=0:=by show((0:Int):Rat)/((1:Int):Rat)=0;grind
 have p0:=((dD fw.pl rm).py ds[j] dm).2;have eg:val (RO Η i (.τ k ds))=val ds[j].2.1:=by show val (iG (((aD Η i (.τ k ds)).map χ).zip ((aD Η i (.τ k ds)).map (·.2.1))))=_;rw[e];show val (eO (0,1) (aN (1,1) ds[j].2.1))=_;have t:Red (aN ((1,1):Fr) ds[j].2.1):=b7 (abp (aaP @_ p0));rw[s_ @_ t.pos,lC @_ p0,v0,v1];grind
 unfold jj vb vB;rw[nY hi,eg,gd,(gH fw rm dm hp).1];show _+val ε*ay (λd=>cV d*val (tb.getD d.1.toNat (0,1))) (aD Η i (.τ k ds))=_;rw[e];show _+val ε*(cV (ds[j].1,ds[j].2.1,[((1,1):Fr)])*val (tb.getD ds[j].1.toNat (0,1))+0)=_;have:cV (ds[j].1,ds[j].2.1,[((1,1):Fr)])=1:=v1;rw[this];grind
def AF{x:Nat->Rat}(h:Ι Η i=Ι cc i):jj ε (vb γ Η) (vB γ Η) x i=jj ε (vb γ cc) (vB γ cc) x i:=by
 have e:∀r,aD Η i r=aD cc i r:=λr=>by unfold aD;rw[h]
 have e1:P9 Η i (iZ γ i)=P9 cc i (iZ γ i):=by
  cases iZ γ i with
  |fin p=>rfl
  |τ k ds=>exact e _
 have e2:RO Η i (iZ γ i)=RO cc i (iZ γ i):=by
  cases iZ γ i with
  |fin p=>rfl
  |τ k ds=>
   show iG (((aD Η i (.τ k ds)).map χ).zip ((aD Η i (.τ k ds)).map (·.2.1)))=iG (((aD cc i (.τ k ds)).map χ).zip ((aD cc i (.τ k ds)).map (·.2.1)));rw[e]
 unfold jj vb vB;rw[e1,e2]
def i8.jj(h:i8 ε γ Η tb)(il:i<γ.length):jj ε (vb γ Η) (vB γ Η) (λx=>val (tb.getD x (0,1))) i=val (tb.getD i (0,1)):=(h.tab.eq i il).symm
end
structure lR(hand υ:Str):Prop where
 h1:Β hand=true
 h2:Β υ=true
 ne:hand≠υ
 two:∀z:Str,Β z=true->z=hand\/z=υ
 sg:h_ υ= -h_ hand
def iY(h:hand="one"/\υ="other"\/hand="other"/\υ="one"):lR hand υ:=by
 refine⟨?_,?_,?_,λz hz=>?_,?_⟩
 ·rcases h with ⟨rfl,rfl⟩| ⟨rfl,rfl⟩ <;> decide
 ·rcases h with ⟨rfl,rfl⟩| ⟨rfl,rfl⟩ <;> decide
 ·rcases h with ⟨rfl,rfl⟩| ⟨rfl,rfl⟩ <;> decide
 ·unfold Β at hz;rw[acw,aby,aby]at hz;rcases h with ⟨rfl,rfl⟩| ⟨rfl,rfl⟩
  ·exact hz
  ·exact hz.symm
 ·unfold h_;rcases h with ⟨rfl,rfl⟩| ⟨rfl,rfl⟩
  ·rw[aaw @_,aax rfl]
  ·rw[if_pos rfl,if_neg @_];grind
def AS{k:Str}(h:Β k=true):∃r,lR k r/\lR r k:=by
 unfold Β at h;rw[acw,aby,aby]at h;rcases h with h|h
 ·exact⟨"other",iY (.inl ⟨h,rfl⟩),iY (.inr ⟨rfl,h⟩)⟩
 ·exact⟨"one",iY (.inr ⟨h,rfl⟩),iY (.inl ⟨rfl,h⟩)⟩
section
variable{cc:Pl}{yF:List Fr}
def MP(ε:Fr)(γ:List Rw)(tb:List Fr)(υ:Str)(Η cc:Pl)(i:Nat):Prop:=∃ds j j',γ[i]? =some (.τ υ ds)/\Ι Η i=some ((j:Nat):Int)/\Ι cc i=some ((j':Nat):Int)/\j<ds.length/\j∉c_ ε tb (.τ υ ds)/\j'∈c_ ε tb (.τ υ ds)
def sS(fw:FW ε γ X C){k:Str}(hm:Rw.τ k ds∈γ)(hp:∀t,t<γ.length->0<(tb.getD t (0,1)).2):Red (gs ε tb (.τ k ds))/\∀d∈ds,h_ k*val (ae ε tb d)<=h_ k*val (gs ε tb (.τ k ds)):=by have l1:=(dD fw.pl hm).l1;have⟨m,al⟩:=pP (ε:=ε) (tb:=tb) (k:=k) (ds:=ds) (λz=>by rw[z]at l1;exact aaL l1 @_) λd hd=>(gH fw hm hd hp).2.pos;refine⟨?_,al⟩;have⟨d,hd,e⟩:=aaj.mp m;rw[<-e];exact(gH fw hm hd hp).2
def Cs{k:Str}{a b:Rat}(h:h_ k*a=h_ k*b):a=b:=by unfold h_ at h;split at h <;> grind
def Mix(ε:Fr)(γ:List Rw)(tb:List Fr)(hand υ:Str)(Η cc:Pl)(i:Nat):Prop:=Ι cc i=Ι Η i\/MP ε γ tb hand Η cc i\/∃ds j j',γ[i]? =some (.τ υ ds)/\Ι Η i=some ((j:Nat):Int)/\Ι cc i=some ((j':Nat):Int)/\j'<ds.length/\j∈c_ ε tb (.τ υ ds)
def Kd(fw:FW ε γ X C)(hs:lR hand υ)(LV:fm γ cc)(b1:1<=nq X C)(h:i8 ε γ Η tb)(h':i8 ε γ cc yF)(hd:∀i,i<γ.length->Mix ε γ tb hand υ Η cc i):(∀i,i<γ.length->h_ hand*val (tb.getD i (0,1))<=h_ hand*val (yF.getD i (0,1)))/\∀i,i<γ.length->MP ε γ tb hand Η cc i->h_ hand*val (tb.getD i (0,1))<h_ hand*val (yF.getD i (0,1)):=by
 have hp:∀t,t<γ.length->0<(tb.getD t (0,1)).2:=λt ht=>(h.tab.red t ht).pos;have chg:∀i,i<γ.length->MP ε γ tb hand Η cc i->0<h_ hand*(jj ε (vb γ cc) (vB γ cc) (λx=>val (tb.getD x (0,1))) i-val (tb.getD i (0,1))):=λi il ⟨ds,j,j',hi,g,g',jl,nb,b⟩=>by
  have rm:Rw.τ hand ds∈γ:=aag hi;have⟨Qw,e'⟩:=(iU hs.h1).mp b;have⟨lr,al⟩:=sS (tb:=tb) fw rm hp;have gd:ds.getD j d0=ds[j]:=by rw[aab,aaa jl];rfl
  have dm:=aaG jl;rw[jg fw hi hs.h1 g' Qw hp,<-h.jj il,jg fw hi hs.h1 g jl hp,e',gd];have le:=al _ dm;have ne:val (ae ε tb ds[j])≠val (gs ε tb (.τ hand ds)):=λz=>nb ((iU hs.h1).mpr ⟨jl,by rw[gd];exact yA (gH fw rm dm hp).2 lr z⟩);have ne2:h_ hand*val (ae ε tb ds[j])≠h_ hand*val (gs ε tb (.τ hand ds)):=λz=>ne (Cs z);grind
 have r0:∀i,i<γ.length->0<=h_ hand*(jj ε (vb γ cc) (vB γ cc) (λx=>val (tb.getD x (0,1))) i-val (tb.getD i (0,1))):=λi il=>by
  rcases hd i il with e| e| ⟨ds,j,j',hi,g,g',Qw,b⟩
  ·rw[AF e,h.jj il];grind
  ·exact Rat.le_of_lt (chg i il e)
  ·have rm:Rw.τ υ ds∈γ:=aag hi;have⟨jl,e⟩:=(iU hs.h2).mp b;have⟨lr,al⟩:=sS (tb:=tb) fw rm hp;have gd':ds.getD j' d0=ds[j']:=by rw[aab,aaa Qw];rfl
   have le:=al _ (aaG Qw);rw[jg fw hi hs.h2 g' Qw hp,<-h.jj il,jg fw hi hs.h2 g jl hp,e,gd'];rw[hs.sg]at le;grind
 have key:=Tab.cmp (fw.sys LV b1) h'.tab (x:=λx=>val (tb.getD x (0,1))) (sg:=h_ hand) r0;refine⟨λi il=>?_,λi il e=>?_⟩
 ·have:=key i il;have:=r0 i il;grind
 ·have:=key i il;have:=chg i il e;grind
def GP(fw:FW ε γ X C)(hh:Β υ=true)(dk:fm γ Η)(LV:fm γ cc)(b1:1<=nq X C)(h:i8 ε γ Η tb)(h':i8 ε γ cc yF)(hd:∀i,i<γ.length->Ι cc i=Ι Η i\/MP ε γ tb υ Η cc i):(∀i,i<γ.length->h_ υ*val (tb.getD i (0,1))<=h_ υ*val (yF.getD i (0,1)))/\∀i,i<γ.length->MP ε γ tb υ Η cc i->h_ υ*val (tb.getD i (0,1))<h_ υ*val (yF.getD i (0,1)):=by have⟨r,hs,_⟩:=AS hh;exact Kd fw hs LV b1 h h' λi il=>(hd i il).elim .inl λc=>.inr (.inl c)
def Bh(fw:FW ε γ X C)(hh:Β υ=true)(dk:fm γ Η)(LV:fm γ cc)(b1:1<=nq X C)(h:i8 ε γ Η tb)(h':i8 ε γ cc yF)(hd:∀i,i<γ.length->Ι cc i=Ι Η i\/MP ε γ tb υ Η cc i)(il:i<γ.length)(hc:MP ε γ tb υ Η cc i):BW ε γ (h_ υ) Η<BW ε γ (h_ υ) cc:=by
 have⟨a,b⟩:=GP fw hh dk LV b1 h h' hd;unfold BW;refine Ds (λj hj=>?_) il ?_
 ·rw[ye fw dk b1 h,ye fw LV b1 h'];exact a j hj
 ·rw[ye fw dk b1 h,ye fw LV b1 h'];exact b i il hc
def yS(fw:FW ε γ X C)(hh:Β υ=true)(LV:fm γ cc)(b1:1<=nq X C)(h:i8 ε γ Η tb)(h':i8 ε γ cc yF)(hd:∀i,i<γ.length->Ι cc i=Ι Η i\/∃ds j j',γ[i]? =some (.τ υ ds)/\Ι Η i=some ((j:Nat):Int)/\Ι cc i=some ((j':Nat):Int)/\j'<ds.length/\j∈c_ ε tb (.τ υ ds)):∀i,i<γ.length->h_ υ*val (yF.getD i (0,1))<=h_ υ*val (tb.getD i (0,1)):=λi il=>by have⟨r,_,hs⟩:=AS hh;have k:=(Kd fw hs LV b1 h h' λi il=>(hd i il).elim .inl λc=>.inr (.inr c)).1 i il;rw[hs.sg];grind
end
def M8{p:Fr}(h:0<p.2)(a:eJ p C):ab (val p)<=(C:Rat):=by
 have e:val p*(p.2:Rat)=p.1:=by
  have:=aJ (show p.2≠0 by omega);unfold val;generalize (p.1:Rat)=x at *
  generalize (p.2:Rat)=y at *
  grind
 have p0:(0:Rat)<(p.2:Rat):=abG.mpr h;have a1:(p.1:Rat)<=(p.2:Rat)*(C:Rat):=by rw[<-aaQ];exact abh.mpr a.1
 have a2: -((p.2:Rat)*(C:Rat))<=(p.1:Rat):=by rw[<-aaQ,<-Rat.intCast_neg];exact abh.mpr a.2
 refine lP.mpr ⟨?_,?_⟩
 ·by_cases z: -(C:Rat)<=val p
  ·exact z
  ·have:=Rat.mul_pos (show 0< -(C:Rat)-val p by grind) p0;grind
 ·by_cases z:val p<=(C:Rat)
  ·exact z
  ·have:=Rat.mul_pos (show 0<val p-(C:Rat) by grind) p0;grind
def LX{p:Fr}(h:0<p.2)(a:ab (val p)<=(C:Rat)):eJ p C:=by
 have e:val p*(p.2:Rat)=p.1:=by
  have:=aJ (show p.2≠0 by omega);unfold val;generalize (p.1:Rat)=x at *
  generalize (p.2:Rat)=y at *
  grind
 have p0:(0:Rat)<=(p.2:Rat):=abh.mpr (aak h);have⟨a1,a2⟩:=lP.mp a;have b1:=abO a1 p0;have b2:=abO a2 p0;constructor
 ·apply abh.mp;rw[Rat.intCast_mul];grind
 ·apply abh.mp;rw[Rat.intCast_neg,Rat.intCast_mul];grind
def Sys.abs{B:Int}{ws:Nat->List bO}{gv:Nat->Fr}{c:Rat}(S:Sys ε n B ws gv)(h:Tab ε n ws gv tb)(s3:1<=1000*(1-val ε))(hg:∀i,i<n->ab (val (gv i))<=c):∀i,i<n->ab (val (tb.getD i (0,1)))<=1000*c:=λi hi=>by
 have s0:=S.s0;have s1:=S.s1
 have:=Lc (n:=n) (x:=λx=>val (tb.getD x (0,1))) (c:=c) s1 (λi hi m hm=>by
  have⟨E,C,p,_⟩:=S.Hi i hi;have w:=lP.mp (EM p.wo () hm);have a:=aaZ w.1 s0;have b:=aaZ w.2 s0;have g:=lP.mp (hg i hi);rw[h.eq i hi]
  refine lP.mpr ⟨?_,?_⟩ <;> grind) i hi
 have a0:=OT (val (tb.getD i (0,1)));have:=aaZ s3 a0;grind
structure C6(tb:List Fr)(n:Nat):Prop where
 len:tb.length=n
 red:∀t∈tb,Red t
 sz:∀t∈tb,t.2<2^1030/\t.1.natAbs<2^1150
def i8.ok(fw:FW ε γ X C)(dk:fm γ Η)(b1:1<=nq X C)(h:i8 ε γ Η tb):C6 tb γ.length:=by
 have S:=fw.sys dk b1;have⟨_,_,_,_,_,s3⟩:=fw.sh;have c1:=fw.c1;have ln:=h.tab.len;have g:∀t∈tb,∃i,i<γ.length/\tb.getD i (0,1)=t:=λt ht=>by have⟨i,hi,e⟩:=abl ht;exact⟨i,(),by rw[aab,aaa hi,e];rfl⟩
 have ab:=S.abs h.tab s3 (c:=((6*C:Int):Rat)) λi hi=>by have⟨E,p,_⟩:=fw.Hi dk (rw_at hi);exact M8 p.gn.red.pos p.gn.ab
 refine⟨ln,λt ht=>?_,λt ht=>?_⟩
 ·have⟨i,hi,e⟩:=g t ht;rw[<-e];exact h.tab.red i hi
 ·have⟨i,hi,e⟩:=g t ht;have r:=h.tab.red i hi;have b:=h.bot i hi;have a:=ab i hi;rw[e]at r b a;have r0:=r.pos;have a:Pg.ab (val t)<=((1000*(6*C):Int):Rat):=by rw[aaQ];exact a
  have⟨v1,v2⟩:=LX r0 a;refine⟨b,?_⟩;have m:t.2*(1000*(6*C))<=2^1030*(1000*(6*10^30)):=abB (aak b) () (by have:=fw.c9;omega) @_;have:(t.1.natAbs:Int)<((2^1150:Nat):Int):=aaN (show _<=(2:Int)^1030*(1000*(6*10^30)) by omega) @_;exact abR.mp this
def ya(hand:Str)(pl:Pl):Str->Option Pl:=λz=>if z=hand then some pl else none
abbrev bf(γ:List Rw)(hand:Str)(pl:Pl):Pl:=fi γ (ya hand pl) γ.length
def kR(γ:List Rw)(υ:Str):List (Int×Nat):=(jF γ υ).map λi:Nat=>((i:Int),(Τ (iZ γ i)).length)
def EU{γ:List Rw}:∀{l:List Nat},(∀i∈l,1<=(Τ (iZ γ i)).length)->aQ (l.map λi:Nat=>((i:Int),(Τ (iZ γ i)).length)) (l.map λi:Nat=>((i:Int),(0:Int)))
 |[],_=>trivial
 |i::l,h=>⟨rfl,Int.le_refl _,by have:=h i aae;omega,EU λj hj=>h j (aad _ hj)⟩
section
variable{pl:Pl}
def i4:i∈jF γ υ↔i<γ.length/\e7 γ i=υ:=by unfold jF;rw[List.mem_filter,aba,aap]
def z5(fw:FW ε γ X C)(hh:Β υ=true)(h:i∈jF γ υ):∃ds,γ[i]? =some (.τ υ ds)/\Τ (iZ γ i)=ds/\1<=ds.length:=by
 have⟨il,e⟩:=i4.mp h;have hi:γ[i]? =some γ[i]:=aaa il;unfold e7 at e;rw[hi]at e;have e:kindOf γ[i]=υ:=e;cases hr:γ[i] with
 |fin p=>
  rw[hr]at e;rw[<-e]at hh;exact aaL hh (by show¬Β (Str.ofString "end")=true;decide)
 |τ k ds=>
  rw[hr]at e hi;have e:k=υ:=e;subst e;exact⟨ds,hi,by rw[nY hi];rfl,(dD fw.pl (aag hi)).l1⟩
def BR(fw:FW ε γ X C)(hh:Β υ=true):aQ (kR γ υ) (Ca γ υ):=EU λi hi=>by have⟨ds,_,e,l⟩:=z5 fw hh hi;rw[e];exact l
def ix:(kR γ υ).map (·.1)=(jF γ υ).map λi:Nat=>(i:Int):=by unfold kR;rw[List.map_map];rfl
def bN(h:aQ (kR γ υ) p):qc p:=by unfold qc;rw[cB h,ix];have nd:(jF γ υ).Nodup:=List.nodup_range.filter _;exact List.Pairwise.map _ (λa b U9 z=>U9 (by have z:(a:Int)=(b:Int):=z;omega)) nd
def cx(fw:FW ε γ X C)(hh:Β υ=true)(h:aQ (kR γ υ) p):(∀ds,γ[i]? =some (.τ υ ds)->∃j:Nat,Ι p i=some (j:Int)/\j<ds.length)/\(∀r,γ[i]? =some r->kindOf r≠υ->Ι p i=none):=by
 refine⟨λds hi=>?_,λr hi hk=>?_⟩
 ·have il:=(aaf.mp hi).1;have m:i∈jF γ υ:=i4.mpr ⟨il,by unfold e7;rw[hi];rfl⟩;have s:=ny (i:=(i:Int)) (p:=p) (by rw[cB h,ix];exact aaj.mpr ⟨i,m,rfl⟩);have⟨v,hv⟩:=abz.mp s;have⟨c,hc,v0,v1⟩:=yR h hv;unfold kR at hc;have⟨i',_,e⟩:=aaj.mp hc;have e1:(i':Int)=(i:Int):=aa0 Prod.fst e;have e2:(Τ (iZ γ i')).length=c:=aa0 Prod.snd e;have:i'=i:=()
  subst this;rw[nY hi]at e2;have e2:ds.length=c:=e2;exact⟨v.toNat,by rw[hv,ack v0],()⟩
 ·refine nD λz=>?_;rw[cB h,ix]at z;have⟨i',m,e⟩:=aaj.mp z;have:i'=i:=by have e:(i':Int)=(i:Int):=e;omega
  subst this;have:=(i4.mp m).2;unfold e7 at this;rw[hi]at this;exact hk this
def C_(fw:FW ε γ X C)(h1:Β hand=true)(h2:Β υ=true)(jn:hand≠υ)(two:∀k:Str,Β k=true->k=hand\/k=υ)(gd:∀i,i<γ.length->ft γ (ya hand pl) i=true)(h:aQ (kR γ υ) p):fm γ (bG (bf γ hand pl) p):=by
 have Rc:∀(i:Nat) (r:Rw),γ[i]? =some r->kindOf r≠hand->Ι (bf γ hand pl) i=none:=λi r hi hk=>by have il:=(aaf.mp hi).1;rw[jK,aax il,hi];show Option.map _ (ya hand pl (kindOf r))=none;unfold ya;rw[aaw hk];rfl
 refine⟨λi r hi hk=>?_,λi r hi hk=>?_⟩
 ·rw[d9 (bN h)];rcases two _ hk with e| e
  ·have il:=(aaf.mp hi).1;rw[(cx (i:=i) fw h2 h).2 r hi (λz=>jn (e.symm.trans z))];dsimp only;have g:=gd i il;unfold ft at g;rw[hi]at g;have g:jP (ya hand pl) i r=true:=g;have ep:ya hand pl (kindOf r)=some pl:=by unfold ya;rw[if_pos e]
   unfold jP at g;rw[ep]at g;have g:fg pl i (Τ r).length=true:=g;rw[jK,aax il,hi];show∃j:Nat,Option.map (λpl=>(Ι pl i).getD 0) (ya hand pl (kindOf r))=some (j:Int)/\_;rw[ep];unfold fg at g;cases hv:Ι pl i with
   |none=>rw[hv]at g;cases g
   |some v=>
    rw[hv]at g;have g:(decide (0<=v)&&decide (v<((Τ r).length:Int)))=true:=g;rw[aav,aap,aap]at g;refine⟨v.toNat,?_,()⟩;show some ((Ι pl i).getD 0)=_;rw[hv,ack g.1];rfl
  ·cases r with
   |fin q=>exact aaL hk (by show¬Β (Str.ofString "end")=true;decide)
   |τ k ds=>
    have e:k=υ:=e;subst e;have⟨j,gj,jl⟩:=(cx (i:=i) fw h2 h).1 ds hi;rw[gj];exact⟨j,rfl,jl⟩
 ·rw[d9 (bN h),(cx (i:=i) fw h2 h).2 r hi (λz=>by rw[z,h2]at hk;cases hk)];exact Rc i r hi λz=>by rw[z,h1]at hk;cases hk
end
section
variable{pl:Pl}
def tD:∀pl:Pl,((Λ ε γ tb pl).map (·.1)).Sublist (pl.map (·.1))
 |[]=>List.Sublist.refl _
 |a::r=>by
  have ih:=tD r;have e:Λ ε γ tb (a::r)=qB ε γ tb a++Λ ε γ tb r:=by unfold Λ;rw[List.flatMap_cons]
  rw[e,aa8,aaH];unfold qB;split
  ·exact List.Sublist.cons _ ih
  ·exact List.Sublist.cons₂ _ ih
def pI(h:qc pl):qc (Λ ε γ tb pl):=(tD pl).nodup h
def hV{i:Int}:∀{pl:Pl},qc pl->Ι (Λ ε γ tb pl) i=(match Ι pl i with
 |some v=>if A1 (iR ε γ tb i) v then none else some (((iR ε γ tb i).headD 0:Nat):Int)
 |none=>none)
 |[],_=>rfl
 |a::r,nd=>by
  unfold qc at nd;rw[aaH,abC]at nd;have ih:=hV (i:=i) (pl:=r) nd.2;have e:Λ ε γ tb (a::r)=qB ε γ tb a++Λ ε γ tb r:=by unfold Λ;rw[List.flatMap_cons]
  rw[e];by_cases ei:a.1=i
  ·have e2:Ι (a::r) i=some a.2:=by unfold Ι;rw[if_pos ei]
   have hn:Ι (Λ ε γ tb r) i=none:=nD λz=>nd.1 (by rw[ei];exact fZ z);rw[e2];dsimp only;unfold qB;rw[ei];by_cases c:A1 (iR ε γ tb i) a.2=true
   ·rw[aax c,aax c,aaW,hn]
   ·rw[aaw c,aaw c];show Ι ((i,(((iR ε γ tb i).headD 0:Nat):Int))::Λ ε γ tb r) i=_;unfold Ι;rw[aax rfl]
  ·have e2:Ι (a::r) i=Ι r i:=by rw[Ι,aaw ei]
   rw[e2,<-ih];unfold qB;split
   ·rfl
   ·show Ι ((a.1,_)::Λ ε γ tb r) i=_;rw[Ι,aaw ei]
def yQ{kc:List (Int×Nat)}:∀(q s:Pl),aQ kc s->(∀e∈q,e.1∈kc.map (·.1)/\∀c,(e.1,c)∈kc->0<=e.2/\e.2<(c:Int))->aQ kc (bG s q)
 |[],s,h,_=>h
 |e::q,s,h,hq=>by have⟨a,b⟩:=hq e aae;exact yQ q (e_ s e.1 e.2) (HU h a b) λx hx=>hq x (aad _ hx)
def j7(fw:FW ε γ X C)(hh:Β υ=true)(h:aQ (kR γ υ) p)(hp:∀t,t<γ.length->0<(tb.getD t (0,1)).2)(hm:i∈jF γ υ):∃ds j,γ[i]? =some (.τ υ ds)/\Τ (iZ γ i)=ds/\Ι p i=some ((j:Nat):Int)/\j<ds.length/\iR ε γ tb i=c_ ε tb (.τ υ ds)/\c_ ε tb (.τ υ ds)≠[]/\(c_ ε tb (.τ υ ds)).headD 0∈c_ ε tb (.τ υ ds):=by have⟨ds,hi,ed,l1⟩:=z5 fw hh hm;have⟨j,gj,jl⟩:=(cx (i:=i) fw hh h).1 ds hi;have rm:Rw.τ υ ds∈γ:=aag hi;have ne:c_ ε tb (.τ υ ds)≠[]:=LJ hh (λz=>by rw[z]at l1;exact aaL l1 @_) λd hd=>(gH fw rm hd hp).2.pos;refine⟨ds,j,hi,ed,gj,jl,by unfold iR;rw[Int.toNat_natCast,hi],ne,?_⟩;have⟨b,bs,e⟩:=abr ne;rw[e];exact aae
def kS(fw:FW ε γ X C)(hh:Β υ=true)(h:aQ (kR γ υ) p)(hp:∀t,t<γ.length->0<(tb.getD t (0,1)).2):aQ (kR γ υ) (bG p (Λ ε γ tb p)):=by
 refine yQ _ _ h λe he=>?_;have ke:e.1∈p.map (·.1):=fZ (aaj.mpr ⟨e,he,rfl⟩);have kk:=ke;rw[cB h]at kk;rw[cB h,ix]at ke;have⟨i,hm,ei⟩:=aaj.mp ke;have⟨ds,j,hi,ed,gj,jl,eb,ne,hd⟩:=j7 fw hh h hp hm;refine⟨kk,λc hc=>?_⟩;have c1:c=ds.length:=by
  unfold kR at hc;have⟨i',_,e'⟩:=aaj.mp hc;have e1:(i':Int)=e.1:=aa0 Prod.fst e';have e2:(Τ (iZ γ i')).length=c:=aa0 Prod.snd e';have:i'=i:=by have ei:(i:Int)=e.1:=ei;omega
  subst this;rw[<-e2,ed]
 have gb:=hV (ε:=ε) (γ:=γ) (tb:=tb) (i:=e.1) (bN h);have nb:=pI (ε:=ε) (γ:=γ) (tb:=tb) (bN h);have ge:Ι (Λ ε γ tb p) e.1=some e.2:=by
  have:∀{l:Pl},qc l->e∈l->Ι l e.1=some e.2:=λ{l}=>by
   induction l with
   |nil=>intro _ z;cases z
   |cons a l ih=>
    intro nl hm;unfold qc at nl;rw[aaH,abC]at nl;unfold Ι;rcases aaK.mp hm with y| y
    ·rw[aax (by rw[y]),y]
    ·rw[aaw λz=>nl.1 (by rw[z];exact aaj.mpr ⟨e,y,rfl⟩)];exact ih nl.2 y
  exact this nb he
 have ei:e.1=(i:Int):=ei.symm;rw[ge,ei,gj,eb]at gb;dsimp only at gb;split at gb
 ·cases gb
 ·have gb:=aar gb;have:=((iU hh).mp hd).1;omega
def FX(fw:FW ε γ X C)(hh:Β υ=true)(h:aQ (kR γ υ) p)(hp:∀t,t<γ.length->0<(tb.getD t (0,1)).2)(hb:Pl):∀i,i<γ.length->Ι (bG hb (bG p (Λ ε γ tb p))) i=Ι (bG hb p) i\/MP ε γ tb υ (bG hb p) (bG hb (bG p (Λ ε γ tb p))) i:=λi il=>by
 have h':=kS (tb:=tb) fw hh h hp;have gb:=hV (ε:=ε) (γ:=γ) (tb:=tb) (i:=(i:Int)) (bN h);have g1:=d9 (i:=(i:Int)) (p:=p) (pI (ε:=ε) (γ:=γ) (tb:=tb) (bN h));have g2:=d9 (i:=(i:Int)) (p:=hb) (bN h');have g3:=d9 (i:=(i:Int)) (p:=hb) (bN h);by_cases hm:i∈jF γ υ
 ·have⟨ds,j,hi,ed,gj,jl,eb,ne,hd⟩:=j7 fw hh h hp hm;rw[gj,eb]at gb;dsimp only at gb;by_cases c:A1 (c_ ε tb (.τ υ ds)) (j:Int)=true
  ·rw[aax c]at gb;rw[gb]at g1;left;rw[g2,g3,g1]
  ·rw[aaw c]at gb;rw[gb]at g1;right;refine⟨ds,j,_,hi,by rw[g3,gj],by rw[g2,g1],jl,λz=>c (xV.mpr ⟨j,z,rfl⟩),hd⟩
 ·have hi:γ[i]? =some γ[i]:=aaa il;have gn:=(cx (i:=i) fw hh h).2 γ[i] hi λz=>hm (i4.mpr ⟨il,by unfold e7;rw[hi];exact z⟩);rw[gn]at gb;have gb:Ι (Λ ε γ tb p) i=none:=gb;rw[gb]at g1;left;rw[g2,g3,g1]
def yG(fw:FW ε γ X C)(hh:Β υ=true)(h:aQ (kR γ υ) p)(hp:∀t,t<γ.length->0<(tb.getD t (0,1)).2)(hb:Pl)(ne:Λ ε γ tb p≠[]):∃i,i<γ.length/\MP ε γ tb υ (bG hb p) (bG hb (bG p (Λ ε γ tb p))) i:=by
 have⟨e,r,er⟩:=abr ne;have he:e∈Λ ε γ tb p:=by rw[er];exact aae
 have ke:e.1∈p.map (·.1):=fZ (aaj.mpr ⟨e,he,rfl⟩);rw[cB h,ix]at ke;have⟨i,hm,ei⟩:=aaj.mp ke;have ei:(i:Int)=e.1:=ei;have il:=(i4.mp hm).1;refine⟨i,il,?_⟩;have h':=kS (tb:=tb) fw hh h hp;have⟨ds,j,hi,ed,gj,jl,eb,ne',hd⟩:=j7 fw hh h hp hm;have gb:=hV (ε:=ε) (γ:=γ) (tb:=tb) (i:=(i:Int)) (bN h);have s:(Ι (Λ ε γ tb p) (i:Int)).isSome=true:=ny (aaj.mpr ⟨e,he,ei.symm⟩);rw[gj,eb]at gb;dsimp only at gb;by_cases c:A1 (c_ ε tb (.τ υ ds)) (j:Int)=true
 ·rw[aax c]at gb;rw[gb]at s;cases s
 ·rw[aaw c]at gb;have g1:=d9 (i:=(i:Int)) (p:=p) (pI (ε:=ε) (γ:=γ) (tb:=tb) (bN h));rw[gb]at g1;refine⟨ds,j,_,hi,by rw[d9 (bN h),gj],by rw[d9 (bN h'),g1],jl,λz=>c (xV.mpr ⟨j,z,rfl⟩),hd⟩
def sR(fw:FW ε γ X C)(hh:Β υ=true)(h:aQ (kR γ υ) p)(hp:∀t,t<γ.length->0<(tb.getD t (0,1)).2)(e:Λ ε γ tb p=[])(hi:γ[i]? =some (.τ υ ds))(gj:Ι p i=some (j:Int)):j∈c_ ε tb (.τ υ ds):=by
 have il:=(aaf.mp hi).1;have hm:i∈jF γ υ:=i4.mpr ⟨il,by unfold e7;rw[hi];rfl⟩;have⟨oa,j',qE,_,Vk,_,eb,_,_⟩:=j7 (tb:=tb) fw hh h hp hm;rw[hi]at qE;cases qE;have gb:=hV (ε:=ε) (γ:=γ) (tb:=tb) (i:=(i:Int)) (bN h);rw[e,gj,eb]at gb;dsimp only at gb;split at gb
 ·rename_i c;have⟨b,hb,y⟩:=xV.mp c;have:b=j:=()
  rw[<-this];exact hb
 ·cases gb
end
def i8.flg(fw:FW ε γ X C)(dk:fm γ Η)(b1:1<=nq X C)(h:i8 ε γ Η tb):Hy ε γ tb:=by
 have ok:=h.ok fw dk b1;refine⟨fw.pl.sh,fw.pl.len,fw.pl.row,ok.len,λt ht=>⟨(ok.sz t ht).2,(ok.red t ht).pos,?_⟩⟩;have:(t.2.natAbs:Int)<((2^1150:Nat):Int):=by rw[abm (aak (ok.red t ht).pos)];exact acq (ok.sz t ht).1 @_
 exact abR.mp this
def NF{k:Nat}{pl:Pl}(h:M[k]? =some (dP pl)):Q5 (M++[.bX [Sum.inr hand] [.loc k]]) M.length (ya hand pl):=by
 refine⟨_,_,aE,λz=>⟨?_,λq e=>?_⟩⟩
 ·unfold ya;show(decide ((Sum.inr hand:Key)=Sum.inr z)|| false)=_;rw[Bool.or_false];by_cases y:z=hand
  ·rw[aax y,aaD (by rw[y])];rfl
  ·rw[aaw y,aaJ λx=>y (Sum.inr.inj x).symm];rfl
 ·unfold ya at e;split at e
  ·rename_i y;cases e;subst y;refine⟨k,?_,aj h⟩;show((List.zip [Sum.inr z] [Dt.loc k]).find? _).map _=_;simp[List.zip]
  ·cases e
def zA(A:Addr):DF:=λas M q _=>∃(ε:Fr) (γ:List Rw) (hand υ:Str) (k:Nat) (pl:Pl) (X C:Int),as=[aK A ε γ,.str hand,.loc k]/\M[k]? =some (dP pl)/\(hand="one"/\υ="other"\/hand="other"/\υ="one")/\FW ε γ X C/\nq X C<=2^450/\(12*nq X C)^γ.length<2^1030/\1<=nq X C/\(∀i,i<γ.length->ft γ (ya hand pl) i=true)/\∀(p:Pl) (tb:List Fr) (E':Ms) (kt:Nat),aQ (kR γ υ) p->i8 ε γ (bG (bf γ hand pl) p) tb->Λ ε γ tb p=[]->M.length+3<=kt->(M++[.bX [Sum.inr hand] [.loc k],dP (bf γ hand pl),dP p]++E')[kt]? =some (.lst (tb.map Ξ))->q (.tup [.loc (M.length+2),.loc kt]) (M++[.bX [Sum.inr hand] [.loc k],dP (bf γ hand pl),dP p]++E')
def ff:Ε ["floor","hand","plan","held","answer","table","better"] ["floor","hand","plan"] (ψ rE):=.of rfl
def Cd(F:cZ K "against" "against" rE f fd)(E:Ev K mg w Cm){ug:Addr}{qW:FuncData}(gM:aw P w K mg base 4 "doors_of" ["floor","plans"] (ua Cm) ug qW){Bv:Addr}{Cu:FuncData}(jY:aw P w K mg base 3 "first_plan" ["floor","hand"] (El Cm) Bv Cu){rA:Addr}{sQ:FuncData}(d8:aw P w K mg base 8 "worths_against" ["floor","held","answer"] (Vi Cm) rA sQ){yn:Addr}{x5:FuncData}(fM:aw P w K mg base 8 "better_doors" ["floor","plan","table"] (Ej Cm) yn x5):av P w K mg base (cC P w) 9 f fd ["floor","hand","plan"] (cW K (zA Cm)):=by
 refine F.dR ff (λds M q x h=>?_) (λbz A outer s H E' hr=>⟨_,(η (ω 3 ff.nd (aa gM hr ξ (Ρ (jv 0) (ι (Jd (jv 1) (jv 2)) θ))))
   (η (ω 4 ff.nd (aa jY hr ξ (Ρ (jv 0) (ι (S_ E.lM (jv 1)) θ aZ))))
   (η (ω 5 ff.nd (aa d8 hr ξ (Ρ (jv 0) (Ρ (jv 3) (Ρ (jv 4) θ)))))
   (η (ω 6 ff.nd (aa fM hr ξ (Ρ (jv 0) (Ρ (jv 4) (Ρ (jv 5) θ)))))
   (η (sx (D0 (HN E.br (Ρ (jv 6) θ)) ο) (η (eT (JM (jv 4) (jv 6)))
   (η (ω 5 ff.nd (aa d8 hr ξ (Ρ (jv 0) (Ρ (jv 3) (Ρ (jv 4) θ)))))
   (μ (ω 6 ff.nd (aa fM hr ξ (Ρ (jv 0) (Ρ (jv 4) (Ρ (jv 5) θ)))))))))
   (μ (Γ (eI (Ρ (jv 4) (Ρ (jv 5) θ)))))))))),λds M q x h=>?_⟩)
 ·have⟨ε,γ,hand,υ,k,pl,X,C,rfl,_⟩:=h;rfl
 ·have⟨ε,γ,hand,υ,k,pl,X,C,rfl,hk,fV,fw,me,x',b1,gd,h⟩:=h;have qj:=fw.pl.len;have lk:List.lookup hand [(Str.ofString "one",Str.ofString "other"),(Str.ofString "other",Str.ofString "one"),(Str.ofString "chance",Str.ofString "chance")]=some υ:=by rcases fV with ⟨rfl,rfl⟩| ⟨rfl,rfl⟩ <;> decide
  have h1:Β hand=true:=by rcases fV with ⟨rfl,rfl⟩| ⟨rfl,rfl⟩ <;> decide
  have h2:Β υ=true:=by rcases fV with ⟨rfl,rfl⟩| ⟨rfl,rfl⟩ <;> decide
  have jn:hand≠υ:=by rcases fV with ⟨rfl,rfl⟩| ⟨rfl,rfl⟩ <;> decide
  have two:∀z:Str,Β z=true->z=hand\/z=υ:=λz hz=>by
   unfold Β at hz;rw[acw,aby,aby]at hz;rcases fV with ⟨rfl,rfl⟩| ⟨rfl,rfl⟩
   ·exact hz
   ·exact hz.symm
  have Qp:∀{p},aQ (kR γ υ) p->fm γ (bG (bf γ hand pl) p):=λhp=>C_ fw h1 h2 jn two gd hp;have Gs:∀{p},aQ (kR γ υ) p->p.length<=12:=λ{p} hp=>by have:=aa0 List.length (cB hp);rw[aac,ix,aac]at this;have l:=aca (λi=>decide (e7 γ i=υ)) (List.range γ.length);rw[abc]at l;have l:(jF γ υ).length<=γ.length:=l;omega
  have hlen:(bf γ hand pl).length<=12:=aaE (wK γ _ _) qj;walk_at "vc";dsimp only[IC,R1];walk_at "vc";refine⟨Sum.inr hand,rfl,?_⟩;refine⟨ε,γ,M.length,ya hand pl,rfl,NF hk,fw.pl,gd,?_⟩;refine⟨hand,υ,rfl,lk,?_⟩;refine⟨ε,γ,υ,rfl,qj,?_⟩;obtain⟨A5,hd0⟩:∃d:MO,d=MO.bX [Sum.inr hand] [Dt.loc k]:=⟨_,rfl⟩;rw[<-hd0]at h⊢;dsimp only[bf]at h Qp hlen;generalize Z4:fi γ (ya hand pl) γ.length=held at *
  have B3:∀p:Pl,M++[A5]++[dP held]++[dP p]=M++[A5,dP held,dP p]:=λp=>by simp
  have kh1:(M++[A5]).length=M.length+1:=by simp
  have ka1:(M++[A5]++[dP held]).length=M.length+2:=by simp
  rw[kh1,ka1,B3];have atH:∀(p:Pl) (E:Ms),(M++[A5,dP held,dP p]++E)[M.length+1]? =some (dP held):=λp E=>aj (by rw[aao (),show M.length+1-M.length=1 by omega];rfl);have RX:∀(p:Pl) (E:Ms),(M++[A5,dP held,dP p]++E)[M.length+2]? =some (dP p):=λp E=>aj (by rw[aao (),show M.length+2-M.length=2 by omega];rfl);have f0:=BR fw h2;generalize Ca γ υ=p0 at *
  have gp:∀{p:Pl} {tb:List Fr},i8 ε γ (bG held p) tb->∀t,t<γ.length->0<(tb.getD t (0,1)).2:=λwt t ht=>(wt.tab.red t ht).pos;have bok:∀{p:Pl} {tb:List Fr},aQ (kR γ υ) p->i8 ε γ (bG held p) tb->∀e∈p,0<=e.1/\∃r,γ[e.1.toNat]? =some r/\Β (kindOf r)=true/\c_ ε tb r≠[]:=λ{p tb} hp wt e he=>by have ke:e.1∈p.map (·.1):=aaj.mpr ⟨e,he,rfl⟩;rw[cB hp,ix]at ke;have⟨i,hm,ei⟩:=aaj.mp ke;have ei:(i:Int)=e.1:=ei;have⟨ds,j,hi,_,_,_,_,ne,_⟩:=j7 fw h2 hp (gp wt) hm;exact⟨(),.τ υ ds,by rw[<-ei,abS];exact hi,h2,ne⟩
  have kTb:∀{p:Pl} {E:Ms},(M++[A5,dP held,dP p]++E).length+1=M.length+4+E.length:=by intro p E;rw[aah,aah];show M.length+3+E.length+1=_;omega
  have atT:∀(p:Pl) (E:Ms) (m:MO) (tb:List Fr),(M++[A5,dP held,dP p]++(E++[m,.lst (tb.map Ξ)]))[M.length+4+E.length]? =some (.lst (tb.map Ξ)):=λp E m tb=>by rw[aao (by rw[aah];show M.length+3<=_;omega),aao (by rw[aah];show E.length<=M.length+4+E.length-(M.length+3);omega)];rw[aah];show[m,MO.lst (tb.map Ξ)][M.length+4+E.length-(M.length+3)-E.length]? =_;rw[show M.length+4+E.length-(M.length+3)-E.length=1 by omega];rfl
  have e0:M++[A5,dP held,dP p0]=M++[A5,dP held,dP p0]++[]:=(aa7 _).symm;rw[e0];refine⟨ε,γ,M.length+1,M.length+2,held,p0,X,C,rfl,atH p0 [],RX p0 [],by have:=Gs f0;omega,Qp f0,fw,me,x',λRW Xp=>?_⟩;rw[kTb,abb (M++[A5,dP held,dP p0])];refine⟨ε,γ,RW,.loc _,M.length+2,p0,rfl,RX p0 _,Xp.flg fw (Qp f0) b1,kM (atT p0 [] _ RW),bN f0,Gs f0,bok f0 Xp,?_⟩;have ZU:∀(p p':Pl) (E:Ms),(M++[A5,dP held,dP p]++E).set (M.length+2) (dP p')=M++[A5,dP held,dP p']++E:=λp p' E=>by rw[abb,abb,List.set_append_right (h:=by omega),show M.length+2-M.length=2 by omega];rfl
  have l3:∀(p:Pl) (E:Ms),M.length+3<=(M++[A5,dP held,dP p]++E).length:=λp E=>by rw[aah,aah];show M.length+3<=M.length+3+E.length;omega
  have X7:∀{p:Pl} {tb:List Fr},aQ (kR γ υ) p->(Λ ε γ tb p).length<=12:=λhp=>aaE (mi _) (Gs hp);refine⟨λm ρ' M'=>∃(p:Pl) (tb:List Fr) (E1:Ms) (kb kt:Nat),aQ (kR γ υ) p/\i8 ε γ (bG held p) tb/\above ε γ (h_ υ) (bG held) (kR γ υ) p=m/\M'=M++[A5,dP held,dP p]++E1/\M'[kb]? =some (dP (Λ ε γ tb p))/\M.length+3<=kb/\M.length+3<=kt/\M'[kt]? =some (.lst (tb.map Ξ))/\ρ'=[some (aK Cm ε γ),some (.str hand),some (.loc k),some (.loc (M.length+1)),some (.loc (M.length+2)),some (.loc kt),some (.loc kb)],⟨_,p0,RW,[]++[dP (bG held p0),.lst (RW.map Ξ)]++[dP (Λ ε γ RW p0)],_,_,f0,Xp,rfl,by simp only[List.append_assoc],aE,l3 p0 _,by show M.length+3<=M.length+4+0;omega,aj (atT p0 [] _ RW),rfl⟩,λm ρ' M' hw=>?_⟩;have⟨p,tb,E1,kb,kt,fp,wt,hm,rfl,Uu,kb3,kt3,V0,rfl⟩:=hw;walk_at "vc";refine⟨kb,_,_,rfl,Uu,?_⟩;have kl:(kP (Λ ε γ tb p)).length=(Λ ε γ tb p).length:=by unfold kP;rw[List.length_map]
  rw[kl];refine⟨λz=>⟨_,λρ2 M2 hn=>hn,?_⟩,λz=>?_⟩
  ·have z:(0:Int)<((Λ ε γ tb p).length:Int):=aaz z;have ne:Λ ε γ tb p≠[]:=λy=>by rw[y]at z;exact aaL z @_
   have Mc:=kS (tb:=tb) fw h2 fp (gp wt);have hd:=FX fw h2 fp (gp wt) held;have⟨i,il,hc⟩:=yG fw h2 fp (gp wt) held ne;dsimp only[KP,Ih];walk_at "vc";refine⟨⟨M.length+2,_,_,rfl,RX p E1⟩,M.length+2,kb,_,_,_,_,rfl,rfl,(),RX p E1,Uu,by rw[kl];have:=Gs fp;have:=X7 (tb:=tb) fp;unfold kP;rw[List.length_map];omega,?_⟩;rw[Jk,IJ,ZU];generalize bG p (Λ ε γ tb p)=p' at *
   refine⟨ε,γ,M.length+1,M.length+2,held,p',X,C,rfl,atH p' E1,RX p' E1,by have:=Gs Mc;omega,Qp Mc,fw,me,x',λyF VY=>?_⟩;rw[kTb,abb (M++[A5,dP held,dP p'])];refine⟨ε,γ,yF,.loc _,M.length+2,p',rfl,RX p' _,VY.flg fw (Qp Mc) b1,kM (atT p' E1 _ yF),bN Mc,Gs Mc,bok Mc VY,?_⟩;refine⟨_,?_,p',yF,E1++[dP (bG held p'),.lst (yF.map Ξ)]++[dP (Λ ε γ yF p')],_,_,Mc,VY,rfl,by simp only[List.append_assoc],aE,l3 p' _,(),aj (atT p' E1 _ yF),rfl⟩;rw[<-hm];exact HL Mc (Bh fw h2 (Qp fp) (Qp Mc) b1 wt VY hd il hc)
  ·have z:¬(0:Int)<((Λ ε γ tb p).length:Int):=abf z;have e:Λ ε γ tb p=[]:=List.length_eq_zero_iff.mp ();exact⟨gV,h p tb E1 kt fp wt e kt3 V0⟩
section
variable{cc:Pl}{yF:List Fr}{pa p1 p2 q1 q2 qr:Pl}
def i8.ext(h:i8 ε γ Η tb)(e:∀i:Nat,i<γ.length->Ι cc i=Ι Η i):i8 ε γ cc tb:=
 ⟨⟨h.tab.len,h.tab.red,λi il=>by
  have:=h.jj il;rw[<-AF (e i il)]at this
  exact this.symm⟩,h.bot⟩
def zh(γ:List Rw)(hand:Str)(p:Pl):Prop:=∀(i:Nat) (r:Rw),γ[i]? =some r->kindOf r=hand->∃j:Nat,Ι p i=some (j:Int)/\j<(Τ r).length
def Ae(fw:FW ε γ X C)(hh:Β hand=true)(fp:aQ (kR γ hand) p):zh γ hand p:=λi r hi e=>by
 cases r with
 |fin q=>exact aaL (show Β (Str.ofString "end")=true by rw[<-hh,<-e];rfl) @_
 |τ k ds=>
  have e:k=hand:=e;subst e;exact(cx (i:=i) fw hh fp).1 ds hi
def xj(o:zh γ hand p)(hi:γ[i]? =some r)(e:kindOf r=hand):fg p i (Τ r).length=true:=by have⟨j,gj,jl⟩:=o i r hi e;unfold fg;rw[gj];show(decide (0<=(j:Int))&&decide ((j:Int)<((Τ r).length:Int)))=true;rw[aaD (show 0<=(j:Int) by omega),aaD (show(j:Int)<((Τ r).length:Int) by omega)];rfl
def IU(o1:zh γ "one" p1)(o2:zh γ "other" p2):∀i,i<γ.length->ft γ (bt p1 p2) i=true:=λi il=>by
 have hi:γ[i]? =some γ[i]:=aaa il;generalize γ[i]=r at *
 unfold ft;rw[hi];show jP (bt p1 p2) i r=true;unfold jP bt;by_cases e:kindOf r="one"
 ·rw[aax e];exact xj o1 hi e
 ·rw[aaw e];by_cases e2:kindOf r="other"
  ·rw[aax e2];exact xj o2 hi e2
  ·rw[aaw e2]
def NA(hi:γ[i]? =some r):Ι (fi γ (bt p1 p2) γ.length) i=((bt p1 p2 (kindOf r)).map λpl=>(Ι pl i).getD 0):=by rw[jK,aax (aaf.mp hi).1,hi];rfl
def Rg:lR "one" "other":=iY (.inl ⟨rfl,rfl⟩)
def yW{z:Str}(h:Β z=false):bt p1 p2 z=none:=by unfold bt;rw[aaw (λe=>by rw[e]at h;exact aaL h @_),aaw (λe=>by rw[e]at h;exact aaL h @_)]
def sg1:h_ "one"=1:=aax rfl
def sg2:h_ "other"= -1:=aaw @_
end
def Td(h1: -(10^30)<=a)(h2:a<=10^30)(h3:b<=1000000):bx (a,b)=true:=by
 unfold bx;have:(if a<0 then -a else a)<=10^30:=by split <;> omega
 show(decide ((if a<0 then -a else a)<=10^30)&&decide (b<=1000000))=true;rw[aaD this,aaD h3];rfl
def EN{t:Int}(h1: -(10^30)<=t)(h2:t<=10^30)(h0:0<b)(h3:b<=1000000):bx (aB t b)=true:=by
 have l1:=tO (t:=t) (show b≠0 by omega);have l2:=j6 (t:=t) (show b≠0 by omega);generalize aB t b=f at *
 have⟨x,y⟩:=f;have l1:x.natAbs<=t.natAbs:=l1;have l2:y.natAbs<=b.natAbs:=l2;exact Td () () ()
def BV{t:Int}(t0:0<=t)(t1:t<b)(hb1:b<=1000):aX (aB t b)=true:=by
 have Li:0<b:=()
 have l2:=j6 (t:=t) (show b≠0 by omega);have q0:=cR (t:=t) (show b≠0 by omega);have hc:=cI (t:=t) (show b≠0 by omega);generalize aB t b=f at *
 have⟨x,y⟩:=f;have l2:y.natAbs<=b.natAbs:=l2;have q0:0<y:=q0;have hc:t*y=b*x:=hc;have x0:0<=x:=by
  rcases acp x 0 with z| z
  ·have:=abZ Li z;have:=abi t0 (aak q0);omega
  ·exact z
 have x1:x<y:=by
  rcases acp x y with z| z
  ·exact z
  ·have h3:b*y<=b*x:=aaC z (aak Li);have h4:t*y<b*y:=Int.mul_lt_mul_of_pos_right t1 q0;omega
 unfold aX;show(decide (0<=x)&&(decide (x<y)&&decide (y<=1000)))=true;rw[aaD x0,aaD x1,aaD (show y<=1000 by omega)];rfl
def V2(ns:List Int)(k:Int):Int:=ns.getD k.toNat 0
def QW{ns:List Int}{k:Int}(h0:0<=k)(h2:k<ns.length):lF (ns.map Dt.int) k=some (.int (V2 ns k)):=by
 have e:(ns.map Dt.int)[k.toNat]? =some (.int (V2 ns k)):=by rw[aaq,aaa (show k.toNat<ns.length by omega)];unfold V2;rw[aab,aaa (show k.toNat<ns.length by omega)];rfl
 have:=Ν e;rwa[show((k.toNat:Nat):Int)=k by omega]at this
def Nm(n:Int):Prop:=0<=n/\n<10^300
def Vu:AV 10 60:=⟨@_,@_,@_⟩
def ZV:AV 10 30:=⟨@_,@_,@_⟩
def p18:AV 10 18:=⟨@_,@_,@_⟩
def p12:AV 10 12:=⟨@_,@_,@_⟩
def p6:AV 10 6:=⟨@_,@_,@_⟩
def mL{n:Int}(h:Nm n):dQ n:=qz (k:=1000) h.1 (acq h.2 @_) @_
def Il(h0:0<b)(h1:b<=10^300):Nm (a%b):=⟨aa4 _ (),Int.lt_of_lt_of_le (aa1 _ h0) h1⟩
def Cy{n:Int}(h:Nm n)(h0:0<b):Nm (n/b):=⟨Int.ediv_nonneg h.1 (aak h0),aaN (aci _ h.1) h.2⟩
def Nt(m c:Int):Int:=(m*48271+c%10^(12:Int).toNat)%2147483647
def atV(ns:List Int)(k:Int):Int:=if k<ns.length then V2 ns k%(10^(60:Int).toNat*10^(60:Int).toNat*10^(60:Int).toNat*10^(60:Int).toNat*10^(60:Int).toNat) else ((ns.take 6).foldl Nt (5+3*(ns.length:Int))+1)*(k*k+69621)%2147483629
def V8:DF:=λas M q _=>∃(ns:List Int) (k:Int),as=[.iA ns,.int k]/\ns.length<=63/\0<=k/\k<=200/\∀n,Nm n/\n=atV ns k->q (.int n) M
def qT:Ε ["_law_script","_law_k","_law_mixed","_law_cell"] ["_law_script","_law_k"] (ψ Ci):=.of rfl
def Kp(F:cZ K "_law_at" "_law_at" Ci f fd)(E:Ev K mg w Cm):av P w K mg base (cC P w) 1 f fd ["_law_script","_law_k"] (cW K V8):=by
 refine F.dR qT (λds M q x h=>?_) (λbz A outer s H E' hr=>⟨_,(η (ax (tq (jv 1) (bP E.br (Ρ (jv 0) θ))) (μ (Γ (bu (Ζ (jv 0) (jv 1)) (au (au (au (au (jf ο ο) (jf ο ο)) (jf ο ο)) (jf ο ο)) (jf ο ο))))) Ο)
   (η (ω 2 qT.nd (ck ο (au ο (bP E.br (Ρ (jv 0) θ)))))
   (η (c8 (bC (cU (x9 (jv 0) ο))) (ai (i:=3) qT.nd rfl (Or.inl rfl)) aI (μ (ω 2 qT.nd (bu (ck (au (jv 2) ο) (bu (jv 3) (jf ο ο))) ο))))
   (μ (Γ (bu (au (ck (jv 2) ο) (ck (au (jv 1) (jv 1)) ο)) ο)))))),λds M q x h=>?_⟩)
 ·have⟨ns,k,rfl,_⟩:=h;rfl
 ·have⟨ns,k,rfl,nl,hk,k2,h⟩:=h;have bk:dQ k:=bg (k:=40) ();have bl:dQ (ns.length:Int):=bg (k:=40) ();have b6:dQ ((10:Int)^(60:Int).toNat):=bg (k:=210) @_;walk_at "vc";refine(ar (d:=.iA ns) (xs:=ns.map .int) rfl ?_:fB [.iA ns] M _);rw[aac];refine⟨λh1=>?_,λh1=>?_⟩
  ·have RQ:k<ns.length:=aaz h1;refine(Θ (d:=.iA ns) rfl (QW hk RQ) ?_:cE (.iA ns) (.int k) M _);exact⟨Vu,Vu,⟨b6,b6⟩,Vu,⟨bg (k:=410) @_,b6⟩,Vu,⟨bg (k:=610) @_,b6⟩,Vu,⟨bg (k:=810) @_,b6⟩,@_,h _ ⟨Il @_ @_,(aax RQ).symm⟩⟩
  ·have RQ:¬k<ns.length:=abf h1;refine(ar (d:=.iA ns) (xs:=ns.map .int) rfl ?_:fB [.iA ns] M _);rw[aac];refine⟨⟨bg (k:=40) @_,bl⟩,?_⟩;dsimp only[qe,fc,Sl,IV];walk_at "vc";refine⟨ns.map .int,6,rfl,rfl,?_⟩;rw[<-acu];refine cY (gC _) ?_;refine bK (λzs ρ' M'=>M'=M/\∃(rest:List Int) (m:Int) (o:Option Dt),zs=rest.map Dt.int/\0<=m/\m<2147483647/\rest.foldl Nt m=(ns.take 6).foldl Nt (5+3*(ns.length:Int))/\ρ'=[some (.iA ns),some (.int k),some (.int m),o]) (λzs ρ' M' hj=>trivial) (λx zs ρ' M' hj e9=>?_) (λρ' M' hj=>?_) _ _ _ ⟨rfl,_,_,none,rfl,(),(),rfl,rfl⟩
   ·have⟨rfl,rest,m,o,ex,m0,m1,ev,rfl⟩:=hj;cases rest with
    |nil=>cases ex
    |cons c rest=>
     cases ex;exact⟨⟨bg (k:=40) (),bg (k:=40) @_⟩,p12,@_,@_,e9 _ _ ⟨rfl,rest,_,_,rfl,aa4 _ @_,aa1 _ @_,ev,rfl⟩⟩
   ·have⟨rfl,rest,m,o,ex,m0,m1,ev,rfl⟩:=hj;have kk:0<=k*k/\k*k<=200*200:=⟨abi hk hk,abB k2 k2 hk @_⟩;refine⟨⟨bk,bk⟩,⟨bg (k:=40) (),bg (k:=40) ()⟩,@_,h _ ⟨Il @_ @_,?_⟩⟩;have:rest=[]:=by
     cases rest with
     |nil=>rfl
     |cons c r=>cases ex
    subst this;have ev:m=(ns.take 6).foldl Nt (5+3*(ns.length:Int)):=ev;unfold atV;rw[aaw RQ,<-ev]
def Xs(x:Int):Prop:=0<=x/\x<2^110
def yj:DF:=λas M q _=>∃(n:Int) (aV:Nat),as=[.int n,.int (aV:Nat)]/\dQ n/\aV<=60/\∀xs:List Int,xs.length=aV->(∀x∈xs,Xs x)->q (.loc M.length) (M++[.lst (xs.map Dt.int)])
def fX:Ε ["_law_number","_law_many","_law_some","_law_seed","_law_k"] ["_law_number","_law_many"] (ψ mY):=.of rfl
def wz(F:cZ K "_law_stream" "_law_stream" mY f fd)(E:Ev K mg w Cm):av P w K mg base (cC P w) 1 f fd ["_law_number","_law_many"] (cW K yj):=by
 refine F.dR fX (λds M q x h=>?_) (λbz A outer s H E' hr=>⟨_,(η (ω 2 fX.nd (j3 θ))
   (η (ω 3 fX.nd (ck (bu (au (jv 0) ο) ο) ο))
   (η (gf (bY E.bM (Ρ (jv 1) θ)) (ai (i:=4) fX.nd rfl (Or.inl rfl)) aI (η (ω 3 fX.nd (bu (ck (ck (au (jv 3) ο) (au (jv 4) (jv 4))) ο) ο))
   (μ (eT (eY (jv 2) (Ρ (jv 3) θ))))))
   (μ (Γ (jv 2)))))),λds M q x h=>?_⟩)
 ·have⟨n,aV,rfl,_⟩:=h;rfl
 ·have⟨n,aV,rfl,bn,m60,h⟩:=h;refine⟨@_,⟨bn,bg (k:=20) @_⟩,@_,?_⟩;have s0:=aa4 (n*69621) (show(2147483629:Int)≠0 by decide);have s1:=aa1 (n*69621) (show(0:Int)<2147483629 by decide);dsimp only[qx];generalize n*69621%2147483629=sd at *
  refine⟨⟨(),()⟩,?_⟩;rw[show((aV:Int)).toNat=aV by omega];refine cz (λzs ρ' M'=>∃(i c:Nat) (xs:List Int) (sd:Int) (o:Option Dt),zs=dN (i:Int) c/\i+c=aV/\xs.length=i/\(∀x∈xs,Xs x)/\0<=sd/\sd<=2147483647/\M'=M++[.lst (xs.map Dt.int)]/\ρ'=[some (.int n),some (.int (aV:Int)),some (.loc M.length),some (.int sd),o]) (λx zs ρ' M' hj e9=>?_) (λρ' M' hj=>?_) _ _ _ ⟨0,aV,[],sd+1,none,rfl,(),rfl,λ_ z=>(nomatch z),(),(),rfl,rfl⟩
  ·have⟨i,c,xs,sd,o,ex,ic,xl,hx,d0,d1,rfl,rfl⟩:=hj;have⟨c',rfl,rfl,rfl⟩:=bV ex;have i60:(i:Int)<60:=()
   have ii:0<=(i:Int)*i/\(i:Int)*i<=60*60:=⟨abi () (),abB () () () @_⟩;refine⟨⟨bg (k:=40) (),bg (k:=20) @_⟩,⟨bg (k:=20) (),bg (k:=20) ()⟩,@_,?_⟩;have t0:=aa4 (sd*48271+(i:Int)*i+7) (show(2147483647:Int)≠0 by decide);have t1:=aa1 (sd*48271+(i:Int)*i+7) (show(0:Int)<2147483647 by decide);refine⟨⟨_,_,rfl,aE⟩,M.length,_,_,rfl,rfl,aE,?_,?_⟩
   ·rw[aac,xl];exact aaX (show i<=60 by omega) @_
   rw[de];refine e9 _ _ ⟨i+1,c',xs++[(sd*48271+(i:Int)*i+7)%2147483647],_,_,by rw[Int.natCast_add];rfl,(),by simp[xl],λy hy=>?_,t0,Int.le_of_lt t1,by simp,rfl⟩;rcases aaV.mp hy with z| z
   ·exact hx y z
   ·rw[aa2.mp z];exact⟨t0,acq t1 @_⟩
  ·have⟨i,c,xs,sd,o,ex,ic,xl,hx,d0,d1,rfl,rfl⟩:=hj;have c0:c=0:=by have:=aa0 List.length ex;rw[fU]at this;exact this.symm
   exact h xs () hx
def I_:DF:=λas M q _=>∃t b:Int,as=[.int t,.int b]/\0<b/\dQ b/\q (Ξ (aB t b)) M
def ku:Ε ["_law_top","_law_bottom","_law_one","_law_two"] ["_law_top","_law_bottom"] (ψ mE):=.of rfl
def yw(F:cZ K "_law_lowest" "_law_lowest" mE f fd)(E:Ev K mg w Cm):av P w K mg base (cC P w) 1 f fd ["_law_top","_law_bottom"] (cW K I_):=by
 refine F.dR ku (λds M q x h=>?_) (λbz A outer s H E' hr=>⟨_,(η (Ja (i:=2) (j:=3) ku.nd rfl rfl (ι (Df E.uj (Ρ (jv 0) θ)) (Ρ (jv 1) θ) aY))
   (η (sx (lJ hr (jv 3) ο) (μ (Ja (i:=2) (j:=3) ku.nd rfl rfl (Ρ (jv 3) (ι (bu (jv 2) (jv 3)) θ bL)))))
   (μ (Γ (eI (ι (jN (jv 0) (jv 2)) (ι (jN (jv 1) (jv 2)) θ bL) bL)))))),λds M q x h=>?_⟩)
 ·have⟨t,b,rfl,_⟩:=h;rfl
 ·have⟨t,b,rfl,h0,h1,h⟩:=h;have ga:g (if t<0 then -t else t) b=g t b:=by have:=NS t b;rwa[aaw (show¬b<0 by omega)]at this
  refine⟨λm ρ M'=>M'=M/\∃(x y:Int),ρ=[some (.int t),some (.int b),some (.int x),some (.int y)]/\0<=x/\0<=y/\g x y=g t b/\m=y.toNat,⟨_,rfl,_,_,rfl,by split <;> omega,(),ga,rfl⟩,?_⟩;rintro m ρ M' ⟨rfl,x,y,rfl,hx,hy,e,rfl⟩;refine⟨λhb=>?_,λhb=>?_⟩
  ·have M_:y≠0:=by simpa using hb
   refine⟨_,λρ' M2 h2=>h2,?_⟩;refine⟨(),(x%y).toNat,?_,rfl,y,x%y,rfl,hy,aa4 _ M_,?_,rfl⟩
   ·have:=aa1 x (show 0<y by omega);have:=aa4 x M_;omega
   ·rw[<-abV x hy,KO ()];exact e
  ·have M_:y=0:=by simpa using hb
   subst M_;rw[HD hx]at e;subst e;have hg:0<g t b:=z_ ();have hle:g t b<=b:=ab6 h0 (Int.gcd_dvd_right ..);have hb:dQ (g t b):=aaX (show(g t b).natAbs<=b.natAbs by omega) h1;have e:aB t b=(t/g t b,b/g t b):=by rw[Mn h0,acd _ (aak hg),acd _ (aak hg)]
   rw[e]at h;exact⟨⟨hg,hb⟩,⟨hg,hb⟩,gV,h⟩
def IE:DF:=λas M q _=>∃n:Int,as=[.int n]/\∀b,q (.bl b) M
def uQ:Ε ["_law_number"] ["_law_number"] (ψ jr):=.of rfl
def sT(F:cZ K "_law_by_digits" "_law_by_digits" jr f fd)(E:Ev K mg w Cm):av P w K mg base (cC P w) 1 f fd ["_law_number"] (cW K IE):=by
 refine F.dR uQ (λds M q x h=>?_) (λbz A outer s H E' hr=>⟨_,(μ (Γ (Yh (jv 0) (jf ο ο)))),λds M q x h=>?_⟩)
 ·have⟨n,rfl,_⟩:=h;rfl
 ·have⟨n,rfl,h⟩:=h;exact⟨p18,h _⟩
def A3(ss:List Int):Dt:=.lst (ss.map Dt.int)
structure JQ(ss:List Int):Prop where
 len:ss.length=5
 pos:∀s∈ss,0<s/\s<=2*10^30+1
def T7{ss:List Int}(h:JQ ss){j:Int}:∃s,lF (ss.map Dt.int) (j%5)=some (.int s)/\0<s/\s<=2*10^30+1:=by
 have j0:=aa4 j (show(5:Int)≠0 by decide);have j1:=aa1 j (show(0:Int)<5 by decide);have hl:(j%5).toNat<ss.length:=by rw[h.len];omega
 have:=gm hl;rw[show(((j%5).toNat:Nat):Int)=j%5 by omega]at this;exact⟨_,this,h.pos _ (aaG hl)⟩
def DD:DF:=λas M q _=>∃(n k:Int) (aV:Nat) (ss:List Int),as=[.int n,.int k,.int (aV:Nat),A3 ss]/\Nm n/\0<=k/\k<=12/\aV<=30/\JQ ss/\∀xs:List Int,xs.length=aV->(∀x∈xs,Xs x)->q (.loc M.length) (M++[.lst (xs.map Dt.int)])
def fY:Ε ["_law_number","_law_k","_law_many","_law_sizes","_law_some","_law_rest","_law_j"] ["_law_number","_law_k","_law_many","_law_sizes"] (ψ mz):=.of rfl
def yu(F:cZ K "_law_things" "_law_things" mz f fd)(E:Ev K mg w Cm)(aC:aw P w K mg base 1 "_law_by_digits" ["_law_number"] IE cL cM){mZ:Addr}{lU:FuncData}(eN:aw P w K mg base 1 "_law_stream" ["_law_number","_law_many"] yj mZ lU):av P w K mg base (cC P w) 2 f fd ["_law_number","_law_k","_law_many","_law_sizes"] (cW K DD):=by
 refine F.dR fY (λds M q x h=>?_) (λbz A outer s H E' hr=>⟨_,(η (ax (eU (bH (aa aC hr ξ (Ρ (jv 0) θ)))) (μ (Γ (aa eN hr ξ (ι (ck (au (jv 0) ο) (jv 1)) (Ρ (jv 2) θ) bL)))) Ο)
   (η (ω 4 fY.nd (j3 θ))
   (η (ω 5 fY.nd (jN (jv 0) ο))
   (η (gf (bY E.bM (Ρ (jv 2) θ)) (ai (i:=6) fY.nd rfl (Or.inl rfl)) aI (η (eT (eY (jv 4) (ι (bu (jv 5) (Ζ (jv 3) (bu (jv 6) ο))) θ bL)))
   (μ (ω 5 fY.nd (jN (jv 5) (Ζ (jv 3) (bu (jv 6) ο)))))))
   (μ (Γ (jv 4))))))),λds M q x h=>?_⟩)
 ·have⟨n,k,aV,ss,rfl,_⟩:=h;rfl
 ·have⟨n,k,aV,ss,rfl,hn,k0,k1,W0,so,h⟩:=h;refine⟨n,rfl,λb=>⟨λ_=>?_,λ_=>?_⟩⟩
  ·refine⟨⟨mL hn,bg (k:=10) @_⟩,?_⟩;refine⟨n*12+k,aV,rfl,?_,(),h⟩;have⟨n0,n1⟩:=hn;refine qz (k:=1100) () ?_ @_;exact Int.lt_of_lt_of_le (show n*12+k<10^300*12+13 by omega) @_
  ·refine⟨@_,⟨@_,bg (k:=10) @_⟩,⟨(),()⟩,?_⟩;rw[show((aV:Int)).toNat=aV by omega];refine cz (λzs ρ' M'=>∃(i c:Nat) (xs:List Int) (r:Int) (o:Option Dt),zs=dN (i:Int) c/\i+c=aV/\xs.length=i/\(∀x∈xs,Xs x)/\Nm r/\M'=M++[.lst (xs.map Dt.int)]/\ρ'=[some (.int n),some (.int k),some (.int (aV:Int)),some (A3 ss),some (.loc M.length),some (.int r),o]) (λx zs ρ' M' hj e9=>?_) (λρ' M' hj=>?_) _ _ _ ⟨0,aV,[],_,none,rfl,(),rfl,λ_ z=>(nomatch z),Cy hn @_,rfl,rfl⟩
   ·have⟨i,c,xs,r,o,ex,ic,xl,hx,fV,rfl,rfl⟩:=hj;have⟨c',rfl,rfl,rfl⟩:=bV ex;have⟨sz,es,s0,s1⟩:=T7 so (j:=(i:Int));have rd:∀(M':Ms) (q:DQ),q (.int sz) M'->cE (A3 ss) (.int ((i:Int)%5)) M' q:=λM' q hq=>Θ (d:=A3 ss) rfl es hq;walk_at "vc";refine⟨⟨_,_,rfl,aE⟩,?_⟩;refine⟨@_,rd _ _ ⟨s0,?_⟩⟩;refine⟨M.length,_,_,rfl,rfl,aE,?_,?_⟩
    ·rw[aac,xl];exact aaX (show i<=60 by omega) @_
    rw[de];refine⟨@_,rd _ _ ⟨⟨s0,qz (k:=110) (aak s0) (aaN s1 @_) @_⟩,?_⟩⟩;refine e9 _ _ ⟨i+1,c',xs++[r%sz],_,_,by rw[Int.natCast_add];rfl,(),by simp[xl],λy hy=>?_,Cy fV s0,by simp,rfl⟩;rcases aaV.mp hy with z| z
    ·exact hx y z
    ·rw[aa2.mp z];exact⟨aa4 _ (),acq (aa1 _ s0) (aaN s1 @_)⟩
   ·have⟨i,c,xs,r,o,ex,ic,xl,hx,fV,rfl,rfl⟩:=hj;have c0:c=0:=by have:=aa0 List.length ex;rw[fU]at this;exact this.symm
    exact h xs () hx
def AH:DF:=λas M q _=>∃n low:Int,as=[.int n,.int low]/\Nm n/\1<=low/\low<=1000/\∀p,aX p=true->q (Ξ p) M
def jB:Ε ["_law_number","_law_low","_law_bottom","_law_top"] ["_law_number","_law_low"] (ψ kJ):=.of rfl
def uz(F:cZ K "_law_share_of" "_law_share_of" kJ f fd)(E:Ev K mg w Cm)(aC:aw P w K mg base 1 "_law_by_digits" ["_law_number"] IE cL cM)(aW:aw P w K mg base 1 "_law_lowest" ["_law_top","_law_bottom"] I_ ef eA):av P w K mg base (cC P w) 2 f fd ["_law_number","_law_low"] (cW K AH):=by
 refine F.dR jB (λds M q x h=>?_) (λbz A outer s H E' hr=>⟨_,(η (ω 2 jB.nd (ck ο (bu (jv 0) (jv 1))))
   (η (iN (ω 3 jB.nd (uX (bH (aa aC hr ξ (Ρ (jv 0) θ))) (jN (jv 0) (jv 1)) (bu (au (jv 0) ο) ο))))
   (μ (Γ (aa aW hr ξ (ι (bu (jv 3) (jv 2)) (Ρ (jv 2) θ) bL)))))),λds M q x h=>?_⟩)
 ·have⟨n,low,rfl,_⟩:=h;rfl
 ·have⟨n,low,rfl,hn,l1,l2,h⟩:=h;have b0:=aa4 n (show low≠0 by omega);have b1:=aa1 n (show 0<low by omega);refine⟨(),?_⟩;dsimp only[qx];generalize n%low=r at *
  have fin:∀t:Int,aX (aB (t%(1+r)) (1+r))=true:=λt=>BV (aa4 _ ()) (aa1 _ ()) ();refine⟨λρ M'=>M'=M/\∃t:Int,ρ=[some (.int n),some (.int low),some (.int (1+r)),some (.int t)],?_,?_⟩
  ·refine⟨n,rfl,λb=>⟨λ_=>?_,λ_=>?_⟩⟩
   ·exact⟨⟨(),bg (k:=12) ()⟩,rfl,_,rfl⟩
   ·exact⟨⟨mL hn,bg (k:=20) @_⟩,@_,rfl,_,rfl⟩
  ·rintro ρ M' ⟨rfl,t,rfl⟩;exact⟨(),_,_,rfl,(),bg (k:=12) (),h _ (fin t)⟩
structure vE(kd:Str)(size:Int)(cs:List Fr)(ds:List bO):Prop where
 fit:∀d∈ds,aP d.1 d.2.1 size=true/\0<d.2.1.2
 VG:kd="chance"->(∀d∈ds,d.2.2=[χ d])/\ds.map χ=cs.take ds.length
 XI:kd≠"chance"->∀d∈ds,d.2.2=[]
def vE.more{kd:Str}{size:Int}{cs:List Fr}(h:vE kd size cs ds)(h1:aP d.1 d.2.1 size=true)(h2:0<d.2.1.2)(hl:ds.length<cs.length)(h3:kd="chance"->d.2.2=[cs[ds.length]])(h4:kd≠"chance"->d.2.2=[]):vE kd size cs (ds++[d]):=by
 refine⟨λe he=>?_,λhc=>⟨λe he=>?_,?_⟩,λhc e he=>?_⟩
 ·rcases aaV.mp he with he| he
  ·exact h.fit e he
  ·have:e=d:=by simpa using he
   subst this;exact⟨h1,h2⟩
 ·rcases aaV.mp he with he| he
  ·exact(h.VG hc).1 e he
  ·have:e=d:=by simpa using he
   subst this;unfold χ;rw[h3 hc];rfl
 ·rw[aa8,(h.VG hc).2,aah];show cs.take ds.length++[χ d]=cs.take (ds.length+1);rw[List.take_succ,aaa hl];unfold χ;rw[h3 hc];rfl
 ·rcases aaV.mp he with he| he
  ·exact h.XI hc e he
  ·have:e=d:=by simpa using he
   subst this;exact h4 hc
def vE.good{kd:Str}{size:Int}{cs:List Fr}(h:vE kd size cs ds)(hk:Β kd=true\/kd="chance")(h1:1<=ds.length)(h6:ds.length<=6)(hl:ds.length=cs.length)(hc:aq cs=true)(ho:PX cs):qK size (.τ kd ds):=by
 by_cases A2:kd="chance"
 ·subst A2;have e:ds.map χ=cs:=by rw[(h.VG rfl).2,hl,List.take_length]
  exact E8 h1 h6 (λd hd=>(h.fit d hd).1) (h.VG rfl).1 (by rw[e];exact hc) (by rw[e];exact ho) λd hd=>(h.fit d hd).2
 ·exact LO (hk.resolve_right A2) h1 h6 (λd hd=>(h.fit d hd).1) λd hd=>⟨h.XI A2 d hd,(h.fit d hd).2⟩
def RwG(size:Int)(r:Rw):Prop:=qK size r/\∀k ds,r= .τ k ds->Β k=true->∀d∈ds,d.2.2=[]
def MM{k:Str}(h:Β k=true):k≠"chance":=λz=>by subst z;exact aaL h @_
structure v9(cK:Bool)(p:Fr):Prop where
 red:Red p
 fit:bx p=true
 near:cK=false->p.2∣12/\eJ p 9
def MI{t:Int}(h1: -(10^30)<=t)(h2:t<=10^30)(h0:0<b)(h3:b<=1000000):v9 true (aB t b):=⟨b7 (),EN h1 h2 h0 h3,λz=>(nomatch z)⟩
def HB{x y:Int}:v9 false (aB (x%19-9) (1+y%4)):=by
 have b0:0<1+y%4:=()
 refine⟨b7 (),EN () () b0 (),λ_=>⟨?_,n9 b0 () ()⟩⟩;refine Int.dvd_trans (Af b0) ?_;have:y%4=0\/y%4=1\/y%4=2\/y%4=3:=()
 rcases this with e| e| e| e <;> rw[e] <;> decide
def Xs.big{x:Int}(h:Xs x):dQ x:=qz h.1 h.2 @_
def KH{k:Nat}(a0:0<=a)(a1:a<2^j)(b0:0<=b)(b1:b<2^k):0<=a*b/\a*b<2^(j+k):=by refine⟨abi a0 b0,?_⟩;rw[Int.pow_add];exact aaN (aaO (aak a1) b0) (Int.mul_lt_mul_of_pos_left b1 (Int.pow_pos @_))
def Kc:DF:=λas M q _=>∃(xs:List Int) (cK:Bool),as=[.lst (xs.map Dt.int),.bl cK]/\3<=xs.length/\(∀x∈xs,Xs x)/\∀p,v9 cK p->q (Ξ p) M
def yN:Ε ["_law_xs","_law_far","_law_top"] ["_law_xs","_law_far"] (ψ xu):=.of rfl
def GH(F:cZ K "_law_pay" "_law_pay" xu f fd)(E:Ev K mg w Cm)(aW:aw P w K mg base 1 "_law_lowest" ["_law_top","_law_bottom"] I_ ef eA):av P w K mg base (cC P w) 2 f fd ["_law_xs","_law_far"] (cW K Kc):=by
 refine F.dR yN (λds M q x h=>?_) (λbz A outer s H E' hr=>⟨_,(η (ax (bH (jv 1)) (η (iN (ω 2 yN.nd (uX (D0 (Ζ (jv 0) ο) ο) (au (au (au (Ζ (jv 0) ο) (Ζ (jv 0) ο)) (Ζ (jv 0) ο)) (Ζ (jv 0) ο)) (Ζ (jv 0) ο))))
   (μ (Γ (aa aW hr ξ (ι (sP (bu (jv 2) (ck (au ο (jf ο ο)) ο)) (jf ο ο)) (ι (ck ο (bu (Ζ (jv 0) ο) (jf ο ο))) θ bL) bL))))) Ο)
   (μ (Γ (aa aW hr ξ (ι (sP (bu (Ζ (jv 0) ο) ο) ο) (ι (ck ο (bu (Ζ (jv 0) ο) ο)) θ bL) bL))))),λds M q x h=>?_⟩)
 ·have⟨xs,cK,rfl,_⟩:=h;rfl
 ·have⟨xs,cK,rfl,l3,hx,h⟩:=h;have rd:∀(j:Nat) (hj:j<3) (M':Ms) (q:DQ),q (.int (xs[j]'())) M'->cE (.lst (xs.map Dt.int)) (.int (j:Int)) M' q:=λj hj M' q hq=>Θ (d:=.lst (xs.map Dt.int)) rfl (gm ()) hq;have x0:=hx _ (aaG (show 0<xs.length by omega));have x1:=hx _ (aaG (show 1<xs.length by omega));have x2:=hx _ (aaG (show 2<xs.length by omega));walk_at "vc";refine⟨λz=>?_,λz=>?_⟩
  ·subst z;refine⟨λρ M'=>M'=M/\∃t:Int,ρ=[some (.lst (xs.map Dt.int)),some (.bl true),some (.int t)],?_,?_⟩
   ·walk_at "vc";refine rd 2 @_ _ _ ⟨λ_=>?_,λ_=>?_⟩
    ·have⟨p0,p1⟩:=KH x0.1 x0.2 x1.1 x1.2;have⟨q0,q1⟩:=KH p0 p1 x2.1 x2.2;refine rd 0 @_ _ _ ?_;refine rd 1 @_ _ _ ?_;refine⟨⟨x0.big,x1.big⟩,?_⟩;walk_at "vc";refine rd 2 @_ _ _ ?_;refine⟨⟨qz p0 p1 @_,x2.big⟩,?_⟩;walk_at "vc";refine rd 0 @_ _ _ ?_;exact⟨⟨qz q0 q1 @_,x0.big⟩,rfl,_,rfl⟩
    ·refine rd 0 @_ _ _ ?_;exact⟨rfl,_,rfl⟩
   ·rintro ρ M' ⟨rfl,t,rfl⟩;have WE:dQ ((10:Int)^(30:Int).toNat):=bg (k:=110) @_;have m0:(0:Int)<2*10^(30:Int).toNat+1:=@_
    have VJ:=aa4 t (show(2*10^(30:Int).toNat+1:Int)≠0 by decide);have hm1:=aa1 t m0;have Ti:0<1+xs[1]%10^(6:Int).toNat/\1+xs[1]%10^(6:Int).toNat<=1000000:=by show 0<1+xs[1]%1000000/\1+xs[1]%1000000<=1000000;omega
    have hb7:dQ (1+xs[1]%10^(6:Int).toNat):=qz (k:=20) (aak Ti.1) (aaN Ti.2 @_) @_;walk_at "vc";refine⟨ZV,⟨bg (k:=4) @_,WE⟩,m0,ZV,?_⟩;dsimp only[xS];refine rd 1 @_ _ _ ?_;refine⟨p6,(by show(0:Int)<1000000;decide),_,_,rfl,Ti.1,hb7,h _ (MI ?_ ?_ Ti.1 Ti.2)⟩
    ·show -(10^30)<=t%(2*10^(30:Int).toNat+1)-10^30;omega
    ·have e:(10:Int)^(30:Int).toNat=10^30:=rfl;rw[e]at hm1;show t%(2*10^30+1)-10^30<=10^30;omega
  ·subst z;refine rd 0 @_ _ _ ?_;refine⟨@_,?_⟩;dsimp only[xS];refine(rd 1 @_ _ _ ?_:cE (.lst (xs.map Dt.int)) (.int 1) _ _);exact⟨@_,_,_,rfl,(),bg (k:=10) (),h _ HB⟩
def Uh(cK:Bool)(size:Int)(r:Rw):Prop:=RwG size r/\(∀p,r= .fin p->v9 cK p)/\∀k ds,r= .τ k ds->∀d∈ds,v9 cK d.2.1
def OB(c:Nat):sliceRange ((4:Nat):Int) ((5*c:Nat):Int) ((5:Nat):Int)=(List.range c).map λk=>5*k+4:=by
 unfold sliceRange;have hc:(if ((4:Nat):Int)<((5*c:Nat):Int) then (((5*c:Nat):Int)-((4:Nat):Int)+((5:Nat):Int)-1)/((5:Nat):Int) else 0)=c:=by split <;> omega
 simp only[show((5:Nat):Int) > 0 by decide,if_true,hc,Int.toNat_natCast];apply abg;intro k _;omega
def T'{c:Nat}{ds:List Dt}{xs:List Int}(e:ds=xs.map Dt.int)(h:xs.length=5*c):iV (sliceRange ((4:Nat):Int) (ds.length:Int) ((5:Nat):Int)) ds=((List.range c).map λk=>xs.getD (5*k+4) 0).map Dt.int:=by
 subst e;rw[aac,h,OB];unfold iV;rw[List.filterMap_map,aaM];have:∀l:List Nat,(∀k∈l,k<c)->l.filterMap ((λi=>(xs.map Dt.int)[i]?) ∘ λk=>5*k+4)=l.map (Dt.int ∘ λk=>xs.getD (5*k+4) 0):=λl=>by
  induction l with
  |nil=>intro _;rfl
  |cons k l ih=>
   intro hk;have kc:=hk k aae;have e:((λi=>(xs.map Dt.int)[i]?) ∘ λk=>5*k+4) k=some (Dt.int (xs.getD (5*k+4) 0)):=by show(xs.map Dt.int)[5*k+4]? =_;rw[aaq,aab,aaa ()];rfl
   rw[acj,e,aaH,<-ih λz hz=>hk z (aad _ hz)];rfl
 exact this _ λk hk=>aba.mp hk
def Dr:DF:=λas M q _=>∃(kd:Str) (xs:List Int) (aV:Int) (cK:Bool) (c:Nat),as=[.str kd,.lst (xs.map Dt.int),.int aV,.bl cK]/\xs.length=5*c/\1<=c/\c<=6/\(∀x∈xs,Xs x)/\1<=aV/\aV<=12/\(Β kd=true\/kd="chance")/\∀ds,ds.length=c->Uh cK aV (.τ kd ds)->q (.loc M.length) (M++[.lst (ds.map eG)])
def eB:Ε ["_law_kind","_law_xs","_law_many","_law_far","_law_doors_here","_law_parts","_law_k","_law_door"] ["_law_kind","_law_xs","_law_many","_law_far"] (ψ pK):=.of rfl
def AB(F:cZ K "_law_doors" "_law_doors" pK f fd)(E:Ev K mg w Cm){wY:Addr}{wN:FuncData}(iS:aw P w K mg base 2 "_law_pay" ["_law_xs","_law_far"] Kc wY wN)(aW:aw P w K mg base 1 "_law_lowest" ["_law_top","_law_bottom"] I_ ef eA):av P w K mg base (cC P w) 4 f fd ["_law_kind","_law_xs","_law_many","_law_far"] (cW K Dr):=by
 refine F.dR eB (λds M q x h=>?_) (λbz A outer s H E' hr=>⟨_,(η (ω 4 eB.nd (j3 θ))
   (η (ie (i:=5) eB.nd rfl (Or.inl rfl) (ys:=["_law_far"]) (af:=[3]) (.of eB rfl rfl rfl) (bC (cU (QK (a:=4) (b:=5) (jv 1) ο ο))) (λC s H fp=>(ck ο (bu (jv 0) (Ζ (dH 3 (d:=.lst [.int 4,.int 150000]) (by rfl)) (OI E.vN (Ρ (jv 1) θ)))))))
   (η (gf (bY E.bM (ι (bP E.br (Ρ (jv 5) θ)) θ aY)) (ai (i:=6) eB.nd rfl (Or.inl rfl)) aI (η (ω 7 eB.nd (eI (ι (bu (Ζ (jv 1) (ck (au ο (jv 6)) ο)) (jv 2)) (ι (aa iS hr ξ (ι (cU (vt (jv 1) (au ο (jv 6)) (ck (au ο (jv 6)) ο))) (Ρ (jv 3) θ) aZ)) θ aY) bL)))
   (η (iN (ax (cQ hr (jv 0) ia) (μ (ω 7 eB.nd (ck (jv 7) (eI (ι (aa aW hr ξ (ι (Ζ (jv 5) (jv 6)) (ι (OL E.y_ (Ρ (jv 5) θ)) θ aY) aZ)) θ aY))))) Ο))
   (μ (eT (eY (jv 4) (Ρ (jv 7) θ)))))))
   (μ (Γ (jv 4)))))),λds M q x h=>?_⟩)
 ·have⟨kd,xs,aV,cK,c,rfl,_⟩:=h;rfl
 ·have⟨kd,xs,aV,cK,c,rfl,xl,c1,c6,hx,s1,s12,Qe,h⟩:=h;have sl:∀{z:Nat},z<=1000->z<=sizeLine:=λh=>aaE h @_;refine⟨@_,?_⟩;generalize hM0:M++[MO.lst []]=M0;dsimp only[pE,fc,Sl,Oa];walk_at "vc";refine⟨rfl,_,rfl,rfl,by rw[aac];omega,?_,?_⟩
  ·rw[aac,xl,OB,aac,abc];omega
  rw[T' rfl xl];refine cY (gC _) ?_;obtain⟨most,em,m0,m1⟩:∃most:Int,(∀(M':Ms) (q:DQ),q (.int most) M'->cE (.lst [.int 4,.int 150000]) (.int (if cK=true then 1 else 0)) M' q)/\0<most/\most<=150000:=by
   cases cK with
   |true=>exact⟨150000,λM' q hq=>Θ (d:=.lst [.int 4,.int 150000]) rfl (Ν (j:=1) rfl) hq,@_,@_⟩
   |false=>exact⟨4,λM' q hq=>Θ (d:=.lst [.int 4,.int 150000]) rfl bw hq,@_,@_⟩
  refine⟨by rw[aac,aac,abc];exact sl (),?_⟩;refine dF (F:=λx n=>x=Dt.int n) (f:=λn=>.int (1+n%most)) (as:=(List.range c).map λk=>xs.getD (5*k+4) 0) trivial (λx n TQ qq hq=>?_) ?_ ?_
  ·subst TQ;walk_at "vc";show zC [.bl cK] M0 λd2 M2=>cE (.lst [.int 4,.int 150000]) d2 M2 λd2 M2=>Mo (.int n) d2 M2 λd2 M2=>qx (.int 1) d2 M2 qq;dsimp only[zC];refine em _ _ ?_;exact⟨m0,hq⟩
  ·have:∀l:List Int,Paired (λx n=>x=Dt.int n) (l.map Dt.int) l:=λl=>by
    induction l with
    |nil=>exact .nil
    |cons a l ih=>exact .cons rfl ih
   exact this _
  rw[aaW,aaM];generalize Vg:((List.range c).map λk=>1+xs.getD (5*k+4) 0%most)=ws;have ew:(List.range c).map ((λn=>Dt.int (1+n%most)) ∘ λk=>xs.getD (5*k+4) 0)=ws.map Dt.int:=by rw[<-Vg,aaM];rfl
  rw[ew];have wl:ws.length=c:=by rw[<-Vg,aac,abc]
  have w0:∀w∈ws,0<w/\w<=most:=λw hw=>by rw[<-Vg]at hw;have⟨y,_,rfl⟩:=aaj.mp hw;have e0:=aa4 (xs.getD (5*y+4) 0) (show most≠0 by omega);have e1:=aa1 (xs.getD (5*y+4) 0) m0;omega
  have hS:ws.sum<=1000000:=by have:=IK λw Xq=>(w0 w Xq).2;rw[wl]at this;have:(c:Int)*most<=6*150000:=abB () m1 () @_;omega
  have jn:ws≠[]:=λz=>by rw[z]at wl;simp at wl;omega
  have X8:=DW (λw hw=>(w0 w hw).1) jn;have⟨cc1,cc2⟩:=BK (S:=ws.sum) rfl (λw Xq=>(w0 w Xq).1) jn hS ();have cl:(ws.map λw=>aB w ws.sum).length=c:=by rw[aac,wl]
  have bS:dQ ws.sum:=bg (k:=21) ();clear Vg;refine(ar (d:=.lst (ws.map .int)) (xs:=ws.map .int) rfl ?_:fB [.lst (ws.map .int)] _ _);rw[aac,wl];refine⟨⟨(),()⟩,?_⟩;rw[show((c:Int)).toNat=c by omega];subst hM0;refine cz (λzs ρ M'=>∃(n k:Nat) (ds:List bO) (o1 o2:Option Dt),zs=dN k n/\k+n=c/\ds.length=k/\vE kd aV (ws.map λw=>aB w ws.sum) ds/\(∀d∈ds,v9 cK d.2.1)/\M'=M++[MO.lst (ds.map eG)]/\ρ=[some (.str kd),some (.lst (xs.map Dt.int)),some (.int aV),some (.bl cK),some (.loc M.length),some (.lst (ws.map .int)),o1,o2]) (λx zs ρ M' hj e9=>?_) (λρ M' hj=>?_) _ _ _ ⟨c,0,[],none,none,by simp,by simp,rfl,⟨λ_ z=>(nomatch z),λ_=>⟨λ_ z=>(nomatch z),rfl⟩,λ_ _ z=>(nomatch z)⟩,λ_ z=>(nomatch z),rfl,rfl⟩
  ·have⟨n,k,ds,o1,o2,ex,Yk,hl,hd,hp,rfl,rfl⟩:=hj;have⟨m,rfl,rfl,rfl⟩:=bV ex;have k6:(k:Int)<6:=()
   have kx:5*k+3<xs.length:=()
   have kw:k<ws.length:=()
   have RR:(M++[MO.lst (ds.map eG)])[M.length]? =some (.lst (ds.map eG)):=by simp
   have setM:∀y:bO,(M++[MO.lst (ds.map eG)]).set M.length (.lst (ds.map eG++[eG y]))=M++[.lst ((ds++[y]).map eG)]:=λy=>by simp
   have lt:(ds.map eG).length<sizeLine:=by rw[aac,hl];exact aaX (show k<=12 by omega) @_
   have e5:5*(k:Int)+3=((5*k+3:Nat):Int):=()
   have e50:5*(k:Int)=((5*k:Nat):Int):=()
   have b5:dQ (5:Int):=bg (k:=10) @_;have bk:dQ (k:Int):=bg (k:=10) ();walk_at "vc";refine⟨⟨b5,bk⟩,?_⟩;dsimp only[qx];rw[e5];refine(Θ (d:=.lst (xs.map .int)) rfl (gm kx) ?_:cE (.lst (xs.map .int)) (.int ((5*k+3:Nat):Int)) _ _);refine⟨(),⟨b5,bk⟩,5*k,by rw[e50],⟨b5,bk⟩,xs.map Dt.int,5*k+3,rfl,by rw[<-e5],?_⟩;rw[<-acv,<-acu];refine cY (gC _) ?_;refine⟨(xs.drop (5*k)).take (5*k+3-5*k),cK,rfl,by rw[ach,abP];omega,λy hy=>hx y (List.mem_of_mem_drop (List.mem_of_mem_take hy)),λp pp=>⟨gV,?_⟩⟩;have hp0:=pp.red.pos;have LA:aP (xs[5*k+3]%aV) p aV=true:=Mi (aa4 _ ()) (aa1 _ ()) pp.fit;refine⟨λρ M2=>M2=M++[MO.lst (ds.map eG)]/\∃d:bO,(aP d.1 d.2.1 aV=true/\0<d.2.1.2/\(kd="chance"->d.2.2=[aB ws[k] ws.sum])/\(kd≠"chance"->d.2.2=[])/\v9 cK d.2.1)/\ρ=[some (.str kd),some (.lst (xs.map Dt.int)),some (.int aV),some (.bl cK),some (.loc M.length),some (.lst (ws.map .int)),some (.int (k:Int)),some (eG d)],⟨λhc=>?_,λhc=>?_⟩,?_⟩
   ·have hc:kd="chance":=aaz hc;walk_at "vc";refine(Θ (d:=.lst (ws.map .int)) rfl (gm kw) ?_:cE (.lst (ws.map .int)) (.int (k:Int)) _ _);exact⟨ws,rfl,⟨_,_,rfl⟩,_,_,rfl,X8,bS,(by show 1<=sizeLine;decide),⟨by simp,by show 3<=sizeLine;decide⟩,rfl,(xs[5*k+3]%aV,p,[aB ws[k] ws.sum]),⟨LA,hp0,λ_=>rfl,λz=>absurd hc z,pp⟩,rfl⟩
   ·have hc:kd≠"chance":=abf hc;exact⟨rfl,(xs[5*k+3]%aV,p,[]),⟨LA,hp0,λz=>aaL z hc,λ_=>rfl,pp⟩,rfl⟩
   ·rintro ρ2 M2 ⟨rfl,d,⟨d1,d2,d3,d4,d5⟩,rfl⟩;refine⟨⟨M.length,_,rfl,RR⟩,M.length,_,_,rfl,rfl,RR,lt,?_⟩;rw[setM d];refine e9 _ _ ⟨m,k+1,ds++[d],_,_,by simp,(),by simp[hl],hd.more d1 d2 (by rw[cl];omega) (λz=>?_) d4,λy hy=>?_,rfl,rfl⟩
    ·rw[d3 z];simp[hl]
    ·rcases aaV.mp hy with z| z
     ·exact hp y z
     ·rw[aa2.mp z];exact d5
  ·have⟨n,k,ds,o1,o2,ex,Yk,hl,hd,hp,rfl,rfl⟩:=hj;have hn:n=0:=by have:=aa0 List.length ex;unfold dN at this;simpa using this.symm
   refine h ds () ⟨⟨hd.good Qe () () (by rw[cl];omega) cc1 cc2,λk' oa e hk d JX=>by cases e;exact hd.XI (MM hk) d JX⟩,λp e=>(nomatch e),λk' oa e d JX=>by cases e;exact hp d JX⟩
def O7{n:Int}:∃kd:Str,lF [Dt.str "one",Dt.str "other",Dt.str "chance",Dt.str "end",Dt.str "one",Dt.str "other",Dt.str "chance",Dt.str "chance"] (n%8)=some (.str kd)/\(Β kd=true\/kd="chance"\/kd="end"):=by
 have:n%8=0\/n%8=1\/n%8=2\/n%8=3\/n%8=4\/n%8=5\/n%8=6\/n%8=7:=()
 rcases this with e| e| e| e| e| e| e| e <;> rw[e]
 ·exact⟨_,bw,.inl @_⟩
 ·exact⟨_,Ν (j:=1) rfl,.inl @_⟩
 ·exact⟨_,Ν (j:=2) rfl,.inr (.inl rfl)⟩
 ·exact⟨_,Ν (j:=3) rfl,.inr (.inr rfl)⟩
 ·exact⟨_,Ν (j:=4) rfl,.inl @_⟩
 ·exact⟨_,Ν (j:=5) rfl,.inl @_⟩
 ·exact⟨_,Ν (j:=6) rfl,.inr (.inl rfl)⟩
 ·exact⟨_,Ν (j:=7) rfl,.inr (.inl rfl)⟩
def Ug{n:Int}:∃m:Int,lF [Dt.int 4,Dt.int 4,Dt.int 4,Dt.int 4,Dt.int 4,Dt.int 4,Dt.int 6,Dt.int 12] (n%8)=some (.int m)/\1<=m/\m<=12/\(n%8=5->m=4):=by
 have:n%8=0\/n%8=1\/n%8=2\/n%8=3\/n%8=4\/n%8=5\/n%8=6\/n%8=7:=()
 rcases this with e| e| e| e| e| e| e| e <;> rw[e]
 ·exact⟨_,bw,@_,@_,@_⟩
 ·exact⟨_,Ν (j:=1) rfl,@_,@_,@_⟩
 ·exact⟨_,Ν (j:=2) rfl,@_,@_,@_⟩
 ·exact⟨_,Ν (j:=3) rfl,@_,@_,@_⟩
 ·exact⟨_,Ν (j:=4) rfl,@_,@_,@_⟩
 ·exact⟨_,Ν (j:=5) rfl,@_,@_,@_⟩
 ·exact⟨_,Ν (j:=6) rfl,@_,@_,@_⟩
 ·exact⟨_,Ν (j:=7) rfl,@_,@_,@_⟩
def Xy{n:Int}:∃m:Int,lF [Dt.int 10,Dt.int 10,Dt.int 10,Dt.int 10,Dt.int 1,Dt.int 1000,Dt.int 10,Dt.int 10] (n%8)=some (.int m)/\1<=m/\m<=1000:=by
 have:n%8=0\/n%8=1\/n%8=2\/n%8=3\/n%8=4\/n%8=5\/n%8=6\/n%8=7:=()
 rcases this with e| e| e| e| e| e| e| e <;> rw[e]
 ·exact⟨_,bw,@_,@_⟩
 ·exact⟨_,Ν (j:=1) rfl,@_,@_⟩
 ·exact⟨_,Ν (j:=2) rfl,@_,@_⟩
 ·exact⟨_,Ν (j:=3) rfl,@_,@_⟩
 ·exact⟨_,Ν (j:=4) rfl,@_,@_⟩
 ·exact⟨_,Ν (j:=5) rfl,@_,@_⟩
 ·exact⟨_,Ν (j:=6) rfl,@_,@_⟩
 ·exact⟨_,Ν (j:=7) rfl,@_,@_⟩
structure LF(ε:Fr)(γ:List Rw)(cK:Bool):Prop where
 sh:aX ε=true
 n1:1<=γ.length
 BC:γ.length<=12
 n4:cK=true->γ.length<=4
 row:∀r∈γ,Uh cK γ.length r
def Be(cK:Bool)(aV:Int):List Int:=if cK=true then [2*10^(30:Int).toNat+1,10^(6:Int).toNat,1,aV,150000] else [19,4,1,aV,4]
def UQ{aV:Int}(h1:1<=aV)(h2:aV<=12):JQ (Be cK aV):=by
 have W0:aV<=2*10^30+1:=abM h2 @_;cases cK with
 |true=>
  refine⟨rfl,λs hs=>?_⟩;have hs:s∈[2*10^(30:Int).toNat+1,10^(6:Int).toNat,1,aV,150000]:=hs;simp only[List.mem_cons,List.not_mem_nil,or_false]at hs;rcases hs with e| e| e| e| e
  ·rw[e];decide
  ·rw[e];decide
  ·rw[e];decide
  ·rw[e];exact⟨(),W0⟩
  ·rw[e];decide
 |false=>
  refine⟨rfl,λs hs=>?_⟩;have hs:s∈[19,4,1,aV,4]:=hs;simp only[List.mem_cons,List.not_mem_nil,or_false]at hs;rcases hs with e| e| e| e| e
  ·rw[e];decide
  ·rw[e];decide
  ·rw[e];decide
  ·rw[e];exact⟨(),W0⟩
  ·rw[e];decide
def Vh{n:Int}:∃r:Int,lF [Dt.int 30,Dt.int 30,Dt.int 30,Dt.int 30,Dt.int 30,Dt.int 12,Dt.int 24,Dt.int 12] (n%8)=some (.int r)/\1<=r/\r<=30:=by
 have:n%8=0\/n%8=1\/n%8=2\/n%8=3\/n%8=4\/n%8=5\/n%8=6\/n%8=7:=()
 rcases this with e| e| e| e| e| e| e| e <;> rw[e]
 ·exact⟨_,bw,@_,@_⟩
 ·exact⟨_,Ν (j:=1) rfl,@_,@_⟩
 ·exact⟨_,Ν (j:=2) rfl,@_,@_⟩
 ·exact⟨_,Ν (j:=3) rfl,@_,@_⟩
 ·exact⟨_,Ν (j:=4) rfl,@_,@_⟩
 ·exact⟨_,Ν (j:=5) rfl,@_,@_⟩
 ·exact⟨_,Ν (j:=6) rfl,@_,@_⟩
 ·exact⟨_,Ν (j:=7) rfl,@_,@_⟩
def Dk:DF:=λas M q _=>∃ns:List Int,as=[.iA ns]/\ns.length<=63/\∀ε γ cK,LF ε γ cK->q (.tup [Ξ ε,.loc M.length]) (M++[.lst (γ.map az)])
def aM:Ε ["_law_script","_law_begun","_law_how","_law_places","_law_many","_law_share","_law_sizes","_law_rows","_law_room","_law_k","_law_number","_law_kind","_law_count","_law_xs"] ["_law_script"] (ψ oN):=.of rfl
def zw(F:cZ K "_law_floor" "_law_floor" oN f fd)(E:Ev K mg w Cm)(cw:aw P w K mg base 1 "_law_at" ["_law_script","_law_k"] V8 q5 rX)(aC:aw P w K mg base 1 "_law_by_digits" ["_law_number"] IE cL cM){An:Addr}{zf:FuncData}(jI:aw P w K mg base 2 "_law_share_of" ["_law_number","_law_low"] AH An zf){wY:Addr}{wN:FuncData}(iS:aw P w K mg base 2 "_law_pay" ["_law_xs","_law_far"] Kc wY wN){Cz:Addr}{CQ:FuncData}(iq:aw P w K mg base 2 "_law_things" ["_law_number","_law_k","_law_many","_law_sizes"] DD Cz CQ){FF:Addr}{Fh:FuncData}(mC:aw P w K mg base 4 "_law_doors" ["_law_kind","_law_xs","_law_many","_law_far"] Dr FF Fh):av P w K mg base (cC P w) 5 f fd ["_law_script"] (cW K Dk):=by
 refine F.dR aM (λds M q x h=>?_) (λbz A outer s H E' hr=>⟨_,(η (ω 1 aM.nd (aa cw hr ξ (Ρ (jv 0) (ι ο θ da))))
   (η (ω 2 aM.nd (bu (jv 1) ο))
   (η (iN (ω 3 aM.nd (uX (bH (aa aC hr ξ (Ρ (jv 1) θ))) (jN (jv 1) ο) (bu (au (jv 1) ο) ο))))
   (η (ω 4 aM.nd (ck ο (bu (jv 3) (Ζ (dH 3 (d:=.lst [.int 4,.int 4,.int 4,.int 4,.int 4,.int 4,.int 6,.int 12]) (by rfl)) (jv 2)))))
   (η (ω 5 aM.nd (aa jI hr ξ (ι (aa cw hr ξ (Ρ (jv 0) (ι ο θ da))) (ι (Ζ (dH 3 (d:=.lst [.int 10,.int 10,.int 10,.int 10,.int 1,.int 1000,.int 10,.int 10]) (by rfl)) (jv 2)) θ aZ) aY)))
   (η (ω 6 aM.nd (Ζ (lQ (ι (lQ (ι ο (ι ο (ι ο (Ρ (jv 4) (ι ο θ da)) da) da) da)) (ι (lQ (ι (ck (au ο (jf ο ο)) ο) (ι (jf ο ο) (ι ο (Ρ (jv 4) (ι ο θ da)) da) bL) bL)) θ))) (OI E.vN (ι (LQ hr (jv 2) ο) θ DY))))
   (η (ω 7 aM.nd (j3 θ))
   (η (ω 8 aM.nd (Ζ (dH 3 (d:=.lst [.int 30,.int 30,.int 30,.int 30,.int 30,.int 12,.int 24,.int 12]) (by rfl)) (jv 2)))
   (η (gf (bY E.bM (Ρ (jv 4) θ)) (ai (i:=9) aM.nd rfl (Or.inl rfl)) aI (η (ω 10 aM.nd (aa cw hr ξ (Ρ (jv 0) (ι (ck ο (jv 9)) θ bL))))
   (η (ω 11 aM.nd (Ζ (dH 3 (d:=.lst [.str "one",.str "other",.str "chance",.str "end",.str "one",.str "other",.str "chance",.str "chance"]) (by rfl)) (bu (jv 10) ο)))
   (η (iN (ω 12 aM.nd (ck ο (bu (uX (bH (aa aC hr ξ (Ρ (jv 10) θ))) (jN (jv 10) ο) (bu (au (jv 10) ο) ο)) ο))))
   (η (iN (ax (JW.jt (gw (cQ hr (jv 11) ia) (gR (cQ hr (jv 11) ia)))) (η (ω 12 aM.nd (Se E.EK (Ρ (jv 12) (Ρ (jv 8) θ))))
   (μ (ω 8 aM.nd (jN (jv 8) (jv 12))))) Ο))
   (μ (ax (cQ hr (jv 11) ia) (μ (eT (eY (jv 7) (ι (eI (Ρ (jv 11) (ι (aa iS hr ξ (ι (cU (aa iq hr ξ (Ρ (jv 10) (Ρ (jv 9) (ι ο (Ρ (jv 6) θ) da))))) (ι (LQ hr (jv 2) ο) θ DY) aY)) θ aY))) θ Ek)))) (η (ω 13 aM.nd (cU (aa iq hr ξ (Ρ (jv 10) (Ρ (jv 9) (ι (au ο (jv 12)) (Ρ (jv 6) θ) bL))))))
   (μ (eT (eY (jv 7) (ι (eI (Ρ (jv 11) (ι (cU (aa mC hr ξ (Ρ (jv 11) (Ρ (jv 13) (Ρ (jv 4) (ι (LQ hr (jv 2) ο) θ DY)))))) θ aY))) θ Ek))))))))))))
   (μ (Γ (eI (Ρ (jv 5) (Ρ (jv 7) θ)))))))))))))),λds M q x h=>?_⟩)
 ·have⟨ns,rfl,_⟩:=h;rfl
 ·have⟨ns,rfl,nl,h⟩:=h;refine⟨ns,0,rfl,nl,@_,@_,fun b0 ⟨Li,_⟩=>⟨@_,?_⟩⟩;refine⟨λρ M'=>M'=M/\∃t:Int,ρ=[some (.iA ns),some (.int b0),some (.int (b0%8)),some (.int t),none,none,none,none,none,none,none,none,none,none],?_,?_⟩
  ·refine⟨b0,rfl,λb=>⟨λ_=>?_,λ_=>?_⟩⟩
   ·exact⟨⟨@_,bg (k:=10) @_⟩,rfl,_,rfl⟩
   ·exact⟨⟨mL Li,bg (k:=20) @_⟩,@_,rfl,_,rfl⟩
  rintro ρ M' ⟨rfl,t,rfl⟩;have⟨mx,emx,mx1,afD,mx5⟩:=Ug (n:=b0);have⟨low,Zq,Wt,WQ⟩:=Xy (n:=b0);have t0:=aa4 t (show mx≠0 by omega);have t1:=aa1 t (show 0<mx by omega);walk_at "vc";refine(Θ rfl emx ?_:cE (.lst [Dt.int 4,Dt.int 4,Dt.int 4,Dt.int 4,Dt.int 4,Dt.int 4,Dt.int 6,Dt.int 12]) (.int (b0%8)) _ _);refine⟨(),?_⟩;dsimp only[qx];obtain⟨sz,hz,z1,z12,z4⟩:∃sz:Nat,1+t%mx=(sz:Int)/\1<=sz/\sz<=12/\(b0%8=5->sz<=4):=⟨(1+t%mx).toNat,(),(),(),λz=>by have:=mx5 z;omega⟩;rw[hz];refine⟨ns,1,rfl,nl,@_,@_,λb1 xz=>?_⟩;have⟨hb1,_⟩:=xz;refine(Θ rfl Zq ?_:cE (.lst [Dt.int 10,Dt.int 10,Dt.int 10,Dt.int 10,Dt.int 1,Dt.int 1000,Dt.int 10,Dt.int 10]) (.int (b0%8)) _ _);refine⟨b1,low,rfl,hb1,Wt,WQ,λε hs=>?_⟩;obtain⟨cK,Ng⟩:∃cK,cK=decide (b0%8=5):=⟨_,rfl⟩;have WE:dQ ((10:Int)^(30:Int).toNat):=bg (k:=110) @_;have sl:∀{z:Nat},z<=1000->z<=sizeLine:=λh=>aaE h @_;refine⟨sl @_,ZV,⟨bg (k:=4) @_,WE⟩,p6,sl @_,sl @_,?_⟩;have rd:∀(M':Ms) (q:DQ),q (A3 (Be cK sz)) M'->BB (.int (b0%8)) (.int 5) M' λd M1=>zC [d] M1 λd2 M2=>cE (.lst [.lst [.int 19,.int 4,.int 1,.int (sz:Int),.int 4],.lst [.int (2*10^(30:Int).toNat+1),.int (10^(6:Int).toNat),.int 1,.int (sz:Int),.int 150000]]) d2 M2 q:=λM' q hq=>by
   show zC [.bl (decide (b0%8=5))] M' λd2 M2=>cE (.lst [A3 (Be false sz),A3 (Be true sz)]) d2 M2 q;rw[<-Ng];dsimp only[zC];cases cK with
   |true=>exact Θ (d:=.lst [A3 (Be false sz),A3 (Be true sz)]) rfl (Ν (j:=1) rfl) hq
   |false=>exact Θ (d:=.lst [A3 (Be false sz),A3 (Be true sz)]) rfl bw hq
  refine rd _ _ ?_;have n4:cK=true->sz<=4:=λz=>z4 (aaz (by rw[<-Ng];exact z));have⟨rm0,erm,rm1,rm2⟩:=Vh (n:=b0);refine⟨@_,?_⟩;refine(Θ rfl erm ?_:cE (.lst [Dt.int 30,Dt.int 30,Dt.int 30,Dt.int 30,Dt.int 30,Dt.int 12,Dt.int 24,Dt.int 12]) (.int (b0%8)) _ _);refine⟨⟨(),()⟩,?_⟩;rw[show((sz:Int)).toNat=sz by omega];refine cz (λzs ρ M2=>∃(n k:Nat) (rs:List Rw) (rm:Int) (o1 o2 o3 o4 o5:Option Dt),(1<=rm/\rm<=30)/\zs=dN k n/\k+n=sz/\rs.length=k/\(∀r∈rs,Uh cK sz r)/\M2=M'++[MO.lst (rs.map az)]/\ρ=[some (.iA ns),some (.int b0),some (.int (b0%8)),some (.int t),some (.int (sz:Int)),some (Ξ ε),some (A3 (Be cK sz)),some (.loc M'.length),some (.int rm),o1,o2,o3,o4,o5]) (λx zs ρ M2 hj e9=>?_) (λρ M2 hj=>?_) _ _ _ ⟨sz,0,[],rm0,none,none,none,none,none,⟨rm1,rm2⟩,by simp,by simp,rfl,λ_ z=>(nomatch z),rfl,rfl⟩
  ·have⟨n,k,rs,rm,o1,o2,o3,o4,o5,⟨rl,rh⟩,ex,Yk,hl,hd,rfl,rfl⟩:=hj;have⟨m,rfl,rfl,rfl⟩:=bV ex;have k12:(k:Int)<12:=()
   have RR:(M'++[MO.lst (rs.map az)])[M'.length]? =some (.lst (rs.map az)):=by simp
   have setM:∀y:Rw,(M'++[MO.lst (rs.map az)]).set M'.length (.lst (rs.map az++[az y]))=M'++[.lst ((rs++[y]).map az)]:=λy=>by simp
   have lt:(rs.map az).length<sizeLine:=by rw[aac,hl];exact aaX (show k<=12 by omega) @_
   have first:∃k' xs',Dt.loc M'.length= .loc k'/\(M'++[MO.lst (rs.map az)])[k']? =some (.lst xs'):=⟨_,_,rfl,RR⟩
   have more:∀y,Uh cK sz y->∀r∈rs++[y],Uh cK sz r:=λy hy r hr=>by
    rcases aaV.mp hr with hr| hr
    ·exact hd r hr
    ·rw[aa2.mp hr];exact hy
   have so:=UQ (cK:=cK) (aV:=(sz:Int)) () ();refine⟨ns,2+(k:Int),rfl,nl,(),(),fun f ⟨hf,_⟩=>⟨@_,?_⟩⟩;have⟨kd,ek,Qe⟩:=O7 (n:=f);refine Θ rfl ek ?_;refine⟨λρ M2=>M2=M'++[MO.lst (rs.map az)]/\∃c:Nat,(1<=c/\c<=6)/\ρ=[some (.iA ns),some (.int b0),some (.int (b0%8)),some (.int t),some (.int (sz:Int)),some (Ξ ε),some (A3 (Be cK sz)),some (.loc M'.length),some (.int rm),some (.int (k:Int)),some (.int f),some (.str kd),some (.int (c:Int)),o5],?_,?_⟩
   ·have cut:∀t:Int,∃c:Nat,(1<=c/\c<=6)/\1+t%6=(c:Int):=λt=>⟨(1+t%6).toNat,(),()⟩;have UH:∀(t:Int) (ρ:List (Option Dt)),(∃c:Nat,(1<=c/\c<=6)/\ρ++[some (.int (1+t%6)),o5]=ρ++[some (.int (c:Int)),o5]):=λt ρ=>by have⟨c,h1,h2⟩:=cut t;exact⟨c,h1,by rw[h2]⟩
    refine⟨f,rfl,λb=>⟨λ_=>?_,λ_=>?_⟩⟩
    ·exact⟨⟨@_,bg (k:=10) @_⟩,@_,rfl,UH (f/8) [some (.iA ns),some (.int b0),some (.int (b0%8)),some (.int t),some (.int (sz:Int)),some (Ξ ε),some (A3 (Be cK sz)),some (.loc M'.length),some (.int rm),some (.int (k:Int)),some (.int f),some (.str kd)]⟩
    ·exact⟨⟨mL hf,bg (k:=20) @_⟩,@_,@_,rfl,UH (f*48271%65537) [some (.iA ns),some (.int b0),some (.int (b0%8)),some (.int t),some (.int (sz:Int)),some (Ξ ε),some (A3 (Be cK sz)),some (.loc M'.length),some (.int rm),some (.int (k:Int)),some (.int f),some (.str kd)]⟩
   rintro ρ2 M2 ⟨rfl,c0,⟨c01,c06⟩,rfl⟩;refine⟨λρ M2=>M2=M'++[MO.lst (rs.map az)]/\∃(c:Nat) (rm:Int),(1<=c/\c<=6)/\(1<=rm/\rm<=30)/\ρ=[some (.iA ns),some (.int b0),some (.int (b0%8)),some (.int t),some (.int (sz:Int)),some (Ξ ε),some (A3 (Be cK sz)),some (.loc M'.length),some (.int rm),some (.int (k:Int)),some (.int f),some (.str kd),some (.int (c:Int)),o5],?_,?_⟩
   ·have yes:∃(c:Nat) (r':Int),(1<=c/\c<=6)/\(1<=r'/\r'<=30)/\(if rm<(c0:Int) then rm else (c0:Int))=(c:Int)/\rm/(if rm<(c0:Int) then rm else (c0:Int))=r':=by
     by_cases y:rm<(c0:Int)
     ·rw[aax y];exact⟨rm.toNat,1,(),@_,(),Int.ediv_self ()⟩
     ·rw[aaw y];have a1:1<=rm/(c0:Int):=(Int.le_ediv_iff_mul_le ()).mpr ();have a2:rm/(c0:Int)<=rm:=aci _ ();exact⟨c0,_,(),⟨a1,()⟩,rfl,rfl⟩
    have⟨c',r',C2,fV,ec,er⟩:=yes;rw[ec]at er;walk_at "vc";refine⟨λz=>⟨λ_=>?_,λy=>(nomatch y)⟩,λz=>⟨λz'=>?_,λz'=>?_⟩⟩
    ·dsimp only[Ku];rw[ec];refine⟨⟨(),bg (k:=4) ()⟩,rfl,c',r',C2,fV,?_⟩;rw[<-er]
    ·dsimp only[Ku];rw[ec];refine⟨⟨(),bg (k:=4) ()⟩,rfl,c',r',C2,fV,?_⟩;rw[<-er]
    ·exact⟨rfl,c0,rm,⟨c01,c06⟩,⟨rl,rh⟩,rfl⟩
   rintro ρ2 M2 ⟨rfl,c,rm,⟨c1,c6⟩,⟨rl,rh⟩,rfl⟩;refine⟨λz=>?_,λz=>?_⟩
   ·have z:kd="end":=aaz z;refine⟨first,f,(k:Int),3,Be cK sz,rfl,hf,(),(),@_,so,λxs xl hx=>cY (gC _) ?_⟩;refine⟨xs,decide (b0%8=5),rfl,(),hx,λp pp=>⟨gV,M'.length,_,_,rfl,rfl,RR,lt,?_⟩⟩;rw[<-Ng]at pp;have e:Dt.tup [.str kd,Ξ p]=az (.fin p):=by rw[z];rfl
    rw[e,setM (.fin p)];exact e9 _ _ ⟨m,k+1,rs++[Rw.fin p],_,_,_,_,_,_,⟨rl,rh⟩,by simp,(),by simp[hl],more (.fin p) ⟨⟨⟨pp.red.pos,pp.fit⟩,λ_ _ e=>nomatch e⟩,λ_ e=>by cases e;exact pp,λ_ _ e=>nomatch e⟩,rfl,rfl⟩
   ·have z:kd≠"end":=abf z;have Qe:Β kd=true\/kd="chance":=by
     rcases Qe with hk| hk| hk
     ·exact .inl hk
     ·exact .inr hk
     ·exact aaL hk z
    refine⟨⟨bg (k:=10) @_,bg (k:=10) ()⟩,f,(k:Int),5*c,Be cK sz,by rw[Int.natCast_mul];rfl,hf,(),(),(),so,λxs xl hx=>cY (gC _) ?_⟩;refine⟨first,kd,xs,sz,decide (b0%8=5),c,rfl,xl,c1,c6,hx,(),(),Qe,λds dl hds=>cY (iB ds) ?_⟩;rw[<-Ng]at hds;refine⟨gV,M'.length,_,_,rfl,rfl,RR,lt,?_⟩;exact e9 _ _ ⟨m,k+1,rs++[Rw.τ kd ds],_,_,_,_,_,_,⟨rl,rh⟩,by simp,(),by simp[hl],more (.τ kd ds) hds,setM (.τ kd ds),rfl⟩
  ·have⟨n,k,rs,rm,o1,o2,o3,o4,o5,⟨rl,rh⟩,ex,Yk,hl,hd,rfl,rfl⟩:=hj;have hn:n=0:=by have:=aa0 List.length ex;unfold dN at this;simpa using this.symm
   have e:rs.length=sz:=()
   exact⟨gV,h ε rs cK ⟨hs,(),(),λz=>by have:=n4 z;omega,by rw[e];exact hd⟩⟩
def Jq:DF:=λas M q _=>∃γ:List Rw,as=[.lst (γ.map az)]/\γ.length<=12/\(∀r∈γ,gu r)/\q (.lst (γ.map az)) M
def vz:Ε ["_law_rows"] ["_law_rows"] (ψ rV):=.of rfl
def B6(F:cZ K "_law_copy" "_law_copy" rV f fd)(E:Ev K mg w Cm):av P w K mg base (cC P w) 1 f fd ["_law_rows"] (cW K Jq):=by
 refine F.dR vz (λds M q x h=>?_) (λbz A outer s H E' hr=>⟨_,(μ (Γ (Dj (ys:=[]) (af:=[]) (.of vz rfl rfl rfl) (bC (jv 0)) (λC s H fp=>(eI (Ρ (jv 0) (ι (uX (cQ hr (jv 0) ia) (jv 1) (cU (wW E.kO (Ρ (jv 1) θ)))) θ))))))),λds M q x h=>?_⟩)
 ·have⟨γ,rfl,_⟩:=h;rfl
 ·have⟨γ,rfl,qj,ro,h⟩:=h;walk_at "vc";dsimp only[CK,fc];walk_at "vc";refine⟨by rw[aac];exact aaE (show _<=12 by omega) @_,?_⟩;refine pF trivial (λx=>x) _ _ (λx hx qq hq=>?_) ?_
  ·have⟨r,fV,rfl⟩:=aaj.mp hx;have rr:=ro r fV;cases r with
   |fin p=>
    refine⟨λ_=>?_,λz=>(nomatch z)⟩;exact⟨gV,hq⟩
   |τ k ds=>
    refine⟨λz=>aaL (aaz z) rr.1,λ_=>?_⟩;refine Mp (iB ds) ?_;exact⟨gV,hq⟩
  ·rw[aaW,List.map_id'];exact h
def xF(cK:Bool):Int:=if cK=true then 10^36 else 12
def cF(cK:Bool):Int:=if cK=true then 10^30 else 9
def pN{m:Nat}(hb:1<=b)(hmn:m<=n):b^m<=b^n:=by have⟨c,rfl⟩:=Nat.exists_eq_add_of_le hmn;rw[Int.pow_add];have p:0<b^c:=Int.pow_pos ();have q:0<=b^m:=abY ();have:=aaC (show 1<=b^c by omega) q;omega
def rB{p:Fr}(h:bx p=true)(p0:0<p.2):eJ p (10^30)/\p.2<=1000000:=by
 unfold bx at h;rw[aav,aap,aap]at h;have h1:=h.1;have:10^30<=p.2*10^30:=by have:=aaO (show 1<=p.2 by omega) (show(0:Int)<=10^30 by decide);omega
 unfold eJ;split at h1 <;> exact⟨⟨(),()⟩,h.2⟩
def v9.nr{p:Fr}{E:Int}(h:v9 cK p)(he:p.2∣E):Nr E (cF cK) p:=by
 refine⟨h.red,Aj he,?_⟩;cases cK with
 |true=>exact(rB h.fit h.red.pos).1
 |false=>exact(h.near rfl).2
def LF.fw(lf:LF ε γ cK):FW ε γ (xF cK) (cF cK):=by
 refine⟨⟨lf.sh,lf.BC,λr hr=>(lf.row r hr).1.1⟩,lf.n1,λk ds hm hk=>(lf.row _ hm).1.2 k ds rfl hk,λk ds hm=>?_,λp hm=>?_,?_,?_,?_⟩
 ·have pp:=(lf.row _ hm).2.2 k ds rfl;cases cK with
  |true=>
   have l6:ds.length<=6:=(dD (ε:=ε) (γ:=γ) ⟨lf.sh,lf.BC,λr hr=>(lf.row r hr).1.1⟩ hm).l6;have all:∀a∈ds.map (·.2.1.2),0<a/\a<=1000000:=λa ha=>by have⟨d,hd,rfl⟩:=aaj.mp ha;exact⟨(pp d hd).red.pos,(rB (pp d hd).fit (pp d hd).red.pos).2⟩
   refine⟨p8 (ds.map (·.2.1.2)),ue λa ha=>(all a ha).1,?_,λd hd=>(pp d hd).nr (ze (aaj.mpr ⟨d,hd,rfl⟩))⟩;have:=D6 all;rw[aac]at this;refine abM this ?_;exact abM (pN @_ l6) @_
  |false=>exact⟨12,@_,@_,λd hd=>(pp d hd).nr ((pp d hd).near rfl).1⟩
 ·have pp:=(lf.row _ hm).2.1 p rfl;cases cK with
  |true=>exact⟨p.2,pp.red.pos,abM (rB pp.fit pp.red.pos).2 @_,pp.nr (Int.dvd_refl _)⟩
  |false=>exact⟨12,@_,@_,pp.nr (pp.near rfl).1⟩
 ·cases cK <;> decide
 ·cases cK <;> decide
 ·cases cK <;> decide
def LF.sz(lf:LF ε γ cK):nq (xF cK) (cF cK)<=2^450/\(12*nq (xF cK) (cF cK))^γ.length<2^1030:=by
 cases cK with
 |true=>exact⟨@_,aaN (pN @_ (lf.n4 rfl)) @_⟩
 |false=>exact⟨@_,aaN (pN @_ lf.BC) @_⟩
structure Rx(γ:List Rw)(hand:Str)(p:Pl):Prop where
 nd:qc p
 len:p.length<=12
 has:∀(i:Nat) (r:Rw),γ[i]? =some r->kindOf r=hand->∃j:Nat,Ι p i=some (j:Int)/\j<(Τ r).length
 only:∀(i v:Int),Ι p i=some v->∃(j:Nat) (r:Rw),i=(j:Int)/\γ[j]? =some r/\kindOf r=hand
structure md(γ:List Rw)(hand:Str)(n:Nat)(p:Pl):Prop where
 nd:qc p
 len:p.length<=n
 has:∀(i:Nat) (r:Rw),i<n->γ[i]? =some r->kindOf r=hand->∃j:Nat,Ι p i=some (j:Int)/\j<(Τ r).length
 only:∀(i v:Int),Ι p i=some v->∃(j:Nat) (r:Rw),i=(j:Int)/\γ[j]? =some r/\kindOf r=hand
def xB{i v:Int}(h:p.length<=n):(e_ p i v).length<=n+1:=by
 unfold e_;split
 ·rw[aac];omega
 ·rw[aah];exact Nat.succ_le_succ h
def md.put(h:md γ hand n p)(hi:γ[n]? =some r)(hk:kindOf r=hand)(hj:j<(Τ r).length):md γ hand (n+1) (e_ p n (j:Int)):=by
 refine⟨Dd h.nd,xB h.len,λi r' il qE qv=>?_,λi v hg=>?_⟩
 ·rw[k7];by_cases e:i=n
  ·subst e;rw[hi]at qE;cases qE;exact⟨j,by rw[aax rfl],hj⟩
  ·rw[aaw ()];exact h.has i r' () qE qv
 ·rw[k7]at hg;split at hg
  ·rename_i e;exact⟨n,r,e,hi,hk⟩
  ·exact h.only i v hg
def md.skip(h:md γ hand n p)(hi:γ[n]? =some r)(hk:kindOf r≠hand):md γ hand (n+1) p:=by
 refine⟨h.nd,Nat.le_succ_of_le h.len,λi r' il qE qv=>?_,h.only⟩;by_cases e:i=n
 ·subst e;rw[hi]at qE;cases qE;exact aaL qv hk
 ·exact h.has i r' () qE qv
def iu{q:DQ}(h:q (.str (kindOf r)) M):cE (az r) (.int 0) M q:=by have⟨e,er⟩:=Ck (r:=r);rw[er];exact Θ (xs:=[.str (kindOf r),e]) rfl bw h
def pb(hi:γ[i]? =some r){q:DQ}(h:q (az r) M):cE (.lst (γ.map az)) (.int (i:Int)) M q:=Θ (xs:=γ.map az) rfl (Ν (nH hi)) h
def IH:DF:=λas M q _=>∃(ns:List Int) (γ:List Rw) (hand:Str) (at':Int),as=[.iA ns,.lst (γ.map az),.str hand,.int at']/\ns.length<=63/\0<=at'/\at'<=100/\γ.length<=12/\Β hand=true/\(∀k ds,Rw.τ k ds∈γ->1<=ds.length/\ds.length<=6)/\∀p,Rx γ hand p->q (.loc M.length) (M++[dP p])
def eF:Ε ["_law_script","_law_rows","_law_hand","_law_at_here","_law_plan_here","_law_number","_law_digits","_law_xs","_law_k","_law_count"] ["_law_script","_law_rows","_law_hand","_law_at_here"] (ψ r8):=.of rfl
def Cg(F:cZ K "_law_plan" "_law_plan" r8 f fd)(E:Ev K mg w Cm)(cw:aw P w K mg base 1 "_law_at" ["_law_script","_law_k"] V8 q5 rX)(aC:aw P w K mg base 1 "_law_by_digits" ["_law_number"] IE cL cM){mZ:Addr}{lU:FuncData}(eN:aw P w K mg base 1 "_law_stream" ["_law_number","_law_many"] yj mZ lU):av P w K mg base (cC P w) 2 f fd ["_law_script","_law_rows","_law_hand","_law_at_here"] (cW K IH):=by
 refine F.dR eF (λds M q x h=>?_) (λbz A outer s H E' hr=>⟨_,(η (ω 4 eF.nd xH)
   (η (ω 5 eF.nd (aa cw hr ξ (Ρ (jv 0) (Ρ (jv 3) θ))))
   (η (ω 6 eF.nd (aa aC hr ξ (Ρ (jv 5) θ)))
   (η (ω 7 eF.nd (cU (aa eN hr ξ (Ρ (jv 5) (ι (bP E.br (Ρ (jv 1) θ)) θ aY)))))
   (η (gf (bY E.bM (ι (bP E.br (Ρ (jv 1) θ)) θ aY)) (ai (i:=8) eF.nd rfl (Or.inl rfl)) aI (μ (ax (cQ hr (Ζ (Ζ (jv 1) (jv 8)) ο) (jv 2)) (η (ω 9 eF.nd (bP E.br (ι (Ζ (Ζ (jv 1) (jv 8)) ο) θ aZ)))
   (η (iN (jD hr (jv 4) (jv 8) (bu (uX (bH (jv 6)) (jv 5) (Ζ (jv 7) (jv 8))) (jv 9))))
   (μ (ω 5 eF.nd (jN (jv 5) (jv 9)))))) Ο)))
   (μ (Γ (jv 4)))))))),λds M q x h=>?_⟩)
 ·have⟨ns,γ,hand,at',rfl,_⟩:=h;rfl
 ·have⟨ns,γ,hand,at',rfl,nl,a0,a1,qj,hh,hdr,h⟩:=h;refine⟨ns,at',rfl,nl,a0,(),fun n0 ⟨Wg,_⟩=>⟨n0,rfl,λdg=>?_⟩⟩;walk_at "vc";refine(ar (d:=.lst (γ.map az)) (xs:=γ.map az) rfl ?_:fB [.lst (γ.map az)] _ _);rw[aac];refine⟨n0,γ.length,rfl,mL Wg,(),λxs xl hx=>cY (gC _) ?_⟩;refine(ar (d:=.lst (γ.map az)) (xs:=γ.map az) rfl ?_:fB [.lst (γ.map az)] _ _);rw[aac];refine⟨(),?_⟩;rw[show((γ.length:Int)).toNat=γ.length by omega];refine cz (λzs ρ' M'=>∃(i m:Nat) (p:Pl) (n:Int) (o8 o9:Option Dt),zs=dN (i:Int) m/\i+m=γ.length/\md γ hand i p/\Nm n/\M'=M++[dP p]/\ρ'=[some (.iA ns),some (.lst (γ.map az)),some (.str hand),some (.int at'),some (.loc M.length),some (.int n),some (.bl dg),some (.lst (xs.map Dt.int)),o8,o9]) (λx zs ρ' M' hj e9=>?_) (λρ' M' hj=>?_) _ _ _ ⟨0,γ.length,[],n0,none,none,rfl,(),⟨List.nodup_nil,aan _,λi r il=>aaL il (abL _),λi v hg=>(nomatch hg)⟩,Wg,rfl,rfl⟩
  ·have⟨i,m,p,n,o8,o9,ex,im,pt,hn,rfl,rfl⟩:=hj;have⟨m',rfl,rfl,rfl⟩:=bV ex;have il:i<γ.length:=()
   have hi:γ[i]? =some γ[i]:=aaa il;generalize hr0:γ[i]=r at *
   have rm:r∈γ:=aag hi;walk_at "vc";refine pb hi (iu ?_);refine⟨λz=>?_,λz=>?_⟩
   ·have z:kindOf r=hand:=aaz z;cases r with
    |fin p=>exact aaL (z▸hh) (by show¬Β (Str.ofString "end")=true;decide)
    |τ k ds=>
     have⟨d1,d6⟩:=hdr k ds rm;refine pb hi (zk ?_);refine(ar (d:=.lst (ds.map eG)) (xs:=ds.map eG) rfl ?_:fB [.lst (ds.map eG)] _ _);rw[aac];have d0:(0:Int)<ds.length:=()
     have put:∀v:Int,∃j:Nat,v%(ds.length:Int)=(j:Int)/\j<ds.length:=λv=>by have v0:=aa4 v (show(ds.length:Int)≠0 by omega);have v1:=aa1 v d0;exact⟨(v%(ds.length:Int)).toNat,(),()⟩
     have fin:∀v:Int,∃k ks oa key,Dt.loc M.length= .loc k/\(M++[dP p])[k]? =some (.bX ks oa)/\rG (.int (i:Int))=some key/\ks.length<1000/\(∃j:Nat,j<ds.length/\(M++[dP p]).set k (.bX (eV ks key) (dM ks key oa (.int (v%(ds.length:Int)))))=M++[dP (e_ p i (j:Int))]):=λv=>by have⟨j,e,jl⟩:=put v;refine⟨M.length,_,_,Sum.inl (i:Int),rfl,aE,rfl,by unfold kP;rw[List.length_map];have:=pt.len;omega,j,jl,?_⟩;rw[e,p9 (v:=(j:Int)),rM,de]
     refine⟨λρ M2=>∃j:Nat,j<ds.length/\M2=M++[dP (e_ p i (j:Int))]/\ρ=[some (.iA ns),some (.lst (γ.map az)),some (.str hand),some (.int at'),some (.loc M.length),some (.int n),some (.bl dg),some (.lst (xs.map Dt.int)),some (.int (i:Int)),some (.int (ds.length:Int))],⟨λ_=>?_,λ_=>?_⟩,?_⟩
     ·refine⟨d0,?_⟩;have⟨k',ks,oa,key,f1,f2,f3,f4,j,jl,f5⟩:=fin n;exact⟨k',ks,oa,key,f1,f2,f3,f4,j,jl,f5,rfl⟩
     ·have kx:i<xs.length:=()
      walk_at "vc";refine(Θ (d:=.lst (xs.map Dt.int)) rfl (gm kx) ?_:cE (.lst (xs.map Dt.int)) (.int (i:Int)) _ _);refine⟨d0,?_⟩;have⟨k',ks,oa,key,f1,f2,f3,f4,j,jl,f5⟩:=fin xs[i];exact⟨k',ks,oa,key,f1,f2,f3,f4,j,jl,f5,rfl⟩
     ·rintro ρ2 M2 ⟨j,jl,rfl,rfl⟩;refine⟨⟨d0,bg (k:=10) ()⟩,?_⟩;exact e9 _ _ ⟨i+1,m',_,_,_,_,by rw[abN];rfl,(),pt.put hi z jl,Cy hn d0,rfl,rfl⟩
   ·have z:kindOf r≠hand:=abf z;exact e9 _ _ ⟨i+1,m',p,n,_,_,by rw[abN];rfl,(),pt.skip hi z,hn,rfl,rfl⟩
  ·have⟨i,m,p,n,o8,o9,ex,im,pt,hn,rfl,rfl⟩:=hj;have m0:m=0:=by have:=aa0 List.length ex;rw[fU]at this;exact this.symm
   have e:i=γ.length:=()
   subst e;exact h p ⟨pt.nd,aaE pt.len qj,λi r hi hk=>pt.has i r (aaf.mp hi).1 hi hk,pt.only⟩
def Mw(i:Int):qo (V.int i) (V.int i)=true:=by unfold qo;simp
def AZ{l:List Nat}{f:Nat->Bool}(h:∀j,f j=true):l.all f=true:=abw.mpr λj _=>h j
def Ma(i:Int):xp M n (.int i) (.int i) true:=by have:=xp.flat (M:=M) (n:=n) (d:=.int i) (e:=.int i) rfl rfl;rwa[Mw]at this
def MV{ds:List Dt}(h:∀d∈ds,xp M n d d true):xp M (n+1) (.tup ds) (.tup ds) true:=by
 have:=xp.tup (M:=M) (n:=n) (ds:=ds) (es:=ds) (f:=λ_=>true) λj d e h1 h2=>by rw[h1]at h2;cases h2;exact h d (aag h1)
 rwa[AZ λ_=>rfl,beq_self_eq_true]at this
def L8{d e:Dt}{ds:List Dt}(h1:lX M d=some ds)(h2:lX M e=some ds)(h:∀d∈ds,xp M n d d true):xp M (n+1) d e true:=by
 have:=xp.lst (M:=M) (n:=n) (d:=d) (e:=e) (f:=λ_=>true) h1 h2 rfl λj d e h1 h2=>by rw[h1]at h2;cases h2;exact h d (aag h1)
 rwa[AZ λ_=>rfl]at this
def PU(p:Fr):xp M (n+1) (Ξ p) (Ξ p) true:=MV λd hd=>by have hd:d∈[Dt.int p.1,Dt.int p.2]:=hd;simp only[List.mem_cons,List.not_mem_nil,or_false]at hd;rcases hd with rfl| rfl <;> exact Ma _
def DN{d e:Dt}(h1:lX M d=some (tb.map Ξ))(h2:lX M e=some (tb.map Ξ)):xp M (n+2) d e true:=L8 h1 h2 λd hd=>by have⟨p,_,rfl⟩:=aaj.mp hd;exact PU p
def NN{p:Fr}{k:Bool->Ms->Prop}(h:k false M):MX (Ξ p) (Ξ p) M (λd M1=>match d with| .bl b=>k b M1| _=>False):=by show k (!nJ [.int p.1,.int p.2] [.int p.1,.int p.2]) M;rw[Ur,aaD rfl];exact h
def Ay{k:Nat}(h:M[k]? =some (MO.lst xs)):qm M (.loc k)=some (xs,λM'=>M'[k]? =some (MO.lst xs)):=by show(match M[k]? with| some (MO.lst xs)=>some (xs,λM':Ms=>M'[k]? =some (MO.lst xs))| _=>none)=_;rw[h]
def xI:DF:=λas M q _=>∃i:Int,as=[.int i]/\q (.bl true) M
def BY:Ε ["_law_number"] ["_law_number"] (ψ pw):=.of rfl
def Ac(F:cZ K "_law_whole" "_law_whole" pw f fd)(E:Ev K mg w Cm):av P w K mg base (cC P w) 1 f fd ["_law_number"] (cW K xI):=by
 refine F.dR BY (λds M q x h=>?_) (λbz A outer s H E' hr=>⟨_,(μ (Γ (gc (pj K E.bq (Ρ (jv 0) (Ρ (Cc E.vN vV) θ))) (kG (Rf (pj K E.bq (Ρ (jv 0) (Ρ (Cc E.xU Bt) θ)))))))),λds M q x h=>?_⟩)
 ·have⟨i,rfl,_⟩:=h;rfl
 ·have⟨i,rfl,h⟩:=h;refine⟨_,_,_,_,true,rfl,rfl,rfl,pv,λ_=>?_,λz=>(nomatch z)⟩;exact⟨_,_,_,_,false,rfl,rfl,rfl,E.ib,h⟩
structure UA(M:Ms)(d:Dt)(tb:List Fr)(ok:Ms->Prop):Prop where
 kind:Dw M d=some (.type "list")
 seq:f_ M d=some (tb.map Ξ)
 it:qm M d=some (tb.map Ξ,ok)
 ok:ok M
def J3{kt:Nat}(h:M[kt]? =some (.lst (tb.map Ξ))):UA M (.loc kt) tb (λM'=>M'[kt]? =some (MO.lst (tb.map Ξ))):=⟨GI (ir h),kM h,Ay h,h⟩
def ID:DF:=λas M q _=>∃(d:Dt) (tb:List Fr) (n:Nat) (ok:Ms->Prop),as=[d,.int (n:Nat)]/\UA M d tb ok/\C6 tb n/\q (.bl true) M
def si:Ε ["_law_table_here","_law_many","_law_one"] ["_law_table_here","_law_many"] (ψ pD):=.of rfl
def zI(F:cZ K "_law_table" "_law_table" pD f fd)(E:Ev K mg w Cm){pd:Addr}{oo:FuncData}(dq:aw P w K mg base 1 "_law_whole" ["_law_number"] xI pd oo)(aW:aw P w K mg base 1 "_law_lowest" ["_law_top","_law_bottom"] I_ ef eA):av P w K mg base (cC P w) 2 f fd ["_law_table_here","_law_many"] (cW K ID):=by
 refine F.dR si (λds M q x h=>?_) (λbz A outer s H E' hr=>⟨_,(η (ax (JW.jt (gw (eU (bH (pj K E.bq (Ρ (jv 0) (Ρ (Cc E.kO qX) θ))))) (gR (lJ hr (bP E.br (Ρ (jv 0) θ)) (jv 1))))) (μ (Γ BF)) Ο)
   (η (c8 (bC (jv 0)) (ai (i:=2) si.nd rfl (Or.inl rfl)) aI (η (ax (JW.jt (gw (eU (bH (pj K E.bq (Ρ (jv 2) (Ρ (Cc E.lh jZ) θ))))) (gw (lJ hr (bP E.br (Ρ (jv 2) θ)) ο) (gw (eU (bH (aa dq hr ξ (ι (Ζ (jv 2) ο) θ aZ)))) (gR (eU (bH (aa dq hr ξ (ι (Ζ (jv 2) ο) θ aZ))))))))) (μ (Γ BF)) Ο)
   (μ (ax (JW.jt (gw (tq (Ζ (jv 2) ο) ο) (gR (lJ hr (aa aW hr ξ (ι (Ζ (jv 2) ο) (ι (Ζ (jv 2) ο) θ aZ) aZ)) (jv 2))))) (μ (Γ BF)) Ο))))
   (μ (Γ BF)))),λds M q x h=>?_⟩)
 ·have⟨d,tb,n,ok,rfl,_⟩:=h;rfl
 ·have⟨d,tb,n,ok,rfl,hk,tk,h⟩:=h;have II:=hk.kind;walk_at "vc";refine⟨_,_,_,_,true,rfl,II,rfl,pv,λz=>(nomatch z),λ_=>?_⟩;refine(ar (d:=d) hk.seq ?_:fB [d] _ _);rw[aac,tk.len];refine⟨λz=>?_,λ_=>?_⟩
  ·have z:(!decide ((n:Int)=(n:Int)))=true:=z;rw[aaD rfl]at z;exact nomatch z
  dsimp only[qe,fc];walk_at "vc";rw[show(List.map some [d,Dt.int (n:Int)]++[none])[0]? =some (some d) from rfl];dsimp only;rw[hk.it];refine bK (λzs ρ' M'=>M=M'/\∃(rest:List Fr) (o2:Option Dt),zs=rest.map Ξ/\(∀p∈rest,p∈tb)/\ρ'=[some d,some (.int (n:Int)),o2]) (λzs ρ' M' hj=>by have⟨rfl,_⟩:=hj;exact hk.ok) (λx zs ρ' M' hj e9=>?_) (λρ' M' hj=>?_) _ _ _ ⟨rfl,tb,none,rfl,λ_ h=>h,rfl⟩
  ·have⟨rfl,rest,o2,ex,fV,rfl⟩:=hj;cases rest with
   |nil=>cases ex
   |cons p rest=>
    cases ex;have pm:=fV p aae;have rp:=tk.red p pm;have⟨s1,s2⟩:=tk.sz p pm;walk_at "vc";refine⟨_,_,_,_,true,rfl,rfl,rfl,pv,λz=>(nomatch z),λ_=>?_⟩;refine(ar (d:=Ξ p) (xs:=[.int p.1,.int p.2]) rfl ?_:fB [Ξ p] _ _);refine⟨λz=>(nomatch z),λ_=>?_⟩;refine(jS ?_:cE (Ξ p) (.int 0) _ _);refine⟨p.1,rfl,λz=>(nomatch z),λ_=>?_⟩;refine(gZ ?_:cE (Ξ p) (.int 1) _ _);refine⟨p.2,rfl,λz=>(nomatch z),λ_=>?_⟩;refine(gZ ?_:cE (Ξ p) (.int 1) _ _);refine⟨λz=>?_,λ_=>?_⟩
    ·have z:p.2<1:=aaz z;have:=rp.pos;omega
    refine(jS ?_:cE (Ξ p) (.int 0) _ _);refine(gZ ?_:cE (Ξ p) (.int 1) _ _);refine⟨p.1,p.2,rfl,rp.pos,qz (k:=1030) (aak rp.pos) s1 @_,?_⟩;rw[vQ rp.pos rp.low];refine NN ?_;exact⟨λz=>(nomatch z),λ_=>e9 _ _ ⟨rfl,rest,_,rfl,λy hy=>fV y (aad _ hy),rfl⟩⟩
  ·have⟨rfl,rest,o2,ex,fV,rfl⟩:=hj;exact h
def jQ(ε:Fr)(tb:List Fr)(d:bO):Fr:=(d.2.1.1*ε.2*(tb.getD d.1.toNat (0,1)).2+ε.1*(tb.getD d.1.toNat (0,1)).1*d.2.1.2,d.2.1.2*ε.2*(tb.getD d.1.toNat (0,1)).2)
def Cv(h1:0<ε.2)(h2:0<d.2.1.2)(h3:0<(tb.getD d.1.toNat (0,1)).2):val (jQ ε tb d)=val d.2.1+val ε*val (tb.getD d.1.toNat (0,1))/\0<(jQ ε tb d).2:=by
 refine⟨?_,aaP (aaP h2 h1) h3⟩;have a:=aJ (show ε.2≠0 by omega);have b:=aJ (show d.2.1.2≠0 by omega);have c:=aJ (show(tb.getD d.1.toNat (0,1)).2≠0 by omega);unfold jQ val;simp only[Rat.intCast_add,Rat.intCast_mul];generalize (d.2.1.1:Rat)=x1 at *
 generalize (d.2.1.2:Rat)=x2 at *
 generalize (ε.1:Rat)=y1 at *
 generalize (ε.2:Rat)=y2 at *
 generalize ((tb.getD d.1.toNat (0,1)).1:Rat)=z1 at *
 generalize ((tb.getD d.1.toNat (0,1)).2:Rat)=z2 at *
 grind
def bZ{k:Nat}(h1:a.natAbs<2^j)(h2:b.natAbs<2^k):(a*b).natAbs<2^(j+k):=by rw[abj];exact cj h1 h2
def EA(h1:a.natAbs<2^j)(h2:b.natAbs<2^j):(a+b).natAbs<2^(j+1):=by have:=Int.natAbs_add_le a b;rw[Nat.pow_succ];omega
def hZ{k:Nat}(h:a.natAbs<2^j)(l:j<=k):a.natAbs<2^k:=aau h (ab1 @_ l)
structure XJ(ε:Fr)(n:Nat)(d:bO):Prop where
 to:0<=d.1/\d.1<n
 p1:d.2.1.1.natAbs<2^101
 p2:0<d.2.1.2/\d.2.1.2.natAbs<2^20
 s1:ε.1.natAbs<2^10
 s2:0<ε.2/\ε.2.natAbs<2^10
def zZ(tk:C6 tb n){t:Int}(h:0<=t/\t<n):Red (tb.getD t.toNat (0,1))/\(tb.getD t.toNat (0,1)).2.natAbs<2^1030/\(tb.getD t.toNat (0,1)).1.natAbs<2^1150/\lF (tb.map Ξ) t=some (Ξ (tb.getD t.toNat (0,1))):=by
 have hl:t.toNat<tb.length:=by rw[tk.len];omega
 have m:=ET hl;have⟨s1,s2⟩:=tk.sz _ m;have r:=tk.red _ m;refine⟨r,?_,s2,?_⟩
 ·have:((tb.getD t.toNat (0,1)).2.natAbs:Int)<((2^1030:Nat):Int):=by rw[abm (aak r.pos),Int.natCast_pow];exact s1
  exact abR.mp this
 ·have:=Of hl;rw[show((t.toNat:Nat):Int)=t by omega]at this;rw[this,aab,aaa hl];rfl
def DM(tk:C6 tb n)(dl:XJ ε n d):(jQ ε tb d).1.natAbs<2^1181/\(jQ ε tb d).2.natAbs<2^1060:=by have⟨r,b2,b1,_⟩:=zZ tk dl.to;have a:=bZ (bZ dl.p1 dl.s2.2) b2;have b:=bZ (bZ dl.s1 b1) dl.p2.2;have c:=bZ (bZ dl.p2.2 dl.s2.2) b2;exact⟨EA (j:=1180) (hZ a @_) (hZ b @_),hZ c @_⟩
def RP(Η s c:Fr):Fr:=(Η.1*(s.2*c.2)+s.1*c.1*Η.2,Η.2*(s.2*c.2))
theorem QE{Η s c:Fr}(h1:0<Η.2)(h2:0<s.2)(h3:0<c.2):val (RP Η s c)=val Η+val c*val s/\0<(RP Η s c).2:=by
 refine⟨?_,aaP h1 (aaP h2 h3)⟩;have a:=aJ (show Η.2≠0 by omega);have b:=aJ (show s.2≠0 by omega);have d:=aJ (show c.2≠0 by omega);unfold RP val;simp only[Rat.intCast_add,Rat.intCast_mul];generalize (Η.1:Rat)=x1 at *
 generalize (Η.2:Rat)=x2 at *
 generalize (s.1:Rat)=y1 at *
 generalize (s.2:Rat)=y2 at *
 generalize (c.1:Rat)=z1 at *
 generalize (c.2:Rat)=z2 at *
 grind
structure Du(k:Nat)(v:Rat)(Η:Fr):Prop where
 pos:0<Η.2
 val:val Η=v
 t:Η.1.natAbs<2^(1202+1081*k)
 b:Η.2.natAbs<2^(1080*k+1)
def Du.step{k:Nat}{v:Rat}{Η s c:Fr}(h:Du k v Η)(s0:0<s.2)(c0:0<c.2)(s1:s.1.natAbs<2^1181)(s2:s.2.natAbs<2^1060)(c1:c.1.natAbs<2^20)(c2:c.2.natAbs<2^20):Du (k+1) (v+Pg.val c*Pg.val s) (RP Η s c):=by
 have⟨e,p⟩:=QE h.pos s0 c0;refine⟨p,by rw[e,h.val],?_,?_⟩
 ·have a:=bZ h.t (bZ s2 c2);have b:=bZ (bZ s1 c1) h.b;refine hZ (EA (j:=1202+1081*k+1080) (hZ a ()) (hZ b ())) ()
 ·exact hZ (bZ h.b (bZ s2 c2)) ()
def zy(f:bO->Rat):∀(l r:List bO),ay f (l++r)=ay f l+ay f r
 |[],r=>by show ay f r=0+ay f r;grind
 |d::l,r=>by show f d+ay f (l++r)=f d+ay f l+ay f r;rw[zy f l r];grind
def UR:DF:=λas M q _=>∃(ε:Fr) (d:bO) (tb:List Fr) (n kt:Nat),as=[Ξ ε,eG d,.loc kt]/\M[kt]? =some (.lst (tb.map Ξ))/\C6 tb n/\XJ ε n d/\q (Ξ (jQ ε tb d)) M
def mB:Ε ["_law_share","_law_door","_law_table_here","_law_number","_law_top"] ["_law_share","_law_door","_law_table_here"] (ψ pq):=.of rfl
def zW(F:cZ K "_law_shown" "_law_shown" pq f fd)(E:Ev K mg w Cm):av P w K mg base (cC P w) 1 f fd ["_law_share","_law_door","_law_table_here"] (cW K UR):=by
 refine F.dR mB (λds M q x h=>?_) (λbz A outer s H E' hr=>⟨_,(η (ω 3 mB.nd (Ζ (jv 2) (Ζ (jv 1) ο)))
   (η (ω 4 mB.nd (ck (au (au (Ζ (Ζ (jv 1) ο) ο) (Ζ (jv 0) ο)) (Ζ (jv 3) ο)) (au (au (Ζ (jv 0) ο) (Ζ (jv 3) ο)) (Ζ (Ζ (jv 1) ο) ο))))
   (μ (Γ (eI (Ρ (jv 4) (ι (au (au (Ζ (Ζ (jv 1) ο) ο) (Ζ (jv 0) ο)) (Ζ (jv 3) ο)) θ bL))))))),λds M q x h=>?_⟩)
 ·have⟨ε,d,tb,n,kt,rfl,_⟩:=h;rfl
 ·have⟨ε,d,tb,n,kt,rfl,hk,tk,dl,h⟩:=h;have⟨r,b2,b1,at_⟩:=zZ tk dl.to;have h:q (Ξ (d.2.1.1*ε.2*(tb.getD d.1.toNat (0,1)).2+ε.1*(tb.getD d.1.toNat (0,1)).1*d.2.1.2,d.2.1.2*ε.2*(tb.getD d.1.toNat (0,1)).2)) M:=h;generalize tb.getD d.1.toNat (0,1)=t at *
  walk_at "vc";refine DB ?_;refine(Θ (d:=.loc kt) (kM hk) at_ ?_:cE (.loc kt) (.int d.1) _ _);refine yH (jS ?_);refine(gZ ?_:cE (Ξ ε) (.int 1) _ _);refine⟨⟨bg dl.p1,bg dl.s2.2⟩,?_⟩;refine(gZ ?_:cE (Ξ t) (.int 1) _ _);refine⟨⟨bg (bZ dl.p1 dl.s2.2),bg b2⟩,?_⟩;refine(jS ?_:cE (Ξ ε) (.int 0) _ _);refine(jS ?_:cE (Ξ t) (.int 0) _ _);refine⟨⟨bg dl.s1,bg b1⟩,?_⟩;refine yH (gZ ?_);refine⟨⟨bg (bZ dl.s1 b1),bg dl.p2.2⟩,?_⟩;dsimp only[qx];refine yH (gZ ?_);refine(gZ ?_:cE (Ξ ε) (.int 1) _ _);refine⟨⟨bg dl.p2.2,bg dl.s2.2⟩,?_⟩;refine(gZ ?_:cE (Ξ t) (.int 1) _ _);exact⟨⟨bg (bZ dl.p2.2 dl.s2.2),bg b2⟩,gV,h⟩
structure X9(ε:Fr)(n:Nat)(r:Rw)(dd:Dt):Prop where
 ds:∀k ds,r= .τ k ds->ds.length<=6/\k≠"end"/\(∀d∈ds,XJ ε n d)/\(k="chance"->∀d∈ds,d.2.2=[χ d]/\0<(χ d).2/\(χ d).1.natAbs<2^20/\(χ d).2.natAbs<2^20)/\(k≠"chance"->Β k=true/\0<ds.length/\(dd= .bj\/∃j:Nat,dd= .int (j:Int)/\j<ds.length))
def NZ:DF:=λas M q _=>∃(ε:Fr) (r:Rw) (tb:List Fr) (n kt:Nat) (dd:Dt),as=[Ξ ε,az r,.loc kt,dd]/\M[kt]? =some (.lst (tb.map Ξ))/\C6 tb n/\X9 ε n r dd/\0<ε.2/\(∀p,r= .fin p->q (Ξ p) M)/\(∀ds,r= .τ "chance" ds->∀f,0<f.2->dQ f.1->dQ f.2->val f=ay (λd=>cV d*(val d.2.1+val ε*val (tb.getD d.1.toNat (0,1)))) ds->q (Ξ f) M)/\
 (∀k ds (j:Nat) d,r= .τ k ds->k≠"chance"->dd= .int (j:Int)->ds[j]? =some d->q (Ξ (jQ ε tb d)) M)/\
 (∀k ds,r= .τ k ds->Β k=true->dd= .bj->∀f,0<f.2->dQ f.1->dQ f.2->(∃d∈ds,val f=val d.2.1+val ε*val (tb.getD d.1.toNat (0,1)))->(∀d∈ds,h_ k*(val d.2.1+val ε*val (tb.getD d.1.toNat (0,1)))<=h_ k*val f)->q (Ξ f) M)
def Hn:DF:=λas M q _=>∃(u v:Fr),as=[Ξ u,Ξ v]/\(dQ u.1/\dQ u.2/\dQ v.1/\dQ v.2)/\q (.bl (cX u v)) M
def GG:Ε ["_law_one","_law_two"] ["_law_one","_law_two"] (ψ sX):=.of rfl
def Bj(F:cZ K "_law_less" "_law_less" sX f fd)(E:Ev K mg w Cm):av P w K mg base (cC P w) 1 f fd ["_law_one","_law_two"] (cW K Hn):=by
 refine F.dR GG (λds M q x h=>?_) (λbz A outer s H E' hr=>⟨_,(μ (Γ (JL (au (Ζ (jv 0) ο) (Ζ (jv 1) ο)) (au (Ζ (jv 1) ο) (Ζ (jv 0) ο))))),λds M q x h=>?_⟩)
 ·have⟨u,v,rfl,_⟩:=h;rfl
 ·have⟨u,v,rfl,⟨a1,a2,b1,b2⟩,h⟩:=h;walk_at "vc";refine(jS ?_:cE (Ξ u) (.int 0) _ _);refine(gZ ?_:cE (Ξ v) (.int 1) _ _);refine⟨⟨a1,b2⟩,?_⟩;refine(jS ?_:cE (Ξ v) (.int 0) _ _);refine(gZ ?_:cE (Ξ u) (.int 1) _ _);exact⟨⟨b1,a2⟩,h⟩
def cT:Ε ["_law_share","_law_row","_law_table_here","_law_door","_law_some","_law_top","_law_bottom","_law_k","_law_part","_law_best_here","_law_number"] ["_law_share","_law_row","_law_table_here","_law_door"] (ψ xa):=.of rfl
def Gm   (F:cZ K "_law_due" "_law_due" xa f fd) (E:Ev K mg w Cm) {Gj:Addr}{Gg:FuncData}(m7:aw P w K mg base 1 "_law_shown" ["_law_share","_law_door","_law_table_here"] UR Gj Gg) {K3:Addr}{Iu:FuncData}(k9:aw P w K mg base 1 "_law_less" ["_law_one","_law_two"] Hn K3 Iu):av P w K mg base (cC P w) 2 f fd ["_law_share","_law_row","_law_table_here","_law_door"] (cW K NZ):=by
 refine F.dR cT (λds M q x h=>?_) (λbz A outer s H E' hr=>⟨_,(η (ax (cQ hr (Ζ (jv 1) ο) ia) (μ (Γ (Ζ (jv 1) ο))) Ο)
   (η (ie (i:=4) cT.nd rfl (Or.inl rfl) (ys:=["_law_share","_law_table_here"]) (af:=[0,2]) (.of cT rfl rfl rfl) (bC (Ζ (jv 1) ο)) (λC s H fp=>(aa m7 hr (gy (P:=P) (w:=w)) (Ρ (jv 1) (Ρ (jv 0) (Ρ (jv 2) θ))))))
   (η (ax (cQ hr (Ζ (jv 1) ο) ia) (η (ω 5 cT.nd ο)
   (η (ω 6 cT.nd ο)
   (η (gf (bY E.bM (ι (bP E.br (Ρ (jv 4) θ)) θ aY)) (ai (i:=7) cT.nd rfl (Or.inl rfl)) aI (η (ω 8 cT.nd (eI (ι (au (Ζ (Ζ (jv 4) (jv 7)) ο) (Ζ (Ζ (Ζ (Ζ (jv 1) ο) (jv 7)) ο) ο)) (ι (au (Ζ (Ζ (jv 4) (jv 7)) ο) (Ζ (Ζ (Ζ (Ζ (jv 1) ο) (jv 7)) ο) ο)) θ bL) bL)))
   (η (ω 5 cT.nd (ck (au (jv 5) (Ζ (jv 8) ο)) (au (Ζ (jv 8) ο) (jv 6))))
   (μ (ω 6 cT.nd (au (jv 6) (Ζ (jv 8) ο)))))))
   (μ (Γ (eI (Ρ (jv 5) (Ρ (jv 6) θ)))))))) Ο)
   (η (ax (Nl (jv 3) MG) (μ (Γ (Ζ (jv 4) (jv 3)))) Ο)
   (η (ω 9 cT.nd (Ζ (jv 4) ο))
   (η (c8 (bC (jv 4)) (ai (i:=10) cT.nd rfl (Or.inl rfl)) aI (μ (ax (JW.jt (gw (JW.jt (Hu (cQ hr (Ζ (jv 1) ο) ia) (Em (bH (aa k9 hr ξ (Ρ (jv 9) (Ρ (jv 10) θ))))))) (gR (JW.jt (Hu (cQ hr (Ζ (jv 1) ο) ia) (Em (bH (aa k9 hr ξ (Ρ (jv 10) (Ρ (jv 9) θ)))))))))) (μ (ω 9 cT.nd (jv 10))) Ο)))
   (μ (Γ (jv 9))))))))),λds M q x h=>?_⟩)
 ·have⟨ε,r,tb,n,kt,dd,rfl,_⟩:=h;rfl
 ·have⟨ε,r,tb,n,kt,dd,rfl,hk,tk,rl,s0,hf,hc,hn,hh⟩:=h;have sl:∀{z:Nat},z<=1000->z<=sizeLine:=λh=>aaE h @_;walk_at "vc";refine iu ?_;cases r with
  |fin p=>
   refine⟨λ_=>?_,λz=>(nomatch z)⟩;exact zk (hf p rfl)
  |τ k ds=>
   have⟨l6,ke,dl,dc,dh⟩:=rl.ds k ds rfl;refine⟨λz=>aaL (aaz z) ke,λ_=>?_⟩;refine yL (i:=1) (j:=1) rfl (Ν (j:=1) rfl) rfl ?_;refine⟨by rw[aac];exact sl (),?_⟩;refine dF (F:=λx d=>x=eG d/\d∈ds) (f:=λd=>Ξ (jQ ε tb d)) (as:=ds) trivial (λx d hx qq hq=>?_) (i7 eG ds ds λx hx=>hx) ?_
   ·have⟨rfl,hd⟩:=hx;exact⟨ε,d,tb,n,kt,rfl,hk,tk,dl d hd,hq⟩
   rw[aaW];generalize Za:ds.map (λd=>Ξ (jQ ε tb d))=ss;have sat:∀{j:Nat} {d:bO},ds[j]? =some d->lF ss (j:Int)=some (Ξ (jQ ε tb d)):=λ{j d} h=>Ν (by rw[<-Za,aaq,h];rfl);have ssl:ss.length=ds.length:=by rw[<-Za,aac]
   refine iu (r:=.τ k ds) ?_;refine⟨λz=>?_,λz=>?_⟩
   ·have z:k="chance":=aaz z;subst z;have dc:=dc rfl;refine(ar (d:=.lst ss) (xs:=ss) rfl ?_:fB [.lst ss] _ _);rw[ssl];refine⟨(),?_⟩;rw[show((ds.length:Int)).toNat=ds.length by omega];refine cz (λzs ρ' M'=>M'=M/\∃(i m:Nat) (Η:Fr) (o7 o8:Option Dt),zs=dN (i:Int) m/\i+m=ds.length/\Du i (ay (λd=>cV d*(val d.2.1+val ε*val (tb.getD d.1.toNat (0,1)))) (ds.take i)) Η/\ρ'=[some (Ξ ε),some (az (.τ "chance" ds)),some (.loc kt),some dd,some (.lst ss),some (.int Η.1),some (.int Η.2),o7,o8,none,none]) (λx zs ρ' M' hj e9=>?_) (λρ' M' hj=>?_) _ _ _ ⟨rfl,0,ds.length,(0,1),none,none,rfl,(),⟨@_,by show((0:Int):Rat)/((1:Int):Rat)=0;grind,by show(0:Int).natAbs<_;exact Nat.pow_pos @_,by show(1:Int).natAbs<_;decide⟩,rfl⟩
    ·have⟨rfl,i,m,Η,o7,o8,ex,im,ak,rfl⟩:=hj;have⟨m',rfl,rfl,rfl⟩:=bV ex;have il:i<ds.length:=()
     have i6:i<6:=()
     have hi:ds[i]? =some ds[i]:=aaa il;have hd:=aaG il;have tk1:ds.take (i+1)=ds.take i++[ds[i]]:=by rw[List.take_succ,hi];rfl
     have⟨c1,c2,c3,c4⟩:=dc _ hd;have⟨t1,t2⟩:=DM tk (dl _ hd);have⟨v1,v2⟩:=Cv (ε:=ε) s0 (dl _ hd).p2.1 (zZ tk (dl _ hd).to).1.pos
     have nx:∀o8,_:=λo8=>e9 [some (Ξ ε),some (az (.τ "chance" ds)),some (.loc kt),some dd,some (.lst ss),some (.int (RP Η (jQ ε tb ds[i]) (χ ds[i])).1),some (.int (RP Η (jQ ε tb ds[i]) (χ ds[i])).2),some (.int (i:Int)),o8,none,none] M' ⟨rfl,i+1,m',_,_,o8,by rw[abN];rfl,(),by
      have:=ak.step v2 c2 t1 t2 c3 c4;rw[tk1,zy];rw[v1]at this;have e:ay (λd=>cV d*(val d.2.1+val ε*val (tb.getD d.1.toNat (0,1)))) [ds[i]]=cV ds[i]*(val ds[i].2.1+val ε*val (tb.getD ds[i].1.toNat (0,1))):=by show cV ds[i]*(val ds[i].2.1+val ε*val (tb.getD ds[i].1.toNat (0,1)))+0=_;grind
      rw[e];exact this,rfl⟩
     have rs:∀(M':Ms) (q:DQ),q (Ξ (jQ ε tb ds[i])) M'->cE (.lst ss) (.int (i:Int)) M' q:=λM' q hq=>Θ (d:=.lst ss) rfl (sat hi) hq;have rr:∀(M':Ms) (q:DQ),q (Ξ (χ ds[i])) M'->cE (az (.τ "chance" ds)) (.int 1) M' λd1 M1=>cE d1 (.int (i:Int)) M1 λd1 M1=>cE d1 (.int 2) M1 q:=λM' q hq=>zk (Θ (d:=.lst (ds.map eG)) rfl (Oi il) (Ju c1 hq));have at':=ak.t;have ab':=ak.b;generalize hs:jQ ε tb ds[i]=sv at *
     generalize hcv:χ ds[i]=cv at *
     have ba:dQ Η.1:=bg at' ();have bb:dQ Η.2:=bg ab' ();have b3:=bZ t1 c3;have b4:=bZ t2 c4;walk_at "vc";refine rs _ _ ?_;refine(jS ?_:cE (Ξ sv) (.int 0) _ _);refine rr _ _ ?_;refine(jS ?_:cE (Ξ cv) (.int 0) _ _);refine⟨⟨bg t1,bg c3⟩,?_⟩
     try walk_at "vc"
     refine rs _ _ ?_;refine(gZ ?_:cE (Ξ sv) (.int 1) _ _);refine rr _ _ ?_;refine(gZ ?_:cE (Ξ cv) (.int 1) _ _);refine⟨⟨bg t2,bg c4⟩,gV,?_⟩
     try walk_at "vc"
     refine(Θ (d:=.tup [.int (sv.1*cv.1),.int (sv.2*cv.2)]) rfl (Ν (j:=1) rfl) ?_:cE (.tup [.int (sv.1*cv.1),.int (sv.2*cv.2)]) (.int 1) _ _);refine⟨⟨ba,bg b4⟩,?_⟩
     try walk_at "vc"
     refine(Θ (d:=.tup [.int (sv.1*cv.1),.int (sv.2*cv.2)]) rfl bw ?_:cE (.tup [.int (sv.1*cv.1),.int (sv.2*cv.2)]) (.int 0) _ _);refine⟨⟨bg b3,bb⟩,?_⟩
     try walk_at "vc"
     dsimp only[qx];refine(Θ (d:=.tup [.int (sv.1*cv.1),.int (sv.2*cv.2)]) rfl (Ν (j:=1) rfl) ?_:cE (.tup [.int (sv.1*cv.1),.int (sv.2*cv.2)]) (.int 1) _ _);exact⟨⟨bb,bg b4⟩,nx _⟩
    ·have⟨rfl,i,m,Η,o7,o8,ex,im,ak,rfl⟩:=hj;have m0:m=0:=by have:=aa0 List.length ex;rw[fU]at this;exact this.symm
     have e:i=ds.length:=()
     subst e;have v:=ak.val;rw[List.take_length]at v;exact⟨gV,hc ds rfl Η ak.pos (bg ak.t ()) (bg ak.b ()) v⟩
   ·have z:k≠"chance":=abf z;have⟨qv,l1,hd⟩:=dh z;rcases hd with rfl| ⟨j,rfl,jl⟩
    ·refine⟨rfl,λz=>(nomatch z),λ_=>?_⟩;have h0:ds[0]? =some ds[0]:=aaa l1;have s0':lF ss 0=some (Ξ (jQ ε tb ds[0])):=sat (j:=0) h0;have vd:∀d∈ds,val (jQ ε tb d)=val d.2.1+val ε*val (tb.getD d.1.toNat (0,1))/\0<(jQ ε tb d).2:=λd hd=>Cv s0 (dl d hd).p2.1 (zZ tk (dl d hd).to).1.pos;have bd:∀d∈ds,dQ (jQ ε tb d).1/\dQ (jQ ε tb d).2:=λd hd=>⟨bg (DM tk (dl d hd)).1,bg (DM tk (dl d hd)).2⟩;refine(Θ (d:=.lst ss) rfl s0' ?_:cE (.lst ss) (.int 0) _ _);dsimp only[qe,fc];walk_at "vc";refine bK (λzs ρ' M'=>M'=M/\∃(fq rest:List bO) (b:bO) (o9:Option Dt),ds=fq++rest/\zs=rest.map (λd=>Ξ (jQ ε tb d))/\b∈ds/\(∀d∈fq,h_ k*val (jQ ε tb d)<=h_ k*val (jQ ε tb b))/\ρ'=[some (Ξ ε),some (az (.τ k ds)),some (.loc kt),some .bj,some (.lst ss),none,none,none,none,some (Ξ (jQ ε tb b)),o9]) (λzs ρ' M' hj=>trivial) (λx zs ρ' M' hj e9=>?_) (λρ' M' hj=>?_) _ _ _ ⟨rfl,[],ds,ds[0],none,rfl,Za.symm,aaG l1,λ_ z=>(nomatch z),rfl⟩
     ·have⟨rfl,fq,rest,b,o9,ed,ex,bm,hb,rfl⟩:=hj;cases rest with
      |nil=>cases ex
      |cons d rest=>
       cases ex;have dm:d∈ds:=by rw[ed];exact aaI _ aae
       have ub:=k_ (vd b bm).2 (vd d dm).2;have ud:=k_ (vd d dm).2 (vd b bm).2
       have keep:h_ k*val (jQ ε tb d)<=h_ k*val (jQ ε tb b)->_:=λhle=>e9 [some (Ξ ε),some (az (.τ k ds)),some (.loc kt),some .bj,some (.lst ss),none,none,none,none,some (Ξ (jQ ε tb b)),some (Ξ (jQ ε tb d))] M' ⟨rfl,fq++[d],rest,b,_,by rw[ed,abb];rfl,rfl,bm,λy hy=>by
        rcases aaV.mp hy with z| z
        ·exact hb y z
        ·rw[aa2.mp z];exact hle,rfl⟩
       have take:h_ k*val (jQ ε tb b)<=h_ k*val (jQ ε tb d)->_:=λhle=>e9 [some (Ξ ε),some (az (.τ k ds)),some (.loc kt),some .bj,some (.lst ss),none,none,none,none,some (Ξ (jQ ε tb d)),some (Ξ (jQ ε tb d))] M' ⟨rfl,fq++[d],rest,d,_,by rw[ed,abb];rfl,rfl,dm,λy hy=>by
        rcases aaV.mp hy with z| z
        ·exact Rat.le_trans (hb y z) hle
        ·rw[aa2.mp z];exact Rat.le_refl,rfl⟩
       walk_at "vc";refine iu (r:=.τ k ds) ?_;have two:k="one"\/k="other":=Rg.two k qv;refine⟨λe1=>?_,λe1=>?_⟩
       ·have e1:k="one":=aaz e1;refine⟨_,_,rfl,⟨(bd b bm).1,(bd b bm).2,(bd d dm).1,(bd d dm).2⟩,λu=>⟨λ_=>take ?_,λz=>(nomatch z)⟩,λu=>?_⟩
        ·have:=ub.mp u;rw[e1,sg1];grind
        ·have u:¬val (jQ ε tb b)<val (jQ ε tb d):=λz=>by rw[ub.mpr z]at u;cases u
         refine iu (r:=.τ k ds) ?_;refine⟨λe2=>aaL (e1.symm.trans (aaz e2)) @_,λ_=>⟨λz=>(nomatch z),λ_=>keep ?_⟩⟩;rw[e1,sg1];grind
       ·have e1:k≠"one":=abf e1;have e2:k="other":=two.resolve_left e1;refine⟨λz=>(nomatch z),λ_=>?_⟩;refine iu (r:=.τ k ds) ?_;refine⟨λ_=>?_,λz=>aaL e2 (abf z)⟩;refine⟨_,_,rfl,⟨(bd d dm).1,(bd d dm).2,(bd b bm).1,(bd b bm).2⟩,λu=>take ?_,λu=>keep ?_⟩
        ·have:=ud.mp u;rw[e2,sg2];grind
        ·have u:¬val (jQ ε tb d)<val (jQ ε tb b):=λz=>by rw[ud.mpr z]at u;cases u
         rw[e2,sg2];grind
     ·have⟨rfl,fq,rest,b,o9,ed,ex,bm,hb,rfl⟩:=hj;have:rest=[]:=by
       cases rest with
       |nil=>rfl
       |cons d r=>cases ex
      subst this;rw[aa7]at ed;subst ed;exact hh k _ rfl qv rfl _ (vd b bm).2 (bd b bm).1 (bd b bm).2 ⟨b,bm,(vd b bm).1⟩ λd hd=>by rw[<-(vd d hd).1];exact hb d hd
    ·have hj:ds[j]? =some ds[j]:=aaa jl;refine⟨rfl,λ_=>?_,λz=>(nomatch z)⟩;refine(Θ (d:=.lst ss) rfl (sat hj) ?_:cE (.lst ss) (.int (j:Int)) _ _);exact hn k ds j _ rfl z rfl hj
def yZ{ε:Fr}{tb:List Fr}:∀ws:List bO,ay (λd=>cV d*(val d.2.1+val ε*val (tb.getD d.1.toNat (0,1)))) ws=ay (λd=>cV d*val d.2.1) ws+val ε*ay (λd=>cV d*val (tb.getD d.1.toNat (0,1))) ws
 |[]=>by show(0:Rat)=0+val ε*0;grind
 |d::ws=>by have ih:=yZ (ε:=ε) (tb:=tb) ws;show cV d*(val d.2.1+val ε*val (tb.getD d.1.toNat (0,1)))+ay (λd=>cV d*(val d.2.1+val ε*val (tb.getD d.1.toNat (0,1)))) ws=(cV d*val d.2.1+ay (λd=>cV d*val d.2.1) ws)+val ε*(cV d*val (tb.getD d.1.toNat (0,1))+ay (λd=>cV d*val (tb.getD d.1.toNat (0,1))) ws);rw[ih];grind
section
def i8.fin(h:i8 ε γ Η tb){p:Fr}(hi:γ[i]? =some (.fin p)):val (tb.getD i (0,1))=val p:=by have e:=h.tab.eq i (aaf.mp hi).1;unfold vb vB at e;rw[nY hi]at e;have e:val (tb.getD i (0,1))=val p+val ε*0:=e;grind
def i8.A4(h:i8 ε γ Η tb)(fw:FW ε γ X C)(dk:fm γ Η){k:Str}(hi:γ[i]? =some (.τ k ds)):val (tb.getD i (0,1))=ay (λd=>cV d*(val d.2.1+val ε*val (tb.getD d.1.toNat (0,1)))) (aD Η i (.τ k ds)):=by
 have e:=h.tab.eq i (aaf.mp hi).1;unfold vb vB at e;rw[nY hi]at e;have⟨_,_,_,B,E,_,_,_,_,hw⟩:=fw.Φ dk hi;have v:=vK (aD Η i (.τ k ds)) (0,1) @_ λd hd=>⟨(hw d hd).ch.pos,(hw d hd).py.red.pos⟩;have e:val (tb.getD i (0,1))=val (((aD Η i (.τ k ds)).map χ|>.zip ((aD Η i (.τ k ds)).map (·.2.1))).foldl (λw p=>eO w (aN p.1 p.2)) (0,1))+val ε*ay (λd=>cV d*val (tb.getD d.1.toNat (0,1))) (aD Η i (.τ k ds)):=e;rw[e,v,yZ];have:val ((0,1):Fr)=0:=by show((0:Int):Rat)/((1:Int):Rat)=0;grind
 rw[this];grind
def Jg{f t:Fr}(h1:0<f.2)(h2:0<t.2)(e:val f=val t):f.1*t.2=t.1*f.2:=by
 have a:=aJ (show f.2≠0 by omega);have b:=aJ (show t.2≠0 by omega);unfold val at e;have:(f.1:Rat)*(t.2:Rat)=(t.1:Rat)*(f.2:Rat):=by
  generalize (f.1:Rat)=x1 at *
  generalize (f.2:Rat)=x2 at *
  generalize (t.1:Rat)=y1 at *
  generalize (t.2:Rat)=y2 at *
  grind
 rw[<-aaQ,<-aaQ]at this;exact Rat.intCast_inj.mp this
def sy(h0:0<=b)(h:b<=1000000):b.natAbs<2^20:=by
 have:b.natAbs<=1000000:=()
 exact aaX this @_
def FW.rl(fw:FW ε γ X C)(hi:γ[i]? =some r){dd:Dt}(hd:Β (kindOf r)=true->dd= .bj\/∃j:Nat,dd= .int (j:Int)/\j<(Τ r).length):X9 ε γ.length r dd:=by
 have rm:r∈γ:=aag hi;refine⟨λk ds e=>?_⟩;subst e;have dr:=dD fw.pl rm;have sh:=fw.pl.sh;unfold aX at sh;rw[aav,aav,aap,aap,aap]at sh;have⟨h1,h2,h3⟩:=sh;refine⟨dr.l6,dr.ro.1,λd hm=>?_,λhk d hm=>?_,λhk=>?_⟩
 ·have⟨py,p0⟩:=dr.py d hm;have sp:=BE py p0;exact⟨dr.to d hm,sp.1,⟨p0,sy (Int.le_of_lt p0) (by unfold bx at py;rw[Bool.and_eq_true,decide_eq_true_iff,decide_eq_true_iff]at py;exact py.2)⟩,(),(),()⟩
 ·subst hk;have co:FO (ds.map χ):=by
   rcases dr.kd with z| ⟨_,_,z⟩
   ·exact aaL z @_
   ·exact z
  have⟨c0,cd,cu,_⟩:=D3 co (aaj.mpr ⟨d,hm,rfl⟩);have b1:=co.b1;have le:=ab6 co.b0 cd;have⟨u0,u1⟩:=cu;exact⟨(dr.ro.2.2.1 rfl).1 d hm,c0,sy u0 (),sy () ()⟩
 ·have hh:Β k=true:=by
   rcases dr.kd with z| ⟨_,z,_⟩
   ·exact z
   ·exact aaL z hk
  exact⟨hh,dr.l1,hd hh⟩
variable{pa:Pl}{k:Str}
def wC(fw:FW ε γ X C)(hs:lR hand υ)(fa:aQ (kR γ υ) pa)(hi:γ[i]? =some r):(kindOf r=hand->Ι (bG (bf γ hand p) pa) i=some ((Ι p i).getD 0))/\(kindOf r=υ->Ι (bG (bf γ hand p) pa) i=Ι pa i):=by
 have il:=(aaf.mp hi).1;have g:=d9 (i:=(i:Int)) (p:=bf γ hand p) (bN fa);have hh:Ι (bf γ hand p) i=((ya hand p (kindOf r)).map λpl=>(Ι pl i).getD 0):=by rw[jK,aax il,hi];rfl
 refine⟨λe=>?_,λe=>?_⟩
 ·rw[g,(cx (i:=i) fw hs.h2 fa).2 r hi λz=>hs.ne (e.symm.trans z)];show Ι (bf γ hand p) i=_;rw[hh];unfold ya;rw[aax e];rfl
 ·cases r with
  |fin q=>exact aaL (show Β (Str.ofString "end")=true by rw[<-hs.h2,<-e];rfl) @_
  |τ k ds=>
   have e:k=υ:=e;subst e;have⟨j,gj,_⟩:=(cx (i:=i) fw hs.h2 fa).1 ds hi;rw[g,gj]
def i8.door(h:i8 ε γ Η tb)(fw:FW ε γ X C)(hi:γ[i]? =some (.τ k ds))(hh:Β k=true)(gj:Ι Η i=some (j:Int))(hj:ds[j]? =some d):val (jQ ε tb d)=val (tb.getD i (0,1))/\0<(jQ ε tb d).2:=by
 have hp:∀t,t<γ.length->0<(tb.getD t (0,1)).2:=λt ht=>(h.tab.red t ht).pos;have il:=(aaf.mp hi).1;have rm:=aag hi;have dm:=aag hj;have dr:=dD fw.pl rm;have jl:=(aaf.mp hj).1;have⟨t0,t1⟩:=dr.to d dm;have⟨v1,v2⟩:=Cv (ε:=ε) (tb:=tb) (d:=d) fw.sh.1 (dr.py d dm).2 (hp _ ());refine⟨?_,v2⟩;have gd:ds.getD j d0=d:=by rw[aab,hj];rfl
 rw[v1,<-(gH fw rm dm hp).1,<-h.jj il,jg fw hi hh gj jl hp,gd]
def i8.best(h:i8 ε γ Η tb)(fw:FW ε γ X C)(fa:aQ (kR γ k) pa)(be:Λ ε γ tb pa=[])(hi:γ[i]? =some (.τ k ds))(hh:Β k=true)(ga:Ι Η i=Ι pa i){u:Fr}(h1:∃d∈ds,val u=val d.2.1+val ε*val (tb.getD d.1.toNat (0,1)))(h2:∀d∈ds,h_ k*(val d.2.1+val ε*val (tb.getD d.1.toNat (0,1)))<=h_ k*val u):val u=val (tb.getD i (0,1)):=by have hp:∀t,t<γ.length->0<(tb.getD t (0,1)).2:=λt ht=>(h.tab.red t ht).pos;have il:=(aaf.mp hi).1;have rm:=aag hi;have l1:=(dD fw.pl rm).l1;have⟨j,gj,jl⟩:=(cx (i:=i) fw hh fa).1 ds hi;have⟨_,es⟩:=(iU hh).mp (sR fw hh fa hp be hi gj);rw[<-h.jj il,jg fw hi hh (ga.trans gj) jl hp,es];have⟨_,al⟩:=sS (tb:=tb) fw rm hp;have⟨d1,m1,e1⟩:=h1;have a:=al d1 m1;rw[(gH fw rm m1 hp).1,<-e1]at a;have⟨m,_⟩:=pP (ε:=ε) (tb:=tb) (k:=k) (ds:=ds) (λz=>by rw[z]at l1;exact aaL l1 @_) λd hd=>(gH fw rm hd hp).2.pos;have⟨d2,m2,e2⟩:=aaj.mp m;have b:=h2 d2 m2;rw[<-(gH fw rm m2 hp).1,e2]at b;exact Cs (Rat.le_antisymm a b)
end
def JC{k:Nat}{q:DQ}{ds:List Dt}(hk:M[k]? =some (.lst ds))(u:Dt.bR M.length ds)(h:q (.lst ds) M):u_ [.loc k] M (sj M q):=by unfold u_;dsimp only;rw[kM hk];exact cY u h
def pU{q:DQ}(h:q (.int γ.length) M):fB [Dt.lst (γ.map az)] M q:=ar (xs:=γ.map az) rfl (by rw[aac];exact h)
def Ec{dd:Dt}(wt:i8 ε γ Η tb)(fw:FW ε γ X C)(dk:fm γ Η)(tk:C6 tb γ.length)(hi:γ[i]? =some r)(hd:Β (kindOf r)=true->(∃j:Nat,dd= .int (j:Int)/\Ι Η i=some (j:Int)/\j<(Τ r).length)\/(dd= .bj/\∃pa,aQ (kR γ (kindOf r)) pa/\Λ ε γ tb pa=[]/\Ι Η i=Ι pa i)):X9 ε γ.length r dd/\∀{Q:Fr->Prop},(∀u:Fr,0<u.2->dQ u.1->dQ u.2->val u=val (tb.getD i (0,1))->Q u)->(∀p,r= .fin p->Q p)/\(∀ds,r= .τ "chance" ds->∀f,0<f.2->dQ f.1->dQ f.2->val f=ay (λd=>cV d*(val d.2.1+val ε*val (tb.getD d.1.toNat (0,1)))) ds->Q f)/\(∀k ds (j:Nat) d,r= .τ k ds->k≠"chance"->dd= .int (j:Int)->ds[j]? =some d->Q (jQ ε tb d))/\∀k ds,r= .τ k ds->Β k=true->dd= .bj->∀f,0<f.2->dQ f.1->dQ f.2->(∃d∈ds,val f=val d.2.1+val ε*val (tb.getD d.1.toNat (0,1)))->(∀d∈ds,h_ k*(val d.2.1+val ε*val (tb.getD d.1.toNat (0,1)))<=h_ k*val f)->Q f:=by
 have rl:=fw.rl hi (dd:=dd) λhh=>(hd hh).elim (λ⟨j,e,_,l⟩=>.inr ⟨j,e,l⟩) λ⟨e,_⟩=>.inl e;refine⟨rl,λ{Q} go=>⟨λu e=>?_,λds e u u0 u1 u2 ev=>?_,λk ds j d e jn ej hj=>?_,λk ds e hh en u u0 u1 u2 h1 h2=>?_⟩⟩
 ·subst e;have py:=fw.pl.row _ (aag hi);have sp:=BE py.2 py.1;exact go u py.1 (fR sp @_) (c7 sp @_) (wt.fin hi).symm
 ·subst e;have e:=(wt.A4 fw dk hi).symm;have ew:aD Η i (.τ "chance" ds)=ds:=by unfold aD;rw[dk.Hb i _ hi (show Β (Str.ofString "chance")=false by decide)];rfl
  rw[ew,<-ev]at e;exact go u u0 u1 u2 e
 ·subst e;have⟨_,_,dl,_,dh⟩:=rl.ds k ds rfl;have hh:=(dh jn).1;rcases hd hh with ⟨j',e',ga,l⟩| ⟨e',_⟩
  ·rw[ej]at e';obtain rfl:j=j':=by have:=Dt.int.inj e';omega
   have⟨v,p0⟩:=wt.door fw hi hh ga hj;have sz:=DM tk (dl d (aag hj));exact go _ p0 (bg sz.1) (bg sz.2) v
  ·rw[ej]at e';cases e'
 ·subst e;rcases hd hh with ⟨j',e',_⟩| ⟨_,pa,fa,be,ga⟩
  ·rw[en]at e';cases e'
  ·exact go u u0 u1 u2 (wt.best fw fa be hi hh ga h1 h2)
def tM{hand:Str}:∀γ:List Rw,(γ.map az).filter (λx=>match x with| .tup (.str z::_)=>decide (z=hand)| _=>false)=(γ.filter λr=>decide (kindOf r=hand)).map az
 |[]=>rfl
 |r::γ=>by
  have e:(match az r with| .tup (.str z::_)=>decide (z=hand)| _=>false)=decide (kindOf r=hand):=by cases r <;> rfl
  rw[aaH,List.filter_cons,List.filter_cons,tM γ];show(if (match az r with| .tup (.str z::_)=>decide (z=hand)| _=>false)=true then _ else _)=_;rw[e];split <;> rfl
def rR{hand:Str}:∀γ:List Rw,((List.range γ.length).filter λi=>decide (e7 γ i=hand)).length=(γ.filter λr=>decide (kindOf r=hand)).length
 |[]=>rfl
 |r::γ=>by
  have ih:=rR (hand:=hand) γ;rw[aaB,abF,List.filter_cons,List.filter_cons,List.filter_map];have e:((λi=>decide (e7 (r::γ) i=hand)) ∘ Nat.succ)=λi=>decide (e7 γ i=hand):=rfl;rw[e];have e2:decide (e7 (r::γ) 0=hand)=decide (kindOf r=hand):=rfl;rw[e2];split
  ·rw[aaB,aaB,aac,ih]
  ·rw[aac,ih]
def m_(fp:aQ (kR γ hand) p):p.length=(γ.filter λr=>decide (kindOf r=hand)).length:=by have:=aa0 List.length (cB fp);rw[aac,ix,aac]at this;rw[this];exact rR γ
def NW:DF:=λas M q _=>∃(k:Nat) (ε:Fr) (γ:List Rw) (hand:Str) (p:Pl) (X C:Int),as=[.loc k,.lst (γ.map az),.str hand]/\M[k]? =some (dP p)/\FW ε γ X C/\Β hand=true/\aQ (kR γ hand) p/\q (.bl true) M
def iy:Ε ["_law_plan_here","_law_rows","_law_hand","_law_k"] ["_law_plan_here","_law_rows","_law_hand"] (ψ ng):=.of rfl
def wR(F:cZ K "_law_answer" "_law_answer" ng f fd)(E:Ev K mg w Cm){pd:Addr}{oo:FuncData}(dq:aw P w K mg base 1 "_law_whole" ["_law_number"] xI pd oo):av P w K mg base (cC P w) 2 f fd ["_law_plan_here","_law_rows","_law_hand"] (cW K NW):=by
 refine F.dR iy (λds M q x h=>?_) (λbz A outer s H E' hr=>⟨_,(η (ax (JW.jt (gw (eU (bH (Q9 K E.bq (Ρ (jv 0) (Ρ (Cc E.kK rf) θ))))) (gR (lJ hr (HN E.br (Ρ (jv 0) θ)) (bP E.br (ι (zS (ys:=["_law_hand"]) (af:=[2]) (.of iy rfl rfl rfl) (bC (jv 1)) (λC s H fp=>(cQ hr (Ζ (jv 0) ο) (jv 1))) (λC s H fp=>(jv 0))) θ)))))) (μ (Γ BF)) Ο)
   (η (gf (bY E.bM (ι (bP E.br (Ρ (jv 1) θ)) θ aY)) (ai (i:=3) iy.nd rfl (Or.inl rfl)) aI (μ (ax (cQ hr (Ζ (Ζ (jv 1) (jv 3)) ο) (jv 2)) (μ (ax (JW.jt (gw (pG hr (jv 3) (jv 0)) (gw (eU (bH (aa dq hr ξ (ι (gh hr (jv 0) (jv 3)) θ aZ)))) (gw (tq (gh hr (jv 0) (jv 3)) ο) (gR (RZ (gh hr (jv 0) (jv 3)) (bP E.br (ι (Ζ (Ζ (jv 1) (jv 3)) ο) θ aZ)))))))) (μ (Γ BF)) Ο)) Ο)))
   (μ (Γ (Oh E.zp (ι (Nn (ys:=[]) (af:=[]) (.of iy rfl rfl rfl) (jv 0) (λC s H fp=>(aa dq hr (gy (P:=P) (w:=w)) (Ρ (jv 0) θ)))) θ)))))),λds M q x h=>?_⟩)
 ·have⟨k,ε,γ,hand,p,X,C,rfl,_⟩:=h;rfl
 ·have⟨k,ε,γ,hand,p,X,C,rfl,hk,fw,hh,fp,h⟩:=h;have qj:=fw.pl.len;have sl:∀{z:Nat},z<=1000->z<=sizeLine:=λh=>aaE h @_;have kl:(kP p).length=p.length:=by unfold kP;rw[List.length_map]
  have pn:p.length=(γ.filter λr=>decide (kindOf r=hand)).length:=m_ fp;walk_at "vc";refine⟨k,_,_,_,_,true,rfl,hk,rfl,pv,λz=>(nomatch z),λ_=>?_⟩;refine⟨k,_,_,rfl,hk,?_⟩;rw[kl];dsimp only[w4,fc];walk_at "vc";refine⟨by rw[aac];exact sl (),?_⟩;refine eQ trivial (λx=>match x with| .tup (.str z::_)=>decide (z=hand)| _=>false) (λx=>x) _ _ (λx hx q' p' h1 h2=>?_) ?_
  ·have⟨r,fV,rfl⟩:=aaj.mp hx;have⟨e0,er⟩:=Ck (r:=r);rw[er]at h1 h2;have h1:decide (kindOf r=hand)=true->q' (.tup (.str (kindOf r)::[e0])) M:=h1;have h2:decide (kindOf r=hand)=false->p' M:=h2;rw[<-er]at h1;walk_at "vc";refine iu ?_;show(match decide (kindOf r=hand) with| true=>q' (az r) M| false=>p' M);cases hb:decide (kindOf r=hand) with
   |true=>exact h1 hb
   |false=>exact h2 hb
  rw[aaW,List.map_id',tM];refine(ar (xs:=(γ.filter λr=>decide (kindOf r=hand)).map az) rfl ?_:fB [Dt.lst ((γ.filter λr=>decide (kindOf r=hand)).map az)] _ _);rw[aac,<-pn];refine⟨λz=>?_,λ_=>?_⟩
  ·have z:(!decide ((p.length:Int)=(p.length:Int)))=true:=z;rw[aaD rfl]at z;exact nomatch z
  refine(ar (xs:=γ.map az) rfl ?_:fB [Dt.lst (γ.map az)] _ _);rw[aac];refine⟨(),?_⟩;rw[show((γ.length:Int)).toNat=γ.length by omega];refine cz (λzs ρ' M'=>M'=M/\∃(i m:Nat) (o3:Option Dt),zs=dN (i:Int) m/\i+m=γ.length/\ρ'=[some (.loc k),some (.lst (γ.map az)),some (.str hand),o3]) (λx zs ρ' M' hj e9=>?_) (λρ' M' hj=>?_) _ _ _ ⟨rfl,0,γ.length,none,rfl,(),rfl⟩
  ·have⟨rfl,i,m,o3,ex,im,rfl⟩:=hj;have⟨m',rfl,rfl,rfl⟩:=bV ex;have il:i<γ.length:=()
   have hi:γ[i]? =some γ[i]:=aaa il;generalize γ[i]=r at *
   have nx:=e9 [some (.loc k),some (.lst (γ.map az)),some (.str hand),some (.int (i:Int))] M' ⟨rfl,i+1,m',_,by rw[abN];rfl,(),rfl⟩;walk_at "vc";refine pb hi (iu ?_);refine⟨λz=>?_,λ_=>nx⟩;have z:kindOf r=hand:=aaz z;cases r with
   |fin q0=>exact aaL (show Β (Str.ofString "end")=true by rw[<-hh,<-z];rfl) @_
   |τ k0 ds=>
    have z:k0=hand:=z;subst z;have⟨j,gj,jl⟩:=(cx (i:=i) fw hh fp).1 ds hi;have gd:aH (kP p) (vP p) (Sum.inl (i:Int))=some (.int (j:Int)):=by rw[kE,gj];rfl
    have ik:Hf (kP p) (Sum.inl (i:Int))=true:=by rw[Cq,gj];rfl
    refine⟨k,_,_,Sum.inl (i:Int),rfl,hk,rfl,?_⟩;rw[ik];refine⟨λz=>(nomatch z),λ_=>?_⟩;refine⟨k,_,_,Sum.inl (i:Int),_,rfl,hk,rfl,gd,?_⟩;refine⟨_,rfl,λz=>(nomatch z),λ_=>?_⟩;refine⟨k,_,_,Sum.inl (i:Int),_,rfl,hk,rfl,gd,?_⟩;refine⟨λz=>?_,λ_=>?_⟩
    ·have z:(j:Int)<0:=aaz z;omega
    refine⟨k,_,_,Sum.inl (i:Int),_,rfl,hk,rfl,gd,?_⟩;refine pb hi (zk ?_);refine(ar (xs:=ds.map eG) rfl ?_:fB [Dt.lst (ds.map eG)] _ _);rw[aac];refine⟨λz=>?_,λ_=>nx⟩;have z:(ds.length:Int)<=(j:Int):=aaz z;omega
  ·have⟨rfl,i,m,o3,ex,im,rfl⟩:=hj;have zq:M'[k]? =some (.bX (kP p) ((p.map (·.2)).map Dt.int)):=by rw[<-qR];exact hk
   have klt:=(aaf.mp hk).1;walk_at "vc";dsimp only[Ht];walk_at "vc";refine⟨k,kP p,p.map (·.2),rfl,zq,by rw[kl];have:=m_ fp;have:=aca (λr=>decide (kindOf r=hand)) γ;exact sl (),λep=>?_⟩;refine fv (f:=λ_=>.bl true) (aa3 klt) (λy hy q0 hq=>?_) ⟨aa3 klt,(kP p).map (λ_=>true),by rw[aaM,aaM];rfl,?_⟩
   ·have⟨key,Hl,rfl⟩:=aaj.mp hy;have⟨e,he,rfl⟩:=aaj.mp Hl;exact⟨e.1,rfl,hq⟩
   ·rw[List.set_set,AY zq,show((kP p).map (λ_=>true)).all id=true by rw[List.all_map];exact abw.mpr λ_ _=>rfl];exact h
def HR:DF:=λas M q _=>∃(ε:Fr) (γ:List Rw) (kt kp ka:Nat) (tb:List Fr) (hand υ:Str) (p p' pa:Pl) (X C:Int),as=[Ξ ε,.lst (γ.map az),.loc kt,.loc kp,.loc ka]/\M[kt]? =some (.lst (tb.map Ξ))/\M[kp]? =some (dP p)/\M[ka]? =some (dP pa)/\FW ε γ X C/\1<=nq X C/\lR hand υ/\aQ (kR γ υ) pa/\i8 ε γ (bG (bf γ hand p') pa) tb/\fm γ (bG (bf γ hand p') pa)/\Λ ε γ tb pa=[]/\(∀(i:Nat) (r:Rw),γ[i]? =some r->Ι p i=if kindOf r=hand then Ι p' i else none)/\(∀(i:Nat) (r:Rw),γ[i]? =some r->kindOf r=hand->∃j:Nat,Ι p' i=some (j:Int)/\j<(Τ r).length)/\∀E,q (.bl true) (M++E)
def lu:Ε ["_law_share","_law_rows","_law_table_here","_law_plan_here","_law_answer_here","_law_k","_law_dues","_law_due_here"] ["_law_share","_law_rows","_law_table_here","_law_plan_here","_law_answer_here"] (ψ tL):=.of rfl
def CY(F:cZ K "_law_best" "_law_best" tL f fd)(E:Ev K mg w Cm){Mq:Addr}{Nx:FuncData}(nV:aw P w K mg base 2 "_law_due" ["_law_share","_law_row","_law_table_here","_law_door"] NZ Mq Nx):av P w K mg base (cC P w) 3 f fd ["_law_share","_law_rows","_law_table_here","_law_plan_here","_law_answer_here"] (cW K HR):=by
 refine F.dR lu (λds M q x h=>?_) (λbz A outer s H E' hr=>⟨_,(η (gf (bY E.bM (ι (bP E.br (Ρ (jv 1) θ)) θ aY)) (ai (i:=5) lu.nd rfl (Or.inl rfl)) aI (η (ω 6 lu.nd (j3 (ι (aa nV hr ξ (Ρ (jv 0) (ι (Ζ (jv 1) (jv 5)) (Ρ (jv 2) (ι (IW hr (jv 3) (jv 5)) θ aY)) aZ))) θ aY)))
   (η (iN (ax (Ql hr (jv 5) (jv 4)) (μ (eT (eY (jv 6) (ι (aa nV hr ξ (Ρ (jv 0) (ι (Ζ (jv 1) (jv 5)) (Ρ (jv 2) (ι (gh hr (jv 4) (jv 5)) θ aZ)) aZ))) θ aY)))) Ο))
   (μ (c8 (bC (jv 6)) (ai (i:=7) lu.nd rfl (Or.inl rfl)) aI (μ (ax (lJ hr (au (Ζ (jv 7) ο) (Ζ (Ζ (jv 2) (jv 5)) ο)) (au (Ζ (Ζ (jv 2) (jv 5)) ο) (Ζ (jv 7) ο))) (μ (Γ BF)) Ο)))))))
   (μ (Γ BF))),λds M q x h=>?_⟩)
 ·have⟨ε,γ,kt,kp,ka,tb,hand,υ,p,p',pa,X,C,rfl,_⟩:=h;rfl
 ·have⟨ε,γ,kt,kp,ka,tb,hand,υ,p,p',pa,X,C,rfl,ht,hkp,A7,fw,b1,hs,fa,wt,dk,be,hp,JX,h⟩:=h;have tk:=wt.ok fw dk b1;have qj:=fw.pl.len;have s0:=fw.sh.1;walk_at "vc";refine pU ?_;refine⟨(),?_⟩;refine cz (λzs ρ' M'=>M <+:M'/\∃(i m:Nat) (o5 o6 o7:Option Dt),zs=dN (i:Int) m/\i+m=γ.length/\ρ'=[some (Ξ ε),some (.lst (γ.map az)),some (.loc kt),some (.loc kp),some (.loc ka),o5,o6,o7]) (λx zs ρ' M' hj e9=>?_) (λρ' M' hj=>?_) _ _ _ ⟨List.prefix_refl _,0,γ.length,none,none,none,rfl,(),rfl⟩
  ·have⟨⟨E1,rfl⟩,i,m,o5,o6,o7,ex,im,rfl⟩:=hj;have⟨m',rfl,rfl,rfl⟩:=bV ex;have il:i<γ.length:=()
   have hi:γ[i]? =some γ[i]:=aaa il;generalize γ[i]=r at *
   have ht1:∀E2:Ms,(M++E1++E2)[kt]? =some (.lst (tb.map Ξ)):=λE2=>aj (aj ht);have yB:(M++E1)[kp]? =some (dP p):=aj hkp;have⟨rt,t2,t1,at_⟩:=zZ tk (t:=(i:Int)) ();rw[abS]at rt t2 t1 at_;have⟨a1,a2⟩:=wC (p:=p') fw hs fa hi;obtain⟨dd,R4⟩:∃dd,dd=((aH (kP p) (vP p) (Sum.inl (i:Int))).getD Dt.bj):=⟨_,rfl⟩;have hd:Β (kindOf r)=true->(∃j:Nat,dd= .int (j:Int)/\Ι (bG (bf γ hand p') pa) i=some (j:Int)/\j<(Τ r).length)\/(dd= .bj/\∃N9,aQ (kR γ (kindOf r)) N9/\Λ ε γ tb N9=[]/\Ι (bG (bf γ hand p') pa) i=Ι N9 i):=λhh=>by
    rcases hs.two _ hh with e| e
    ·have⟨j,gj,jl⟩:=JX i r hi e;refine .inl ⟨j,?_,?_,jl⟩
     ·rw[R4,kE,hp i r hi,aax e,gj];rfl
     ·rw[a1 e,gj];rfl
    ·refine .inr ⟨?_,pa,by rw[e];exact fa,be,a2 e⟩;rw[R4,kE,hp i r hi,aaw (λz=>hs.ne (z.symm.trans e))];rfl
   walk_at "vc";dsimp only[Oe,Oz];walk_at "vc";refine pb hi ?_;refine⟨⟨kp,_,_,rfl,yB⟩,kp,_,_,Sum.inl (i:Int),rfl,yB,rfl,?_⟩;rw[<-R4];have⟨rl,df⟩:=Ec (dd:=dd) wt fw dk tk hi hd;refine⟨ε,r,tb,γ.length,kt,dd,rfl,aj ht,tk,rl,s0,df λu u0 u1 u2 ev=>?_⟩;refine⟨@_,?_⟩;have kdl:(M++E1).length=M.length+E1.length:=aah;have SO:∀E2:Ms,(M++E1++E2)[ka]? =some (dP pa):=λE2=>aj (aj A7);refine⟨λρ M2=>∃(us:List Fr),M2=M++E1++[.lst (us.map Ξ)]/\(∀u∈us,0<u.2/\dQ u.1/\dQ u.2/\val u=val (tb.getD i (0,1)))/\ρ=[some (Ξ ε),some (.lst (γ.map az)),some (.loc kt),some (.loc kp),some (.loc ka),some (.int (i:Int)),some (.loc (M++E1).length),o7],?_,?_⟩
   ·have one:∀u'∈[u],0<u'.2/\dQ u'.1/\dQ u'.2/\val u'=val (tb.getD i (0,1)):=λu' hu=>by rw[aa2.mp hu];exact⟨u0,u1,u2,ev⟩
    walk_at "vc";refine⟨ka,_,_,Sum.inl (i:Int),rfl,SO _,rfl,?_⟩;rw[Cq];refine⟨λz=>?_,λ_=>⟨[u],rfl,one,rfl⟩⟩;have⟨j,gj⟩:=abz.mp z;have kr:kindOf r=υ:=by
     by_cases e:kindOf r=υ
     ·exact e
     ·rw[(cx (i:=i) fw hs.h2 fa).2 r hi e]at gj;cases gj
    have hd2:Β (kindOf r)=true->(∃j':Nat,Dt.int j= .int (j':Int)/\Ι (bG (bf γ hand p') pa) i=some (j':Int)/\j'<(Τ r).length)\/(Dt.int j= .bj/\∃N9,aQ (kR γ (kindOf r)) N9/\Λ ε γ tb N9=[]/\Ι (bG (bf γ hand p') pa) i=Ι N9 i):=λhh=>by
     cases r with
     |fin q0=>exact aaL hh (by show¬Β (Str.ofString "end")=true;decide)
     |τ k0 ds=>
      have kr:k0=υ:=kr;subst kr;have⟨j',Vk,jl⟩:=(cx (i:=i) fw hs.h2 fa).1 ds hi;rw[Vk]at gj;cases gj;exact .inl ⟨j',rfl,by rw[a2 rfl,Vk],jl⟩
    have⟨rl2,df2⟩:=Ec wt fw dk tk hi hd2;have gd:aH (kP pa) (vP pa) (Sum.inl (i:Int))=some (.int j):=by rw[kE,gj];rfl
    dsimp only[OP,JD];walk_at "vc";refine⟨⟨(M++E1).length,_,rfl,aE⟩,?_⟩;refine pb hi ?_;refine⟨ka,_,_,Sum.inl (i:Int),_,rfl,SO _,rfl,gd,?_⟩;refine⟨ε,r,tb,γ.length,kt,_,rfl,ht1 _,tk,rl2,s0,df2 λv v0 v1 v2 e2=>?_⟩;refine⟨(M++E1).length,_,_,rfl,rfl,aE,by show 1<sizeLine;decide,[u,v],?_,λu' hu=>?_,rfl⟩
    ·rw[de];rfl
    ·rcases aaK.mp hu with e| e
     ·exact one u' (by rw[e];exact aa2.mpr rfl)
     ·rw[aa2.mp e];exact⟨v0,v1,v2,e2⟩
   rintro ρ2 M2 ⟨us,rfl,hus,rfl⟩;have rd:∀(q:DQ),q (Ξ (tb.getD i (0,1))) (M++E1++[.lst (us.map Ξ)])->cE (.loc kt) (.int (i:Int)) (M++E1++[.lst (us.map Ξ)]) q:=λq hq=>Θ (d:=.loc kt) (kM (ht1 _)) at_ hq;dsimp only[qe,fc];walk_at "vc";rw[Ay aE];refine bK (λzs ρ' M'=>M'=M++E1++[.lst (us.map Ξ)]/\∃(rest:List Fr) (o8:Option Dt),zs=rest.map Ξ/\(∀u∈rest,u∈us)/\ρ'=[some (Ξ ε),some (.lst (γ.map az)),some (.loc kt),some (.loc kp),some (.loc ka),some (.int (i:Int)),some (.loc (M++E1).length),o8]) (λzs ρ' M' hj=>by have⟨rfl,_⟩:=hj;exact aE) (λx zs ρ' M' hj nx2=>?_) (λρ' M' hj=>?_) _ _ _ ⟨rfl,us,o7,rfl,λ_ h=>h,rfl⟩
   ·have⟨rfl,rest,o8,ex,fV,rfl⟩:=hj;cases rest with
    |nil=>cases ex
    |cons v rest=>
     cases ex;have⟨v0,v1,v2,e2⟩:=hus v (fV v aae);generalize tb.getD i (0,1)=t at *
     walk_at "vc";refine(jS ?_:cE (Ξ v) (.int 0) _ _);refine rd _ ?_;refine(gZ ?_:cE (Ξ t) (.int 1) _ _);refine⟨⟨v1,bg t2⟩,?_⟩;refine rd _ ?_;refine(jS ?_:cE (Ξ t) (.int 0) _ _);refine(gZ ?_:cE (Ξ v) (.int 1) _ _);refine⟨⟨bg t1,v2⟩,λz=>?_,λ_=>nx2 _ _ ⟨rfl,rest,_,rfl,λy hy=>fV y (aad _ hy),rfl⟩⟩;have z:(!decide (v.1*t.2=t.1*v.2))=true:=z;rw[aaD (Jg v0 rt.pos e2)]at z;exact nomatch z
   ·have⟨rfl,rest,o8,ex,fV,rfl⟩:=hj;exact e9 _ _ ⟨by rw[abb];exact List.prefix_append _ _,i+1,m',_,_,_,by rw[abN];rfl,(),rfl⟩
  ·have⟨⟨E1,rfl⟩,i,m,o5,o6,o7,ex,im,rfl⟩:=hj;exact h E1
def zd{M:Ms}:∀rs:List Rw,Paired (jX M) (rs.map az) rs
 |[]=>.nil
 |r::rs=>.cons (Mu _ r) (zd rs)
def Iy{q:DQ}{A:Addr}(h:q (aK A ε γ) M):sj M q (.loc M.length) ((M++[MO.ins A [] []]).set M.length (.ins A ["kept_share","kept_rows"] [Ξ ε,.lst (γ.map az)])):=by rw[de];exact mS (d':=aK A ε γ) (.YY (Nat.le_refl _) (by simp) (.cons (.old (oW ε)) (.cons (.old (r6 γ)) .nil))) h
def Kl(o:zh γ hand p):∀i,i<γ.length->ft γ (ya hand p) i=true:=λi il=>by
 have hi:γ[i]? =some γ[i]:=aaa il;generalize γ[i]=r at *
 unfold ft;rw[hi];show jP (ya hand p) i r=true;unfold jP ya;by_cases e:kindOf r=hand
 ·rw[aax e];exact xj o hi e
 ·rw[aaw e]
section
variable{p' pa KG p1 p2:Pl}{LP:List Fr}
def Mx(fw:FW ε γ X C)(hs:lR hand υ)(fa:aQ (kR γ υ) pa)(dk:fm γ (bG (bf γ hand p') pa))(ag:∀(i:Nat) (r:Rw),γ[i]? =some r->kindOf r=hand->Ι p' i=Ι p i)(q1:bt p1 p2 hand=some p)(q2:bt p1 p2 υ=some pa)(il:i<γ.length):Ι (bG (bf γ hand p') pa) i=Ι (fi γ (bt p1 p2) γ.length) i:=by
 have hi:γ[i]? =some γ[i]:=aaa il;generalize γ[i]=r at *
 have⟨a1,a2⟩:=wC (p:=p') fw hs fa hi;rw[NA hi];cases hk:Β (kindOf r) with
 |false=>rw[dk.Hb i r hi hk,yW hk];rfl
 |true=>
  rcases hs.two _ hk with e| e
  ·rw[a1 e,e,q1,ag i r hi e];rfl
  ·have⟨j,gj,_⟩:=Ae fw hs.h2 fa i r hi e;rw[a2 e,e,q2,gj];show _=some ((Ι pa i).getD 0);rw[gj];rfl
def KD(fw:FW ε γ X C)(b1:1<=nq X C)(hs:lR hand υ)(fa:aQ (kR γ υ) pa)(IS:aQ (kR γ υ) KG)(Wq:fm γ (bG (bf γ hand p') KG))(wt:i8 ε γ (bG (bf γ hand p') pa) tb)(IX:i8 ε γ (bG (bf γ hand p') KG) LP)(be:Λ ε γ tb pa=[]):∀i,i<γ.length->h_ υ*val (LP.getD i (0,1))<=h_ υ*val (tb.getD i (0,1)):=by
 have hp:∀t,t<γ.length->0<(tb.getD t (0,1)).2:=λt ht=>(wt.tab.red t ht).pos;refine yS fw hs.h2 Wq b1 wt IX λi il=>?_;have hi:γ[i]? =some γ[i]:=aaa il;generalize γ[i]=r at *
 have⟨a1,a2⟩:=wC (p:=p') fw hs fa hi;have⟨c1,c2⟩:=wC (p:=p') fw hs IS hi;by_cases e:kindOf r=υ
 ·right;cases r with
  |fin q=>exact aaL (show Β (Str.ofString "end")=true by rw[<-hs.h2,<-e];rfl) @_
  |τ k ds=>
   have e':k=υ:=e;subst e';have⟨j,gj,jl⟩:=(cx (i:=i) fw hs.h2 fa).1 ds hi;have⟨j',Vk,Qw⟩:=(cx (i:=i) fw hs.h2 IS).1 ds hi;exact⟨ds,j,j',hi,by rw[a2 rfl,gj],by rw[c2 rfl,Vk],Qw,sR fw hs.h2 fa hp be hi gj⟩
 ·left;cases hk:Β (kindOf r) with
  |true=>
   have e1:=(hs.two _ hk).resolve_right e;rw[a1 e1,c1 e1]
  |false=>
   have z1:=d9 (i:=(i:Int)) (p:=bf γ hand p') (bN fa);have z2:=d9 (i:=(i:Int)) (p:=bf γ hand p') (bN IS);rw[z1,z2,(cx (i:=i) fw hs.h2 fa).2 r hi e,(cx (i:=i) fw hs.h2 IS).2 r hi e]
def Hj(fw:FW ε γ X C)(b1:1<=nq X C)(hs:lR hand υ)(fa:aQ (kR γ υ) pa)(IS:aQ (kR γ υ) KG)(dk:fm γ (bG (bf γ hand p') pa))(Wq:fm γ (bG (bf γ hand p') KG))(wt:i8 ε γ (bG (bf γ hand p') pa) tb)(IX:i8 ε γ (bG (bf γ hand p') KG) LP)(be:Λ ε γ tb pa=[])(Zg:Λ ε γ LP KG=[]):LP=tb:=by
 refine abq (by rw[wt.tab.len,IX.tab.len]) λi h1 h2=>?_;have il:i<γ.length:=by have:=IX.tab.len;omega
 have a:=KD fw b1 hs fa IS Wq wt IX be i il;have b:=KD fw b1 hs IS fa dk IX wt Zg i il;have:=yA (IX.tab.red i il) (wt.tab.red i il) (Cs (Rat.le_antisymm a b));rw[aab,aab,aaa h1,aaa h2]at this;exact this
end
def Mt(n:Int):∃hand υ:Str,lF [Dt.str "one",Dt.str "other"] (n%2)=some (.str hand)/\lF [Dt.str "other",Dt.str "one"] (n%2)=some (.str υ)/\(hand="one"/\υ="other"\/hand="other"/\υ="one"):=by
 rcases(show n%2=0\/n%2=1 by omega) with e| e
 ·rw[e];exact⟨"one","other",rfl,rfl,.inl ⟨rfl,rfl⟩⟩
 ·rw[e];exact⟨"other","one",rfl,rfl,.inr ⟨rfl,rfl⟩⟩
def gx:Ε ["_law_script","_law_share","_law_rows","_law_floor_here","_law_hand","_law_rival","_law_plan_here","_law_handed","_law_k","_law_kept","_law_found","_law_answer_here","_law_table_here","_law_pair","_law_held","_law_again"] ["_law_script"] (ψ Qu):=.of rfl
def P1(F:cZ K "law" "law" Qu f fd)(E:Ev K mg w Cm){Fi:Addr}{Gu:FuncData}(mm:aw P w K mg base 5 "_law_floor" ["_law_script"] Dk Fi Gu){CF:Addr}{By:FuncData}(kF:Rk P w K mg base 5 "Floor" Cm ["self","share","rows"] (Ol Cm) CF By){J':Addr}{HH:FuncData}(oU:aw P w K mg base 1 "_law_copy" ["_law_rows"] Jq J' HH)(cw:aw P w K mg base 1 "_law_at" ["_law_script","_law_k"] V8 q5 rX){JO:Addr}{Hr:FuncData}(ot:aw P w K mg base 2 "_law_plan" ["_law_script","_law_rows","_law_hand","_law_at_here"] IH JO Hr){Jy:Addr}{K_:FuncData}(lB:aw P w K mg base 9 "against" ["floor","hand","plan"] (zA Cm) Jy K_){Gr:Addr}{E6:FuncData}(mv:aw P w K mg base 2 "_law_table" ["_law_table_here","_law_many"] ID Gr E6){BS:Addr}{B1:FuncData}(ip:aw P w K mg base 2 "_law_answer" ["_law_plan_here","_law_rows","_law_hand"] NW BS B1){Jl:Addr}{IT:FuncData}(pM:aw P w K mg base 3 "_law_best" ["_law_share","_law_rows","_law_table_here","_law_plan_here","_law_answer_here"] HR Jl IT){Fy:Addr}{Fz:FuncData}(mF:aw P w K mg base 8 "worths_of" ["floor","plan_one","plan_other"] (EE Cm) Fy Fz):av P w K mg base (cC P w) 10 f fd ["_law_script"] (cW K O5):=by
 refine F.dR gx (λds M q x h=>?_) (λbz A outer s H E' hr=>⟨_,(η (Es (cU (aa mm hr ξ (Ρ (jv 0) θ))) (mQ rfl (b8 (ai (i:=1) gx.nd rfl (Or.inl rfl)) (b8 (ai (i:=2) gx.nd rfl (Or.inl rfl)) jJ))))
   (η (ω 3 gx.nd (cU (Qj kF hr ξ (Ρ (jv 1) (ι (aa oU hr ξ (Ρ (jv 2) θ)) θ aY)))))
   (η (ω 4 gx.nd (Ζ (dH 3 (d:=.lst [.str "one",.str "other"]) (by rfl)) (bu (aa cw hr ξ (Ρ (jv 0) (ι ο θ da))) ο)))
   (η (ω 5 gx.nd (Ζ (dH 3 (d:=.lst [.str "other",.str "one"]) (by rfl)) (bu (aa cw hr ξ (Ρ (jv 0) (ι ο θ da))) ο)))
   (η (ω 6 gx.nd (aa ot hr ξ (Ρ (jv 0) (Ρ (jv 2) (Ρ (jv 4) (ι ο θ da))))))
   (η (ω 7 gx.nd (wu E.kK (Ρ (jv 6) θ)))
   (η (iN (ax (cQ hr (bu (aa cw hr ξ (Ρ (jv 0) (ι ο θ da))) ο) ο) (η (gf (bY E.bM (ι (bP E.br (Ρ (jv 2) θ)) θ aY)) (ai (i:=8) gx.nd rfl (Or.inl rfl)) aI (μ (ax (pG hr (jv 8) (jv 6)) (μ (jD hr (jv 7) (jv 8) (sP (bu (bu (au (aa cw hr ξ (Ρ (jv 0) (ι ο θ da))) (ck ο (au (jv 8) (jv 8)))) ο) ο) ο))) Ο)))
   (μ (jD hr (jv 7) (sP (OE ο) (bu (aa cw hr ξ (Ρ (jv 0) (ι ο θ da))) ο)) (bu (bu (au (aa cw hr ξ (Ρ (jv 0) (ι ο θ da))) ο) ο) ο)))) Ο))
   (η (ω 9 gx.nd (wu E.kK (Ρ (jv 7) θ)))
   (η (ω 10 gx.nd (aa lB hr ξ (Ρ (jv 3) (Ρ (jv 4) (Ρ (jv 7) θ)))))
   (η (ax (JW.jt (gw (eU (bH (pj K E.bq (Ρ (jv 10) (Ρ (Cc E.lh jZ) θ))))) (gw (lJ hr (bP E.br (Ρ (jv 10) θ)) ο) (gR (O3 1 hr (jv 7) (jv 9)))))) (μ (Γ BF)) Ο)
   (η (Es (jv 10) (mQ rfl (b8 (ai (i:=11) gx.nd rfl (Or.inl rfl)) (b8 (ai (i:=12) gx.nd rfl (Or.inl rfl)) jJ))))
   (η (ax (JW.jt (gw (eU (bH (aa ip hr ξ (Ρ (jv 11) (Ρ (jv 2) (Ρ (jv 5) θ)))))) (gR (eU (bH (aa mv hr ξ (Ρ (jv 12) (ι (bP E.br (Ρ (jv 2) θ)) θ aY)))))))) (μ (Γ BF)) Ο)
   (η (ax (eU (bH (aa pM hr ξ (Ρ (jv 1) (Ρ (jv 2) (Ρ (jv 12) (Ρ (jv 6) (Ρ (jv 11) θ)))))))) (μ (Γ BF)) Ο)
   (η (ω 13 gx.nd (HM (jv 4) (jv 6) (jv 5) (wu E.kK (Ρ (jv 11) θ))))
   (η (ω 14 gx.nd (cU (wW E.kO (Ρ (jv 12) θ))))
   (η (ax (PJ 2 hr (aa mF hr ξ (Ρ (jv 3) (ι (gh hr (jv 13) ia) (ι (gh hr (jv 13) ia) θ aZ) aZ))) (jv 14)) (μ (Γ BF)) Ο)
   (η (jD hr (jv 11) ο ο)
   (η (eT (eY (jv 12) (ι (eI (ι ο (ι ο θ da) da)) θ Ek)))
   (η (ki (jv 12) ο (eI (ι (ck (Ζ (Ζ (jv 12) ο) ο) ο) (ι ο θ da) bL)))
   (η (ω 15 gx.nd (aa lB hr ξ (Ρ (jv 3) (Ρ (jv 4) (Ρ (jv 7) θ)))))
   (μ (Γ (gc (pj K E.bq (Ρ (jv 15) (Ρ (Cc E.lh jZ) θ))) (gc (aa ip hr ξ (ι (Ζ (jv 15) ο) (Ρ (jv 2) (Ρ (jv 5) θ)) aZ)) (kG (R6 2 hr (Ζ (jv 15) ο) (jv 14))))))))))))))))))))))))))),λds M q x h=>?_⟩)
 ·have⟨ns,rfl,_⟩:=h;rfl
 ·have⟨ns,rfl,nl,hq⟩:=h;refine⟨ns,rfl,nl,λε γ cK lf=>mS (d':=.tup [Ξ ε,.lst (γ.map az)]) (.tup (.cons (.old (oW ε)) (.cons (.JZ (Nat.le_refl _) (by simp) (jA.old (r6 γ))) .nil))) ?_⟩;have fw:=lf.fw;have⟨me,x'⟩:=lf.sz;have b1:1<=nq (xF cK) (cF cK):=by cases cK <;> decide
  have qj:=lf.BC;have n1:=lf.n1;have ro:∀r∈γ,gu r/\fL r γ.length=true:=λr hr=>(lf.row r hr).1.1;have dr:∀k ds,Rw.τ k ds∈γ->1<=ds.length/\ds.length<=6:=λk ds hm=>⟨(dD fw.pl hm).l1,(dD fw.pl hm).l6⟩;refine⟨γ,rfl,qj,λr hr=>(ro r hr).1,?_⟩;refine⟨M.length,.lst (γ.map az),ε,γ.map az,γ,λ_=>True,rfl,aE,rfl,zd γ,lf.sh,n1,qj,ro,rfl,Iy ?_⟩;refine⟨ns,14,rfl,nl,@_,@_,fun n ⟨_,en⟩=>⟨@_,?_⟩⟩;have⟨hand,υ,g1,g2,fV⟩:=Mt n;have hs:=iY fV;refine(Θ (d:=.lst [.str "one",.str "other"]) rfl g1 ?_:cE (.lst [.str "one",.str "other"]) (.int (n%2)) _ _);refine⟨ns,14,rfl,nl,@_,@_,fun n' ⟨_,en'⟩=>⟨@_,?_⟩⟩;obtain rfl:n'=n:=en'.trans en.symm;refine(Θ (d:=.lst [.str "other",.str "one"]) rfl g2 ?_:cE (.lst [.str "other",.str "one"]) (.int (n'%2)) _ _);refine⟨ns,γ,hand,15,rfl,nl,@_,@_,qj,hs.h1,dr,λp Mr=>?_⟩;refine⟨M.length,_,_,rfl,aE,?_⟩;have lp:(M++[dP p]).length=M.length+1:=by simp
  have atp:∀(m:MO) (E:Ms),(M++[dP p]++[m]++E)[M.length]? =some (dP p):=λm E=>aj (aj aE);have YO:∀(m:MO) (E:Ms),(M++[dP p]++[m]++E)[M.length+1]? =some m:=λm E=>aj (by rw[<-lp];exact aE);have R5:∀(m m':MO),(M++[dP p]++[m]).set (M.length+1) m'=M++[dP p]++[m']:=λm m'=>by rw[<-lp];exact de
  rw[lp];refine⟨λρ M'=>∃(p':Pl) (o8:Option Dt),M'=M++[dP p]++[dP p']/\qc p'/\(∀(i:Nat) (r:Rw),γ[i]? =some r->kindOf r=hand->Ι p' i=Ι p i)/\p'.length<=100/\ρ=[some (.iA ns),some (Ξ ε),some (.lst (γ.map az)),some (aK Cm ε γ),some (.str hand),some (.str υ),some (.loc M.length),some (.loc (M.length+1)),o8,none,none,none,none,none,none,none],?_,?_⟩
  ·have X5:∃(p':Pl) (o8:Option Dt),M++[dP p]++[dP p]=M++[dP p]++[dP p']/\qc p'/\(∀(i:Nat) (r:Rw),γ[i]? =some r->kindOf r=hand->Ι p' i=Ι p i)/\p'.length<=100/\[some (.iA ns),some (Ξ ε),some (.lst (γ.map az)),some (aK Cm ε γ),some (.str hand),some (.str υ),some (.loc M.length),some (.loc (M.length+1)),none,none,none,none,none,none,none,none]=[some (.iA ns),some (Ξ ε),some (.lst (γ.map az)),some (aK Cm ε γ),some (.str hand),some (.str υ),some (.loc M.length),some (.loc (M.length+1)),o8,none,none,none,none,none,none,none]:=⟨p,none,rfl,Mr.nd,λ_ _ _ _=>rfl,by have:=Mr.len;omega,rfl⟩;walk_at "vc";refine⟨ns,16,rfl,nl,@_,@_,λn2 _=>⟨@_,λ_=>?_,λ_=>X5⟩⟩;refine pU ?_;refine⟨(),?_⟩;refine cz (λzs ρ' M'=>∃(i m:Nat) (p':Pl) (o8:Option Dt),zs=dN (i:Int) m/\i+m=γ.length/\M'=M++[dP p]++[dP p']/\qc p'/\(∀(i:Nat) (r:Rw),γ[i]? =some r->kindOf r=hand->Ι p' i=Ι p i)/\p'.length<=12+i/\ρ'=[some (.iA ns),some (Ξ ε),some (.lst (γ.map az)),some (aK Cm ε γ),some (.str hand),some (.str υ),some (.loc M.length),some (.loc (M.length+1)),o8,none,none,none,none,none,none,none]) (λx zs ρ' M' hj e9=>?_) (λρ' M' hj=>?_) _ _ _ ⟨0,γ.length,p,none,rfl,(),rfl,Mr.nd,λ_ _ _ _=>rfl,by have:=Mr.len;omega,rfl⟩
   ·have⟨i,m,p',o8,ex,im,rfl,nd,ag,pl,rfl⟩:=hj;have⟨m',rfl,rfl,rfl⟩:=bV ex;have i0:(0:Int)<=(i:Int):=()
    walk_at "vc";refine⟨M.length,_,_,Sum.inl (i:Int),rfl,by have:=atp (dP p') [];rwa[aa7]at this,rfl,?_⟩;rw[Cq];have nx:=λ(p2:Pl) (z1:qc p2) (z2:∀(i:Nat) (r:Rw),γ[i]? =some r->kindOf r=hand->Ι p2 i=Ι p i) (z3:p2.length<=12+(i+1))=>e9 [some (.iA ns),some (Ξ ε),some (.lst (γ.map az)),some (aK Cm ε γ),some (.str hand),some (.str υ),some (.loc M.length),some (.loc (M.length+1)),some (.int (i:Int)),none,none,none,none,none,none,none] (M++[dP p]++[dP p2]) ⟨i+1,m',p2,_,by rw[abN];rfl,(),rfl,z1,z2,z3,rfl⟩;have bi:dQ (i:Int):=bg (k:=40) ();have ii:(0:Int)<=(i:Int)*i/\(i:Int)*i<=12*12:=⟨abi i0 i0,abB () () i0 @_⟩;refine⟨λz=>?_,λ_=>nx p' nd ag ()⟩;dsimp only[lZ];walk_at "vc";refine⟨ns,16,rfl,nl,@_,@_,fun n3 ⟨hn3,_⟩=>⟨⟨bi,bi⟩,?_⟩⟩;dsimp only[qx];refine⟨⟨mL hn3,bg (k:=40) ()⟩,@_,@_,?_⟩;dsimp only[xS];refine⟨M.length+1,_,_,Sum.inl (i:Int),rfl,by have:=YO (dP p') [];rwa[List.append_nil]at this,rfl,by unfold kP;rw[List.length_map];omega,?_⟩;rw[p9 (v:=n3*(48271+(i:Int)*i)%65537%9-2),rM,R5];refine nx _ (Dd nd) (λi' r' qE e'=>?_) (by have:=xB (i:=(i:Int)) (v:=n3*(48271+(i:Int)*i)%65537%9-2) pl;omega);rw[k7,aaw,ag i' r' qE e'];intro z2;have z2:i'=i:=()
    subst z2;have⟨j,gj,_⟩:=Mr.has i' r' qE e';rw[gj]at z;cases z
   ·have⟨i,m,p',o8,ex,im,rfl,nd,ag,pl,rfl⟩:=hj;dsimp only[lZ];walk_at "vc";refine⟨ns,16,rfl,nl,@_,@_,fun n4 ⟨hn4,_⟩=>⟨⟨mL hn4,bg (k:=20) @_⟩,@_,@_,?_⟩⟩;dsimp only[Nd];refine⟨ns,16,rfl,nl,@_,@_,λn5 _=>⟨@_,?_⟩⟩;dsimp only[xS];refine⟨M.length+1,_,_,Sum.inl (-1-n5%13),rfl,by have:=YO (dP p') [];rwa[List.append_nil]at this,rfl,by unfold kP;rw[List.length_map];omega,?_⟩;rw[p9 (v:=n4*69621%65521%6),rM,R5];refine⟨_,_,rfl,Dd nd,λi' r' qE e'=>?_,by have:=xB (i:= -1-n5%13) (v:=n4*69621%65521%6) pl;omega,rfl⟩;rw[k7,aaw (),ag i' r' qE e']
  rintro ρ1 M1 ⟨p',o8,rfl,nd,ag,pl,rfl⟩;have UW:zh γ hand p':=λi r hi e=>by rw[ag i r hi e];exact Mr.has i r hi e
  have good:=Kl UW;have l2:(M++[dP p]++[dP p']).length=M.length+2:=by simp
  have l3:(M++[dP p]++[dP p']++[dP p']).length=M.length+3:=by simp
  have QI:(M++[dP p]++[dP p'])[M.length+1]? =some (dP p'):=by have:=YO (dP p') [];rwa[aa7]at this
  have atk:(M++[dP p]++[dP p']++[dP p'])[M.length+2]? =some (dP p'):=by rw[<-l2];exact aE
  dsimp only;walk_at "vc";refine⟨M.length+1,_,_,rfl,QI,?_⟩;rw[l2];refine⟨ε,γ,hand,υ,M.length+1,p',_,_,rfl,aj QI,fV,fw,me,x',b1,good,λpa tb E1 kt fa wt be V0 Pc=>?_⟩;have dk:fm γ (bG (bf γ hand p') pa):=C_ fw hs.h1 hs.h2 hs.ne hs.two good fa;have tok:=wt.ok fw dk b1;rw[show(MO.bX (kP p') (vP p'))=dP p' from rfl]at Pc V0⊢;rw[l3]at V0⊢;have hp:∀E:Ms,(M++[dP p]++[dP p']++[dP p']++E)[M.length]? =some (dP p):=λE=>by rw[abb];exact atp _ _
  have hh:∀E:Ms,(M++[dP p]++[dP p']++[dP p']++E)[M.length+1]? =some (dP p'):=λE=>aj (aj QI);have hk:∀E:Ms,(M++[dP p]++[dP p']++[dP p']++E)[M.length+2]? =some (dP p'):=λE=>aj atk;have ha:∀E:Ms,(M++[dP p]++[dP p']++[dP p']++[.bX [Sum.inr hand] [.loc (M.length+1)],dP (bf γ hand p'),dP pa]++E)[M.length+3+2]? =some (dP pa):=λE=>aj (by rw[<-l3,aao (),abQ];rfl);have hp:=hp ([.bX [Sum.inr hand] [.loc (M.length+1)],dP (bf γ hand p'),dP pa]++E1);have hh:=hh ([.bX [Sum.inr hand] [.loc (M.length+1)],dP (bf γ hand p'),dP pa]++E1);have hk:=hk ([.bX [Sum.inr hand] [.loc (M.length+1)],dP (bf γ hand p'),dP pa]++E1);have ha:=ha E1;rw[<-abb]at hp hh hk;generalize M++[dP p]++[dP p']++[dP p']++[MO.bX [Sum.inr hand] [.loc (M.length+1)],dP (bf γ hand p'),dP pa]++E1=S at *
  refine⟨_,_,_,_,true,rfl,rfl,rfl,pv,λz=>(nomatch z),λ_=>?_⟩;refine(ar (d:=.tup [.loc (M.length+3+2),.loc kt]) (xs:=[.loc (M.length+3+2),.loc kt]) rfl ?_:fB [.tup [.loc (M.length+3+2),.loc kt]] _ _);refine⟨λz=>(nomatch z),λ_=>?_⟩;refine⟨M.length+1,M.length+2,true,rfl,rfl,by have:=Sh (n:=0) hh hk;rwa[IY nd]at this,λz=>(nomatch z),λ_=>?_⟩;dsimp only[Oc];walk_at "vc";refine⟨_,ε,γ,υ,pa,_,_,rfl,ha,fw,hs.h2,fa,λz=>(nomatch z),λ_=>?_⟩;refine pU ?_;refine⟨.loc kt,tb,γ.length,_,rfl,J3 Pc,tok,λz=>(nomatch z),λ_=>?_⟩;refine⟨ε,γ,kt,M.length,M.length+3+2,tb,hand,υ,p,p',pa,_,_,rfl,Pc,hp,ha,fw,b1,hs,fa,wt,dk,be,λi r hi=>?_,UW,λE2=>⟨λz=>(nomatch z),λ_=>?_⟩⟩
  ·by_cases e:kindOf r=hand
   ·rw[aax e,ag i r hi e]
   ·rw[aaw e];cases g:Ι p i with
    |none=>rfl
    |some v=>
     have⟨j,r',ej,ux,zq⟩:=Mr.only i v g;obtain rfl:i=j:=()
     rw[hi]at ux;cases ux;exact aaL zq e
  have hp:=aj (E:=E2) hp;have hh:=aj (E:=E2) hh;have ha:=aj (E:=E2) ha;have ht:=aj (E:=E2) Pc;generalize S++E2=S2 at *
  dsimp only[Ky];walk_at "vc";refine⟨_,_,_,rfl,ha,Sum.inr hand,Sum.inr υ,rfl,rfl,λz=>hs.ne (Sum.inr.inj z),?_⟩;rw[show(MO.bX (kP pa) (vP pa))=dP pa from rfl];have hp:=aj (E:=[.bX [Sum.inr hand,Sum.inr υ] [.loc M.length,.loc S2.length]]) (aj (E:=[dP pa]) hp);have hh:=aj (E:=[.bX [Sum.inr hand,Sum.inr υ] [.loc M.length,.loc S2.length]]) (aj (E:=[dP pa]) hh);have ha:=aj (E:=[.bX [Sum.inr hand,Sum.inr υ] [.loc M.length,.loc S2.length]]) (aj (E:=[dP pa]) ha);have ht:=aj (E:=[.bX [Sum.inr hand,Sum.inr υ] [.loc M.length,.loc S2.length]]) (aj (E:=[dP pa]) ht);have hd:=aj (E:=[.bX [Sum.inr hand,Sum.inr υ] [.loc M.length,.loc S2.length]]) (aE (M:=S2) (o:=dP pa));have hw:(S2++[dP pa]++[.bX [Sum.inr hand,Sum.inr υ] [.loc M.length,.loc S2.length]])[(S2++[dP pa]).length]? =some (.bX [Sum.inr hand,Sum.inr υ] [.loc M.length,.loc S2.length]):=aE;generalize (S2++[dP pa]).length=kw at *
  generalize S2++[dP pa]++[.bX [Sum.inr hand,Sum.inr υ] [.loc M.length,.loc S2.length]]=S3 at *
  generalize S2.length=kd at *
  refine JC ht (xm _) ?_;obtain⟨k1,k2,p1,p2,e1,e2,f1,f2,o1,o2,q1,q2⟩:∃(k1 k2:Nat) (p1 p2:Pl),aH [Sum.inr hand,Sum.inr υ] [.loc M.length,.loc kd] (Sum.inr "one")=some (.loc k1)/\aH [Sum.inr hand,Sum.inr υ] [.loc M.length,.loc kd] (Sum.inr "other")=some (.loc k2)/\S3[k1]? =some (dP p1)/\S3[k2]? =some (dP p2)/\zh γ "one" p1/\zh γ "other" p2/\bt p1 p2 hand=some p/\bt p1 p2 υ=some pa:=by
   have hpa:=Ae fw hs.h2 fa;rcases fV with ⟨rfl,rfl⟩| ⟨rfl,rfl⟩
   ·exact⟨M.length,kd,p,pa,rfl,rfl,hp,hd,Mr.has,hpa,rfl,rfl⟩
   ·exact⟨kd,M.length,pa,p,rfl,rfl,hd,hp,hpa,Mr.has,rfl,rfl⟩
  refine⟨kw,_,_,Sum.inr "one",_,rfl,hw,rfl,e1,?_⟩;refine⟨kw,_,_,Sum.inr "other",_,rfl,hw,rfl,e2,?_⟩;refine⟨ε,γ,k1,k2,p1,p2,_,_,rfl,f1,f2,fw,me,x',IU o1 o2,λLP IX m1 m2=>?_⟩;obtain rfl:tb=LP:=((fw.sys dk b1).uniq (IX.ext λi il=>Mx fw hs fa dk ag q1 q2 il).tab wt.tab).symm;have h3:(S3++[m1,m2,MO.lst (tb.map Ξ)])[S3.length+2]? =some (MO.lst (tb.map Ξ)):=by rw[aao (),abQ];rfl
  refine⟨true,.inr ⟨_,yi (ir h3)⟩,.inr ⟨_,rfl⟩,DN (yi (ir h3)) rfl,λz=>(nomatch z),λ_=>?_⟩;have hh:=aj (E:=[m1,m2,MO.lst (tb.map Ξ)]) hh;have ha:=aj (E:=[m1,m2,MO.lst (tb.map Ξ)]) ha;have ht:=aj (E:=[m1,m2,MO.lst (tb.map Ξ)]) ht;generalize S3++[m1,m2,MO.lst (tb.map Ξ)]=S4 at *
  have sl:∀{z:Nat},z<=1000->z<sizeLine:=λh=>aaX h @_;have tl:0<tb.length:=by rw[tok.len];omega
  have pal:pa.length<=12:=by have:=m_ fa;have:=aca (λr=>decide (kindOf r=υ)) γ;omega
  have nat:M.length+3+2≠kt:=λz=>by rw[z,ht]at ha;cases ha
  dsimp only[lZ];walk_at "vc";refine⟨_,_,_,Sum.inl 0,rfl,ha,rfl,by unfold kP;rw[List.length_map];omega,?_⟩;have hh:=hh;have Zf:∀m:MO,(S4.set (M.length+3+2) m)[M.length+1]? =some (dP p'):=λm=>by rw[aa9 ()];exact hh
  have U7:∀m:MO,(S4.set (M.length+3+2) m)[kt]? =some (.lst (tb.map Ξ)):=λm=>by rw[aa9 nat];exact ht
  have Zf:=Zf (MO.bX (eV (kP pa) (Sum.inl 0)) (dM (kP pa) (Sum.inl 0) (vP pa) (Dt.int 5)));have U7:=U7 (MO.bX (eV (kP pa) (Sum.inl 0)) (dM (kP pa) (Sum.inl 0) (vP pa) (Dt.int 5)));generalize S4.set (M.length+3+2) (MO.bX (eV (kP pa) (Sum.inl 0)) (dM (kP pa) (Sum.inl 0) (vP pa) (Dt.int 5)))=S5 at *
  dsimp only[OP];walk_at "vc";refine⟨⟨kt,_,rfl,U7⟩,@_,kt,_,_,rfl,rfl,U7,sl (by rw[aac,tok.len];omega),?_⟩;have ZI:=(aaf.mp U7).1;have ht6:(S5.set kt (.lst (tb.map Ξ++[.tup [.int 1,.int 2]])))[kt]? =some (.lst (tb.map Ξ++[.tup [.int 1,.int 2]])):=aa3 ZI;have hh6:(S5.set kt (.lst (tb.map Ξ++[.tup [.int 1,.int 2]])))[M.length+1]? =some (dP p'):=by rw[aa9 ()];exact Zf
  generalize S5.set kt (.lst (tb.map Ξ++[.tup [.int 1,.int 2]]))=S6 at *
  dsimp only[sW];walk_at "vc";have at0:lF (tb.map Ξ++[Dt.tup [.int 1,.int 2]]) ((0:Nat):Int)=some (Ξ tb[0]):=Ν (by rw[aas (by rw[aac];exact tl),aaq,aaa tl];rfl);refine(Θ (d:=.loc kt) (kM ht6) at0 ?_:cE (.loc kt) (.int ((0:Nat):Int)) _ _);refine jS ?_;dsimp only[qx];refine⟨@_,?_⟩;refine⟨kt,0,_,0,rfl,rfl,ht6,by rw[aah,aac];exact rQ (show 0<tb.length+1 by omega),?_⟩;have Wv:∀m:MO,(S6.set kt m)[M.length+1]? =some (dP p'):=λm=>by rw[aa9 ()];exact hh6
  have Wv:=Wv (.lst ((tb.map Ξ++[Dt.tup [.int 1,.int 2]]).set 0 (.tup [.int (tb[0].1+1),.int 3])));generalize S6.set kt (.lst ((tb.map Ξ++[Dt.tup [.int 1,.int 2]]).set 0 (.tup [.int (tb[0].1+1),.int 3])))=S7 at *
  refine⟨ε,γ,hand,υ,M.length+1,p',_,_,rfl,Wv,fV,fw,me,x',b1,good,λKG LP E3 VP IS IX Zg abx S9=>?_⟩;obtain rfl:tb=LP:=(Hj fw b1 hs fa IS dk (C_ fw hs.h1 hs.h2 hs.ne hs.two good IS) wt IX be Zg).symm;have ha2:(S7++[MO.bX [Sum.inr hand] [.loc (M.length+1)],dP (bf γ hand p'),dP KG]++E3)[S7.length+2]? =some (dP KG):=aj (by rw[aao (),abQ];rfl);refine⟨_,_,_,_,true,rfl,rfl,rfl,pv,λ_=>?_,λz=>(nomatch z)⟩;refine(Θ (d:=.tup [.loc (S7.length+2),.loc VP]) rfl bw ?_:cE (.tup [.loc (S7.length+2),.loc VP]) (.int 0) _ _);refine⟨_,ε,γ,υ,KG,_,_,rfl,ha2,fw,hs.h2,IS,λ_=>?_,λz=>(nomatch z)⟩;refine(Θ (d:=.tup [.loc (S7.length+2),.loc VP]) rfl (Ν (j:=1) rfl) ?_:cE (.tup [.loc (S7.length+2),.loc VP]) (.int 1) _ _);exact⟨true,.inr ⟨_,yi (ir S9)⟩,.inr ⟨_,rfl⟩,DN (yi (ir S9)) rfl,hq _⟩
structure FT(K:fI)(f:Addr)(x:Str)(st:Stmt):Prop where
 a:PySem.W.nsIn K mainGlobals x=some (some (.ref f))
 e:∃fd,cZ K x x st f fd
structure FM(K:fI)(C f:Addr)(m x:Str)(st:Stmt):Prop where
 a:PySem.W.findIn K (.ref C) m=some (some (.ref f))
 i:PySem.W.isFn K (.ref f)=true
 e:∃fd,cZ K m x st f fd
section
variable{K:fI}{C:Addr}{m x:Str}{st:Stmt}{oc:Value}{od an:Option Addr}{JB:Array (Option Value)}{kV doc pm bz ct:Value}
def FT.of(a:PySem.W.nsIn K mainGlobals x=some (some (.ref f)))(l:K.lookup f=some ⟨oc,od,.func (PySem.W.fnOf x x (k8 st) (iC st) (ψ st) .none kV doc pm an bz ct),JB⟩)(c:PySem.W.codeIn K bz x=true)(k:PySem.W.keepIn K (.ref f)=true):FT K f x st:=⟨a,_,IG l c k⟩
def FM.of(a:PySem.W.findIn K (.ref C) m=some (some (.ref f)))(i:PySem.W.isFn K (.ref f)=true)(l:K.lookup f=some ⟨oc,od,.func (PySem.W.fnOf m x (k8 st) (iC st) (ψ st) .none kV doc pm an bz ct),JB⟩)(c:PySem.W.codeIn K bz x=true)(k:PySem.W.keepIn K (.ref f)=true):FM K C f m x st:=⟨a,i,_,IG l c k⟩
end
section
variable{P:List Value->Prop}
def Vd(h:P []):∀us:List Value,us.length=0->P us
 |[],_=>h
 |_::_,e=>nomatch e
def fT(h:∀a0:Value,P [a0]):∀us:List Value,us.length=1->P us
 |[],e=>nomatch e
 |a::us,e=>Vd (P:=λus=>P (a::us)) (h a) us (Nat.succ.inj e)
def cH(h:∀a0 a1:Value,P [a0,a1]):∀us:List Value,us.length=2->P us
 |[],e=>nomatch e
 |a::us,e=>fT (P:=λus=>P (a::us)) (h a) us (Nat.succ.inj e)
def gq(h:∀a0 a1 a2:Value,P [a0,a1,a2]):∀us:List Value,us.length=3->P us
 |[],e=>nomatch e
 |a::us,e=>cH (P:=λus=>P (a::us)) (h a) us (Nat.succ.inj e)
def qf(h:∀a0 a1 a2 a3:Value,P [a0,a1,a2,a3]):∀us:List Value,us.length=4->P us
 |[],e=>nomatch e
 |a::us,e=>gq (P:=λus=>P (a::us)) (h a) us (Nat.succ.inj e)
def OH(h:∀a0 a1 a2 a3 a4:Value,P [a0,a1,a2,a3,a4]):∀us:List Value,us.length=5->P us
 |[],e=>nomatch e
 |a::us,e=>qf (P:=λus=>P (a::us)) (h a) us (Nat.succ.inj e)
end
def yh{K:fI}(h:PySem.W.subIn K (.type "int") (.type "bool")=some false):PySem.W.kitOne K (.type "int") (.type "bool")=some false:=by unfold PySem.W.kitOne PySem.W.kitCls;rw[aaw (by decide+kernel)];show(if PySem.W.kitMeta "bool"=true then _ else _)=_;rw[aax (by decide+kernel)];exact h
def zc{K:fI}(h:PySem.W.subIn K (.type "int") (.type "str")=some false):PySem.W.kitOne K (.type "int") (.type "str")=some false:=by unfold PySem.W.kitOne PySem.W.kitCls;rw[aaw (by decide+kernel)];show(if PySem.W.kitMeta "str"=true then _ else _)=_;rw[aax (by decide+kernel)];exact h
def uL{K:fI}(h:PySem.W.subIn K (.type "tuple") (.type "str")=some false):PySem.W.kitOne K (.type "tuple") (.type "str")=some false:=by unfold PySem.W.kitOne PySem.W.kitCls;rw[aaw (by decide+kernel)];show(if PySem.W.kitMeta "str"=true then _ else _)=_;rw[aax (by decide+kernel)];exact h
def uB{K:fI}(h:PySem.W.subIn K (.type "tuple") (.type "int")=some false):PySem.W.kitOne K (.type "tuple") (.type "int")=some false:=by unfold PySem.W.kitOne PySem.W.kitCls;rw[aaw (by decide+kernel)];show(if PySem.W.kitMeta "int"=true then _ else _)=_;rw[aax (by decide+kernel)];exact h
def xN{K:fI}(h:PySem.W.subIn K (.type "list") (.type "str")=some false):PySem.W.kitOne K (.type "list") (.type "str")=some false:=by unfold PySem.W.kitOne PySem.W.kitCls;rw[aaw (by decide+kernel)];show(if PySem.W.kitMeta "str"=true then _ else _)=_;rw[aax (by decide+kernel)];exact h
def xG{K:fI}(h:PySem.W.subIn K (.type "list") (.type "int")=some false):PySem.W.kitOne K (.type "list") (.type "int")=some false:=by unfold PySem.W.kitOne PySem.W.kitCls;rw[aaw (by decide+kernel)];show(if PySem.W.kitMeta "int"=true then _ else _)=_;rw[aax (by decide+kernel)];exact h
def uh{K:fI}(h:PySem.W.subIn K (.type "tuple") (.type "list")=some false):PySem.W.kitOne K (.type "tuple") (.type "list")=some false:=by unfold PySem.W.kitOne PySem.W.kitCls;rw[aaw (by decide+kernel)];show(if PySem.W.kitMeta "list"=true then _ else _)=_;rw[aax (by decide+kernel)];exact h
def sI{K:fI}(h:PySem.W.subIn K (.type "list") (.type "tuple")=some false):PySem.W.kitOne K (.type "list") (.type "tuple")=some false:=by unfold PySem.W.kitOne PySem.W.kitCls;rw[aaw (by decide+kernel)];show(if PySem.W.kitMeta "tuple"=true then _ else _)=_;rw[aax (by decide+kernel)];exact h
def Qg{K:fI}{a:Addr}{t1 t2 t3:Tok}(h1:PySem.W.nsIn K a "one"=some (some (.str "other" t1)))(h2:PySem.W.nsIn K a "other"=some (some (.str "one" t2)))(h3:PySem.W.nsIn K a "chance"=some (some (.str "chance" t3))){z y:Str}(h:([("one","other"),("other","one"),("chance","chance")]:List (Str×Str)).lookup z=some y):∃tk,PySem.W.nsIn K a z=some (some (.str y tk)):=by
 rw[abv]at h;split at h
 ·rename_i e;cases aby.mp e;cases h;exact⟨_,h1⟩
 rw[abv]at h;split at h
 ·rename_i e;cases aby.mp e;cases h;exact⟨_,h2⟩
 rw[abv]at h;split at h
 ·rename_i e;cases aby.mp e;cases h;exact⟨_,h3⟩
 cases h
open PySem.W in
def all_mk{l:OpenLaw}{w:World}{K:Frag}{h:Heap}{fa Cm EC U5 f1 f2 f3 f4 f5 f6 f7 f8 f9 f10 f11 f12 f13 f14 f15 f16 f17 f18 f19 f20 f21 f22 f23 f24 f25 f26 f27 f28 f29 f30 f31 f32 f33 f34 f35 f36 f37 f38 f39 f40 f41 f42 f43 f44 f45 f46 f47 f48 f49 f50 f51 f52 f53 f54 f55 f56 f57 f58 f59 f60 f61 f62 f63 f64 f65 f66:Addr}(X:K.In h)(G:h.Ns mainGlobals mg)(hfa:mg "law"=some (.ref fa))
  {xo uw uD lH:Tok}
  (xn:nsIn K mainGlobals "MOST_DOORS"=some (some (.int (6) xo)))
  (uT:nsIn K mainGlobals "MOST_BOTTOM"=some (some (.int (1000000) uw)))
  (uJ:nsIn K mainGlobals "MOST_PLACES"=some (some (.int (12) uD)))
  (lG:nsIn K mainGlobals "MOST_SHARE_BOTTOM"=some (some (.int (1000) lH)))
  (L9:nsIn K mainGlobals "Floor"=some (some (.ref Cm))) (fP:plainGet K Cm Str.empty=true) (fG:hasDictIn K Cm=true) (fH:plainOver K Cm=true) (fS:findIn K (.ref Cm) "__setattr__"=some (some (.builtin "object.__setattr__"))) (MD:makesIn K Cm=true) (LW:keepIn K (.ref Cm)=true)
  (xk:findIn K (.ref Cm) "kept_rows"=some none)
  (uN:findIn K (.ref Cm) "kept_share"=some none)
  {Jr HY:Tok} {IZ:Option Addr} {HX:Array (Option Value)} {Jb:Nat} (Jw:nsIn K mainGlobals "HANDS"=some (some (.ref EC))) (Jf:K.lookup EC=some ⟨.type "tuple",IZ,.seq #[(.str "one" Jr),(.str "other" HY)] Jb,HX⟩)
  (z7:subIn K (.type "int") (.type "bool")=some false)
  (Ce:subIn K (.type "int") (.type "str")=some false)
  (wx:subIn K (.type "tuple") (.type "str")=some false)
  (wm:subIn K (.type "tuple") (.type "int")=some false)
  (Ah:subIn K (.type "list") (.type "str")=some false)
  (zE:subIn K (.type "list") (.type "int")=some false)
  (uR:subIn K (.type "tuple") (.type "list")=some false)
  (uv:subIn K (.type "list") (.type "tuple")=some false)
  (t1:FT K f1 "_law_at" Ci)
  (t2:FT K f2 "_law_by_digits" jr)
  (t3:FT K f3 "_law_lowest" mE)
  (t4:FT K f4 "_law_share_of" kJ)
  (t5:FT K f5 "_law_pay" xu)
  (t6:FT K f6 "_law_stream" mY)
  (t7:FT K f7 "_law_things" mz)
  (t8:FT K f8 "_law_doors" pK)
  (t9:FT K f9 "_law_floor" oN)
  (t10:FT K f10 "fits_share" mX)
  (t11:FT K f11 "fits_pay" qY)
  (t12:FT K f12 "fits_door" oh)
  (t13:FT K f13 "fits_doors" m8)
  (t14:FT K f14 "common_divisor" gU)
  (t15:FT K f15 "common_bottom" iJ)
  (t16:FT K f16 "fits_chances" jC)
  (t17:FT K f17 "fits_row" tU)
  (t18:FT K f18 "copied_row" mV)
  (t19:FM K Cm f19 "__init__" "Floor.__init__" mD)
  (t20:FT K f20 "_law_copy" rV)
  (t21:FT K f21 "_law_plan" r8)
  (t22:FM K Cm f22 "size" "Floor.size" mh)
  (t23:FM K Cm f23 "kind" "Floor.kind" mj)
  (t24:FM K Cm f24 "doors" "Floor.doors" ko)
  (t25:FT K f25 "has_door" tK)
  (t26:FT K f26 "doors_of" sC)
  (t27:FT K f27 "places_of" pH)
  (t28:FT K f28 "first_plan" l9)
  (t29:FT K f29 "with_weights" js)
  (t30:FT K f30 "number_of_head" iM)
  (t31:FT K f31 "moved_ahead" kz)
  (t32:FT K f32 "cleared_line" jx)
  (t33:FT K f33 "cleared" sG)
  (t34:FT K f34 "fraction" pL)
  (t35:FT K f35 "quotients" mI)
  (t36:FT K f36 "answer_of" oR)
  (t37:FT K f37 "minus" A_)
  (t38:FT K f38 "times" CH)
  (t39:FT K f39 "whole_row" oi)
  (t40:FT K f40 "led_row" xr)
  (t41:FM K Cm f41 "pay" "Floor.pay" oH)
  (t42:FM K Cm f42 "share" "Floor.share" kN)
  (t43:FT K f43 "ways_from" pR)
  (t44:FT K f44 "plus" HJ)
  (t45:FT K f45 "weighed" rP)
  (t46:FT K f46 "row_of" C9)
  (t47:FT K f47 "worths_by" oO)
  (t48:FT K f48 "worths_against" gW)
  (t49:FM K Cm f49 "shown" "Floor.shown" ky)
  (t50:FM K Cm f50 "all_shown" "Floor.all_shown" hU)
  (t51:FT K f51 "under" Bc)
  (t52:FT K f52 "greatest" oE)
  (t53:FT K f53 "least" B7)
  (t54:FM K Cm f54 "look" "Floor.look" mw)
  (t55:FM K Cm f55 "best" "Floor.best" mJ)
  (t56:FT K f56 "better_doors" jL)
  (t57:FT K f57 "against" rE)
  (t58:FT K f58 "_law_whole" pw)
  (t59:FT K f59 "_law_table" pD)
  (t60:FT K f60 "_law_answer" ng)
  (t61:FT K f61 "_law_shown" pq)
  (t62:FT K f62 "_law_less" sX)
  (t63:FT K f63 "_law_due" xa)
  (t64:FT K f64 "_law_best" tL)
  (t65:FT K f65 "worths_of" oG)
  (t66:FT K f66 "law" Qu)
  (TU:nsIn K mainGlobals "len"=some none)
  (TL:nsIn K mainGlobals "abs"=some none)
  (wc:nsIn K mainGlobals "isinstance"=some none)
  (UT:nsIn K mainGlobals "int"=some none)
  (Ru:nsIn K mainGlobals "bool"=some none)
  (U8:nsIn K mainGlobals "str"=some none)
  (Ml:nsIn K mainGlobals "tuple"=some none)
  (O4:nsIn K mainGlobals "list"=some none)
  (Nk:nsIn K mainGlobals "range"=some none)
  (AN:nsIn K mainGlobals "enumerate"=some none)
  (Tg:nsIn K mainGlobals "any"=some none)
  (SE:nsIn K mainGlobals "all"=some none)
  (TJ:nsIn K mainGlobals "sum"=some none)
  (Sr:nsIn K mainGlobals "zip"=some none)
  (Q8:nsIn K mainGlobals "dict"=some none)
  (Ta:nsIn K mainGlobals "min"=some none)
  (TX:nsIn K mainGlobals "max"=some none)
  {TC:Array DictEntry} {nTK:Nat} {Yc YL WH:Tok}
  (Xd:nsIn K mainGlobals "TURNED_KINDS"=some (some (.ref U5)))
  (Wx:K.lookup U5=some ⟨.type "dict",none,.dict TC nTK,#[]⟩)
  (XA:KeysLit w.params TC.toList)
  (Y5:nsIn K U5 "one"=some (some (.str "other" Yc)))
  (W3:nsIn K U5 "other"=some (some (.str "one" YL)))
  (Xr:nsIn K U5 "chance"=some (some (.str "chance" WH)))
  :∃fd:FuncData,(∀(s:Shared) (v:Value),BindsTo s fd ⟨[v],[]⟩ [("_law_script",v)])/\∀base:Heap,K.In base->base.Ns mainGlobals mg->av l.prog w K mg base V7 10 fa fd ["_law_script"] (Aw K):=by
 have⟨a1,_,F1⟩:=t1;have⟨a2,_,F2⟩:=t2;have⟨a3,_,F3⟩:=t3;have⟨a4,_,F4⟩:=t4;have⟨a5,_,F5⟩:=t5;have⟨a6,_,F6⟩:=t6;have⟨a7,_,F7⟩:=t7;have⟨a8,_,F8⟩:=t8;have⟨a9,_,F9⟩:=t9;have⟨X',_,Yx⟩:=t10;have⟨a11,_,ZQ⟩:=t11;have⟨a12,_,Yr⟩:=t12;have⟨a13,_,WT⟩:=t13;have⟨a14,_,X_⟩:=t14;have⟨a15,_,Y6⟩:=t15;have⟨a16,_,ZT⟩:=t16;have⟨a17,_,W_⟩:=t17;have⟨a18,_,ZY⟩:=t18;have⟨a19,i19,_,F19⟩:=t19;have⟨a20,_,W8⟩:=t20;have⟨a21,_,Zu⟩:=t21;have⟨a22,i22,_,ZA⟩:=t22;have⟨a23,i23,_,Xz⟩:=t23;have⟨a24,i24,_,Zr⟩:=t24;have⟨a25,_,ZS⟩:=t25;have⟨a26,_,Zc⟩:=t26;have⟨a27,_,YC⟩:=t27;have⟨a28,_,Yq⟩:=t28;have⟨a29,_,XM⟩:=t29;have⟨a30,_,Ym⟩:=t30;have⟨a31,_,ZF⟩:=t31;have⟨a32,_,YB⟩:=t32;have⟨a33,_,X4⟩:=t33;have⟨a34,_,WN⟩:=t34;have⟨a35,_,Ze⟩:=t35;have⟨a36,_,Zp⟩:=t36;have⟨a37,_,XR⟩:=t37;have⟨a38,_,Y9⟩:=t38;have⟨a39,_,Y3⟩:=t39;have⟨a40,_,XH⟩:=t40;have⟨a41,i41,_,ZD⟩:=t41;have⟨a42,i42,_,Xb⟩:=t42;have⟨a43,_,Zk⟩:=t43;have⟨a44,_,Xf⟩:=t44;have⟨a45,_,W4⟩:=t45;have⟨a46,_,WZ⟩:=t46;have⟨a47,_,X2⟩:=t47;have⟨a48,_,X3⟩:=t48;have⟨a49,i49,_,Y_⟩:=t49;have⟨a50,i50,_,XX⟩:=t50;have⟨a51,_,Ye⟩:=t51;have⟨a52,_,Xk⟩:=t52;have⟨a53,_,Y8⟩:=t53;have⟨a54,i54,_,W6⟩:=t54;have⟨a55,i55,_,ZL⟩:=t55;have⟨a56,_,Yz⟩:=t56;have⟨a57,_,Wo⟩:=t57;have⟨a58,_,Xo⟩:=t58;have⟨a59,_,Y2⟩:=t59;have⟨a60,_,Zz⟩:=t60;have⟨a61,_,Zl⟩:=t61;have⟨a62,_,Xc⟩:=t62;have⟨a63,_,Wz⟩:=t63;have⟨a64,_,YJ⟩:=t64;have⟨a65,_,X6⟩:=t65;have⟨a66,dL,F66⟩:=t66;have e:=hfa.symm.trans (mg_of X G a66);cases e;have xg:=mg_of X G xn;have uO:=mg_of X G uT;have uC:=mg_of X G uJ;have lE:=mg_of X G lG;have br:=mg_none_of X G TU;have uj:=mg_none_of X G TL;have bq:=mg_none_of X G wc;have vN:=mg_none_of X G UT;have xU:=mg_none_of X G Ru;have IB:=mg_none_of X G U8;have lh:=mg_none_of X G Ml;have kO:=mg_none_of X G O4;have bM:=mg_none_of X G Nk;have eK:=mg_none_of X G AN;have EH:=mg_none_of X G Tg;have zp:=mg_none_of X G SE;have y_:=mg_none_of X G TJ;have u9:=mg_none_of X G Sr;have kK:=mg_none_of X G Q8;have EK:=mg_none_of X G Ta;have Hq:=mg_none_of X G TX;have E:Ev K mg w Cm:={br:=br,uj:=uj,bq:=bq,vN:=vN,xU:=xU,IB:=IB,lh:=lh,kO:=kO,bM:=bM,eK:=eK,EH:=EH,zp:=zp,y_:=y_,u9:=u9,kK:=kK,EK:=EK,Hq:=Hq,ib:=yh z7,kis:=zc Ce,kts:=uL wx,kti:=uB wm,kls:=xN Ah,kli:=xG zE,ZI:=uh uR,klt:=sI uv,d7:=⟨fP,fG,fH,fS⟩,cJ:=xk,fJ:=uN,yp:=⟨_,_,_,_,mg_of X G Jw,Jf,rfl,rfl,gV,.cons ⟨_,rfl⟩ (.cons ⟨_,rfl⟩ .nil)⟩,lM:=⟨_,_,_,mg_of X G Xd,Wx,XA,λz y h=>Qg Y5 W3 Xr h⟩,p7:=⟨_,xg⟩,jz:=⟨_,uO⟩,nI:=⟨_,uC⟩,gX:=⟨_,lE⟩};refine⟨dL,λs v=>by have⟨_,_,_,_,_,_,_,_,_,rfl,_⟩:=F66.ex;exact .of_eq rfl,λbase _ _=>?_⟩;have mc:=@aw.mk l.prog w K mg base;have cw:=(Kp F1 E)&&&(F1,a1,cH λ_ _=>rfl);have aC:=(sT F2 E)&&&(F2,a2,fT λ_=>rfl);have aW:=(yw F3 E)&&&(F3,a3,cH λ_ _=>rfl);have jI:=(uz F4 E aC aW)&&&(F4,a4,cH λ_ _=>rfl);have iS:=(GH F5 E aW)&&&(F5,a5,cH λ_ _=>rfl);have eN:=(wz F6 E)&&&(F6,a6,cH λ_ _=>rfl);have iq:=(yu F7 E aC eN)&&&(F7,a7,qf λ_ _ _ _=>rfl);have mC:=(AB F8 E iS aW)&&&(F8,a8,qf λ_ _ _ _=>rfl);have mm:=(zw F9 E cw aC jI iS iq mC)&&&(F9,a9,fT λ_=>rfl);have kL:=(yf Yx E)&&&(Yx,X',fT λ_=>rfl);have gL:=(BX ZQ E)&&&(ZQ,a11,fT λ_=>rfl);have mH:=(zo Yr E gL)&&&(Yr,a12,cH λ_ _=>rfl);have iz:=(v8 WT E mH)&&&(WT,a13,cH λ_ _=>rfl);have bU:=(pA X_ E)&&&(X_,a14,cH λ_ _=>rfl);have cy:=(qC Y6 E bU)&&&(Y6,a15,fT λ_=>rfl);have iH:=(tI ZT E cy)&&&(ZT,a16,fT λ_=>rfl);have oq:=(BP W_ E gL iz iH)&&&(W_,a17,cH λ_ _=>rfl);have kH:=(x8 ZY E)&&&(ZY,a18,fT λ_=>rfl);have kF:Rk l.prog w K mg base _ "Floor" Cm _ _ _ _:=⟨wZ F19 E kL oq kH,(F19.binds λ_ _ _ _ _ _=>gq λ_ _ _=>rfl),⟨MD,a19,i19,LW⟩,mg_of X G L9⟩;have oU:=(B6 W8 E)&&&(W8,a20,fT λ_=>rfl);have ot:=(Cg Zu E cw aC eN)&&&(Zu,a21,qf λ_ _ _ _=>rfl);have a_:dj l.prog w K mg base _ Cm "size" _ _ _ _:=(yg ZA E)|||(ZA,a22,i22,fT λ_=>rfl);have Υ:dj l.prog w K mg base _ Cm "kind" _ _ _ _:=(v_ Xz E)|||(Xz,a23,i23,cH λ_ _=>rfl);have aR:dj l.prog w K mg base _ Cm "doors" _ _ _ _:=(uK Zr E Υ)|||(Zr,a24,i24,cH λ_ _=>rfl);have pe:=(CW ZS E aR)&&&(ZS,a25,gq λ_ _ _=>rfl);have gM:=(Bu Zc E a_ Υ pe)&&&(Zc,a26,cH λ_ _=>rfl);have ma:=(zV YC E a_ Υ)&&&(YC,a27,cH λ_ _=>rfl);have jY:=(ym Yq E ma)&&&(Yq,a28,cH λ_ _=>rfl);have iP:=(rO XM E)&&&(XM,a29,fT λ_=>rfl);have h7:=(qu Ym E)&&&(Ym,a30,gq λ_ _ _=>rfl);have ju:=(uF ZF E)&&&(ZF,a31,gq λ_ _ _=>rfl);have fN:=(sO YB E)&&&(YB,a32,qf λ_ _ _ _=>rfl);have pB:=(BL X4 E iP h7 ju fN)&&&(X4,a33,cH λ_ _=>rfl);have bD:=(Ax WN E bU)&&&(WN,a34,cH λ_ _=>rfl);have kD:=(we Ze E bD)&&&(Ze,a35,qf λ_ _ _ _=>rfl);have lY:=(zP Zp E pB kD)&&&(Zp,a36,fT λ_=>rfl);have wB:=(Kn XR E bD)&&&(XR,a37,cH λ_ _=>rfl);have gA:=(Hm Y9 E bD)&&&(Y9,a38,cH λ_ _=>rfl);have mK:=(y3 Y3 E cy)&&&(Y3,a39,fT λ_=>rfl);have nA:=(Fd XH E a_ wB gA mK)&&&(XH,a40,OH λ_ _ _ _ _=>rfl);have fj:dj l.prog w K mg base _ Cm "pay" _ _ _ _:=(zu ZD E Υ)|||(ZD,a41,i41,cH λ_ _=>rfl);have gG:dj l.prog w K mg base _ Cm "share" _ _ _ _:=(uE Xb E)|||(Xb,a42,i42,fT λ_=>rfl);have my:=(AI Zk E aR Υ)&&&(Zk,a43,gq λ_ _ _=>rfl);have pC:=(MA Xf E bD)&&&(Xf,a44,cH λ_ _=>rfl);have gO:=(CA W4 E pC gA)&&&(W4,a45,cH λ_ _=>rfl);have xT:=(HF WZ E Υ nA fj gG my gO)&&&(WZ,a46,gq λ_ _ _=>rfl);have fA:=(AD X2 E lY a_ xT)&&&(X2,a47,cH λ_ _=>rfl);have d8:=(oV X3 E fA)&&&(X3,a48,gq λ_ _ _=>rfl);have jy:dj l.prog w K mg base _ Cm "shown" _ _ _ _:=(uq Y_ E pC gA)|||(Y_,a49,i49,qf λ_ _ _ _=>rfl);have bc:dj l.prog w K mg base _ Cm "all_shown" _ _ _ _:=(oF XX E aR jy)|||(XX,a50,i50,gq λ_ _ _=>rfl);have k4:=(HE Ye E)&&&(Ye,a51,cH λ_ _=>rfl);have mT:=(AL Xk E k4)&&&(Xk,a52,fT λ_=>rfl);have wX:=(Ij Y8 E k4)&&&(Y8,a53,fT λ_=>rfl);have j4:dj l.prog w K mg base _ Cm "look" _ _ _ _:=(wL W6 E Υ fj gO bc aR mT wX)|||(W6,a54,i54,gq λ_ _ _=>rfl);have kB:dj l.prog w K mg base _ Cm "best" _ _ _ _:=(xP ZL E Υ j4 bc)|||(ZL,a55,i55,gq λ_ _ _=>rfl);have fM:=(rF Yz E kB)&&&(Yz,a56,gq λ_ _ _=>rfl);have lB:=(Cd Wo E gM jY d8 fM)&&&(Wo,a57,gq λ_ _ _=>rfl);have dq:=(Ac Xo E)&&&(Xo,a58,fT λ_=>rfl);have mv:=(zI Y2 E dq aW)&&&(Y2,a59,cH λ_ _=>rfl);have ip:=(wR Zz E dq)&&&(Zz,a60,gq λ_ _ _=>rfl);have m7:=(zW Zl E)&&&(Zl,a61,gq λ_ _ _=>rfl);have k9:=(Bj Xc E)&&&(Xc,a62,cH λ_ _=>rfl);have nV:=(Gm Wz E m7 k9)&&&(Wz,a63,qf λ_ _ _ _=>rfl);have pM:=(CY YJ E nV)&&&(YJ,a64,OH λ_ _ _ _ _=>rfl);have mF:=(Ag X6 E fA gM)&&&(X6,a65,gq λ_ _ _=>rfl);exact Rp (P1 F66 E mm kF oU cw ot lB mv ip pM mF)
def walk{l:PySem.W.OpenLaw}{q:Program}{loose:List Str}{XP:(Str->Option Value)->Heap->Prop}{YP:World->Heap->Prop}{d:DefRec}{K:Params->fI}(hn:l.most=some 63)(Vq:d.params.defaults=[])
  (hY:∀(w:World) (h:Heap),YP w h->(K w.params).In h)
  (F:∀(w:World) (mg:Str->Option Value) (fa:Addr) (h:Heap),(K w.params).In h->h.Ns mainGlobals mg->mg d.name=some (.ref fa)->
   ∃fd:FuncData,(∀(s:Shared) (u:Value),BindsTo s fd ⟨[u],[]⟩ [("_law_script",u)])/\∀base:Heap,(K w.params).In base->base.Ns mainGlobals mg->av l.prog w (K w.params) mg base V7 10 fa fd ["_law_script"] (Aw (K w.params))):
  PySem.W.WalkO q loose XP YP l.row.toRowW d [] (λf vs=>PySem.call f vs):=
 L2.xW (n:=63) (k:=10) (x:="_law_script") (CX:=λ_=>V7) (sp:=λw=>Aw (K w.params)) hn @_ Vq ⟨rfl,@_,@_⟩ hY F (λ_ _ a ns hl _ hS=>⟨a,ns,rfl,hS,hl,λ_=>rfl⟩) λ_ _ _ _ _ z=>z
end
end Pg
open PySem PySem.W PyProof.Rows
set_option maxRecDepth 100000 in
set_option maxHeartbeats 0 in
theorem PySem.Challenge.cw_chanceduel_k23_an_answer_holds : PySem.Challenge.rw_chanceduel_k23_an_answer.Holds := by
 w_on;o_law
 refine holds_open (q:=Hd.q) (loose:=["TURNED_KINDS"]) (Xt:=Hd.Xt) (XP:=XL Hd.q [])
  (Yf:=Hd.H.obs) (Ya:=Hd.H.val) (YP:=Hd.H.says) Hd.left Hd.H.of Hd.H.keeps
  (λs e=>xl_of s (Bool.and_eq_true_iff.mp e).1) XL.keeps (by rfl) (by rfl) (by rfl)
  (λs e=>recFacts_of (Bool.and_eq_true_iff.mp e).2) (by rfl) (by assumption) (by decide+kernel)
  ⟨rfl,rfl,rfl,rfl,rfl,by decide+kernel⟩ ?hw ?hc
 (case hw=>w_witness2)
 refine Pg.walk (l:=PySem.Challenge.rw_chanceduel_k23_an_answer) rfl rfl (fun w h Y=>PySem.W.kIn_of Y) ?F
 case F=>
  k_fill
  intro w mg fa h KX G LC
  refine' Pg.all_mk KX G LC ?_ ?_ ?_ ?_ ?_ ?_ ?_ ?_ ?_ ?_ ?_ ?_ ?_ ?_ ?_ ?_ ?_ ?_ ?_ ?_ ?_ ?_ ?_ ?_ ?_ ?_ ?_ ?_ ?_ ?_ ?_ ?_ ?_ ?_ ?_ ?_ ?_ ?_ ?_ ?_ ?_ ?_ ?_ ?_ ?_ ?_ ?_ ?_ ?_ ?_ ?_ ?_ ?_ ?_ ?_ ?_ ?_ ?_ ?_ ?_ ?_ ?_ ?_ ?_ ?_ ?_ ?_ ?_ ?_ ?_ ?_ ?_ ?_ ?_ ?_ ?_ ?_ ?_ ?_ ?_ ?_ ?_ ?_ ?_ ?_ ?_ ?_ ?_ ?_ ?_ ?_ ?_ ?_ ?_ ?_ ?_ ?_ ?_ ?_ ?_ ?_ ?_ ?_ ?_ ?_ ?_ ?_ ?_ ?_ ?_ ?_ ?_
  all_goals try first| (refine' Pg.FT.of ?_ ?_ ?_ ?_ <;> try k_is)| (refine' Pg.FM.of ?_ ?_ ?_ ?_ ?_ <;> try k_is)| k_is| k_exc| kernel_rfl
  all_goals try exact⟨⟨_,_,rfl,rfl⟩,⟨_,_,rfl,rfl⟩,⟨_,_,rfl,rfl⟩,trivial⟩
