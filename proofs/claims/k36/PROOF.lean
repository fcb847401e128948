import PyProof.Rows.All
import Wide.All
import OpenK.AllK
import Wide.FinOn
import Lean
import PyProof.EqAt
import PyProof.EqKinds
import PyProof.TupleCall
import PyProof.NeKinds
import PyProof.ZipIter
import PyProof.DictUpdate
import PyProof.FactsAll.dict_1
import PyProof.DictIter
import PyProof.DictWalks
import PySem.Challenge.RW_chanceduel_k36_whole_who_moves_first
set_option Elab.async false
set_option linter.all false
set_option maxRecDepth 100000
set_option maxHeartbeats 4000000
set_option compiler.extract_closed false
def aaa:=@List.getElem?_eq_getElem
def aab:=@List.getD_eq_getElem?_getD
def aac:=@List.length_map
def aad:=@List.mem_cons_of_mem
def aae:=@List.mem_cons_self
def aaf:=@List.getElem?_eq_some_iff
def aag:=@List.length_append
def aah:=@List.mem_map
def aai:=@Nat.le_refl
def aaj:=@Int.le_of_lt
def aak:=@PySem.Heap.get?_push_of_some
def aal:=@List.getElem?_map
def aam:=@List.mem_of_getElem?
def aan:=@List.getElem?_append_right
def aao:=@decide_eq_true_iff
def aaq:=@Int.mul_le_mul_of_nonneg_left
def aar:=@PySem.Heap.lt_size
def aas:=@Nat.le_trans
def aat:=@List.getElem?_append_left
def aau:=@Nat.lt_of_lt_of_le
def aav:=@if_neg
def aaw:=@if_pos
def aax:=@Option.some.inj
def aay:=@List.length_cons
def aaz:=@Bool.and_eq_true
def aaA:=@of_decide_eq_true
def aaB:=@decide_eq_true
def aaC:=@List.mem_cons
def aaD:=@Bool.false_ne_true
def aaE:=@List.mem_append_right
def aaF:=@List.getElem_mem
def aaG:=@decide_eq_false
def aaH:=@PySem.wpAny_bind
def aaI:=@List.size_toArray
def aaJ:=@absurd
def aaK:=@List.map_map
def aaL:=@Int.lt_of_le_of_lt
def aaM:=@List.map_cons
def aaN:=@Int.mul_le_mul_of_nonneg_right
def aaO:=@List.append_assoc
def aaP:=@List.length_range
def aaQ:=@List.nil_append
def aaR:=@Rat.intCast_mul
def aaS:=@PySem.Heap.get?_push_size
def aaU:=@List.getElem?_range
def aaV:=@Nat.lt_of_le_of_lt
def aaW:=@List.map_append
def aaX:=@congrArg
def aaY:=@Nat.ne_of_lt
def aaZ:=@Int.eq_of_mul_eq_mul_left
def aa0:=@List.mem_append
def aa1:=@List.append_nil
def aa2:=@Int.mul_pos
def aa3:=@Rat.mul_le_mul_of_nonneg_left
def aa4:=@List.mem_range
def aa5:=@Int.emod_lt_of_pos
def aa6:=@List.length_replicate
def aa7:=@Int.mul_comm
def aa8:=@List.mem_singleton
def aa9:=@Int.emod_nonneg
def aba:=@PySem.wpAny_pure
def abb:=@List.getElem?_set_self
def abc:=@Rat.intCast_le_intCast
def abd:=@of_decide_eq_false
def abe:=@List.exists_cons_of_ne_nil
def abf:=@List.getElem_of_mem
def abg:=@List.map_congr_left
def abh:=@List.length_set
def abi:=@Int.mul_nonneg
def abj:=@Int.natAbs_mul
def abl:=@Int.natAbs_of_nonneg
def abm:=@Option.isSome_iff_exists
def abn:=@List.replicate_succ
def abo:=@List.lookup_cons
def abp:=@List.ext_getElem
def abq:=@Nat.lt_irrefl
def abr:=@List.getElem?_set_ne
def abt:=@List.drop_eq_getElem_cons
def abu:=@Int.natCast_add
def abv:=@Nat.lt_succ_self
def abw:=@beq_iff_eq
def abx:=@Int.mul_ediv_cancel_left
def aby:=@Int.ne_of_gt
def abz:=@Nat.add_sub_cancel_left
def abA:=@List.zip_cons_cons
def abB:=@List.length_zip
def abC:=@Int.le_trans
def abD:=@List.take_of_length_le
def abE:=@Rat.intCast_lt_intCast
def abF:=@List.flatten_cons
def abG:=@Int.mul_le_mul
def abH:=@List.of_mem_zip
def abI:=@List.foldl_cons
def abJ:=@Nat.not_lt_zero
def abK:=@Rat.mul_le_mul_of_nonneg_right
def abL:=@List.length_drop
def abM:=@Nat.le_add_right
def abN:=@List.all_eq_true
def abO:=@Int.ofNat_lt
def abP:=@Int.toNat_natCast
def abQ:=@List.nodup_cons
def abR:=@List.range_succ_eq_map
def abS:=@Int.fmod_eq_emod_of_nonneg
def abT:=@List.getElem?_eq_none
def abU:=@Int.pow_succ
def abV:=@Int.pow_nonneg
def abW:=@Int.mul_neg_of_pos_of_neg
def abX:=@List.set_append_left
def abY:=@Nat.lt_succ_of_lt
def abZ:=@List.flatMap_cons
def ab0:=@List.getElem?_replicate
def ab1:=@List.all_cons
def ab2:=@List.any_cons
def ab3:=@List.filter_cons_of_pos
def ab4:=@List.filter_cons_of_neg
def ab5:=@List.length_eq_zero_iff
def ab6:=@List.length_take
def ab7:=@List.drop_eq_nil_of_le
def ab8:=@Option.map_eq_some_iff
def ab9:=@Nat.zero_le
def aca:=@List.set_append_right
def acb:=@List.length_filter_le
def acd:=@PySem.wpAny_mono
def ace:=@Int.le_of_dvd
def acf:=@Array.getElem?_eq_some_iff
def acg:=@Int.fdiv_eq_ediv_of_nonneg
def ach:=@Nat.pow_le_pow_right
def aci:=@PySem.F.slot_dict_getitem
def acj:=@Int.le_of_mul_le_mul_left
def ack:=@beq_self_eq_true
def acm:=@Int.ediv_le_self
def acn:=@List.filterMap_cons
def aco:=@Int.toNat_of_nonneg
def acp:=@List.getElem?_take_of_lt
def acq:=@List.mem_of_mem_eraseIdx
def acr:=@Int.lt_or_le
def acu:=@Int.lt_trans
def acv:=@List.mem_filterMap
def acw:=@Bool.eq_iff_iff
def acy:=@Nat.min_eq_left
def acz:=@List.length_nil
def acA:=@Int.mul_assoc
def acB:=@List.range_succ
def acC:=@List.map_take
def acD:=@List.map_drop
def acE:=@Bool.or_eq_true
def acF:=@List.nodup_append
def acG:=@List.ext_getElem?
def acH:=@List.drop_zero
def acI:=@Nat.ne_of_gt
def acJ:=@List.map_nil
def acK:=@Nat.sub_self
def acL:=@Int.dvd_zero
namespace Hd
open PySem PySem.W PyProof.Rows
def at_(i:Nat):Stmt:=PySem.Challenge.pw_chanceduel_k36_whole_who_moves_first.main.body.getD i (.Pass ⟨0,0,0,0⟩)
def Lm:Stmt->Nat->Stmt
  | .ClassDef _ _ _ b _ _ _ _ _ _ _,j=>b.getD j (.Pass ⟨0,0,0,0⟩)
  | s,_=>s
def dA:Stmt->Arguments
  | .FunctionDef _ a _ _ _ _ _ _ _ _=>a
  | _=>⟨[],[],none,[],[],none,[]⟩
def dB:Stmt->List Stmt
  | .FunctionDef _ _ b _ _ _ _ _ _ _=>b
  | _=>[]
def dS:Stmt->Scope
  | .FunctionDef _ _ _ _ _ _ c _ _ _=>c
  | _=>{kind:= .function,names:=[],isGenerator:=false,isCoroutine:=false}
abbrev row:=PySem.Challenge.rw_chanceduel_k36_whole_who_moves_first.row
abbrev en(P:Params)(x:Str)(t:Tok)(v:Value):DictEntry:=⟨PyData.keyHash P x, .str x t,v⟩
def q:Program:={PySem.Challenge.pw_chanceduel_k36_whole_who_moves_first with main:={PySem.Challenge.pw_chanceduel_k36_whole_who_moves_first.main with body:=[at_ 1,at_ 2,at_ 3,at_ 4,at_ 5,at_ 6,at_ 7,at_ 9,at_ 10,at_ 11,at_ 12,at_ 13,at_ 14,at_ 16,at_ 17,at_ 18,at_ 19,at_ 20,at_ 21,at_ 22,at_ 23,at_ 24,at_ 25,at_ 27,at_ 28,at_ 29,at_ 30,at_ 31,at_ 32,at_ 33,at_ 34,at_ 36,at_ 37,at_ 38,at_ 39,at_ 40,at_ 41,at_ 42,at_ 43,at_ 45,at_ 46,at_ 47,at_ 48,at_ 49,at_ 50,at_ 51,at_ 52,at_ 53,at_ 54,at_ 55,at_ 57,at_ 58,at_ 60,at_ 62,at_ 64,at_ 65,at_ 66,at_ 67,at_ 68,at_ 69,at_ 70,at_ 71,at_ 72,at_ 73,at_ 74,at_ 75,at_ 76,at_ 77,at_ 78,at_ 79]}}
abbrev cO(x q:Str)(t l n f a m:Nat):Obj:=⟨.type "code",none, .fields #[.str x t, .str q (t+1), .str "/claim/cut.py" (t+2), .int l 0, .int n 0, .int 0 0, .int 0 0, .int f 0, .ref a, .bool true, .int 181 0, .ref (a+1), .none, .ref (a+2), .ref (a+3), .ref (a+4), .int m 0, .int l 0, .str "/claim/cut.py" (m+1)], #[]⟩
abbrev dO(x q:Str)(t l n f a m:Nat):Obj:=⟨.type "code",none, .fields #[.str x t, .str q (t+1), .str "/claim/cut.py" (t+2), .int l 0, .int n 0, .int 0 0, .int 0 0, .int f 0, .ref a, .bool true, .int 181 0, .ref (a+1), .none, .none, .none, .ref (a+2), .int m 0, .int l 0, .str "/claim/cut.py" (m+1)], #[]⟩
abbrev fO(x q:Str)(s:Stmt)(m:Value)(c:Nat):Obj:=⟨.type "function",none, .func ⟨x,q,(dA s), .stmts (dB s),(dS s),3,[], .none, .none, .none,m,none, .ref c, .none,0⟩, #[]⟩
abbrev m0:Value:= .str "chanceduel.parts" 341
abbrev m1:Value:= .str "chanceduel.places" 395
abbrev m2:Value:= .str "chanceduel.floors" 453
abbrev m3:Value:= .str "chanceduel.rows" 606
abbrev m4:Value:= .str "chanceduel.plans" 682
abbrev m5:Value:= .str "chanceduel.answers" 782
abbrev m6:Value:= .str "chanceduel.mending" 807
abbrev m7:Value:= .str "law_chanceduel_k36_whole_who_moves_first" 839
noncomputable def K:Params->Frag:=λP=>
(nat_lit 2,⟨.none,none,(.dict #[] 0), #[]⟩)::
(nat_lit 3,⟨(.type "dict"),none,(.dict #[(en P "__name__" 165 m7),(en P "__doc__" 166 .none),(en P "__package__" 167 .none),(en P "__loader__" 168 (.builtin "__main__.__loader__#opaque")),(en P "__spec__" 169 .none),(en P "__annotations__" 170 (.ref 6)),(en P "__builtins__" 171 (.ref 4)),(en P "__file__" 173 (.str "/claim/cut.py" 172)),(en P "__cached__" 174 .none),(en P "DuelError" 206 (.ref 24)),(en P "NoNumber" 222 (.ref 37)),(en P "NoFloor" 238 (.ref 49)),(en P "NoPlace" 263 (.ref 68)),(en P "NoAnswer" 288 (.ref 87)),(en P "ManyAnswers" 315 (.ref 106)),(en P "NoPlan" 340 (.ref 125)),(en P "common_divisor" 353 (.ref 134)),(en P "fraction" 362 (.ref 141)),(en P "plus" 370 (.ref 148)),(en P "minus" 378 (.ref 155)),(en P "times" 386 (.ref 162)),(en P "under" 394 (.ref 169)),(en P "HANDS" 399 (.ref 170)),(en P "MOST_DOORS" 401 (.int 6 400)),(en P "MOST_BOTTOM" 403 (.int 1000000 402)),(en P "fits_pay" 410 (.ref 177)),(en P "fits_door" 418 (.ref 184)),(en P "common_bottom" 427 (.ref 191)),(en P "fits_chances" 433 (.ref 196)),(en P "fits_doors" 439 (.ref 201)),(en P "fits_row" 445 (.ref 206)),(en P "copied_row" 452 (.ref 213)),(en P "MOST_PLACES" 456 (.int 12 455)),(en P "MOST_SHARE_BOTTOM" 458 (.int 1000 457)),(en P "TURNED_KINDS" 468 (.ref 214)),(en P "fits_share" 475 (.ref 221)),(en P "weighed" 486 (.ref 228)),(en P "greatest" 495 (.ref 235)),(en P "least" 504 (.ref 242)),(en P "Floor" 605 (.ref 319)),(en P "with_weights" 618 (.ref 330)),(en P "number_of_head" 628 (.ref 337)),(en P "moved_ahead" 637 (.ref 344)),(en P "cleared_line" 643 (.ref 349)),(en P "cleared" 649 (.ref 354)),(en P "quotients" 662 (.ref 361)),(en P "still_of" 668 (.ref 366)),(en P "answer_of" 681 (.ref 373)),(en P "places_of" 689 (.ref 378)),(en P "first_plan" 699 (.ref 385)),(en P "has_door" 708 (.ref 392)),(en P "doors_of" 719 (.ref 399)),(en P "better_doors" 731 (.ref 406)),(en P "ways_from" 741 (.ref 413)),(en P "whole_row" 747 (.ref 418)),(en P "led_row" 760 (.ref 425)),(en P "row_of" 766 (.ref 430)),(en P "worths_by" 772 (.ref 435)),(en P "worths_of" 781 (.ref 442)),(en P "worths_against" 793 (.ref 449)),(en P "against" 806 (.ref 456)),(en P "started" 817 (.ref 463)),(en P "mended" 831 (.ref 471)),(en P "worths" 838 (.ref 478)),(en P "_law_at" 850 (.ref 485)),(en P "_law_stream" 861 (.ref 492)),(en P "_law_lowest" 871 (.ref 499)),(en P "_law_pay" 880 (.ref 506)),(en P "_law_doors" 886 (.ref 511)),(en P "_law_by_digits" 893 (.ref 518)),(en P "_law_things" 906 (.ref 525)),(en P "_law_share_of" 916 (.ref 532)),(en P "_law_floor" 936 (.ref 539)),(en P "_law_copy" 942 (.ref 544)),(en P "_law_all_plans" 956 (.ref 551)),(en P "_law_less" 964 (.ref 558)),(en P "_law_outermost" 975 (.ref 565)),(en P "_law_whole" 982 (.ref 572)),(en P "_law_table" 991 (.ref 579)),(en P "law" 997 (.ref 584))] 80), #[]⟩)::
(nat_lit 23,⟨(.type "dict"),none,(.dict #[(en P "__module__" 196 (.str "chanceduel.errors" 187)),(en P "__firstlineno__" 200 (.int 2 199)),(en P "__static_attributes__" 201 (.ref 22)),(en P "__weakref__" 203 (.ref 25)),(en P "__doc__" 204 .none)] 3), #[]⟩)::
(nat_lit 24,⟨(.type "type"),none,(.cls ⟨"DuelError",[(.type "ValueError")],[(.ref 24),(.type "ValueError"),(.type "Exception"),(.type "BaseException"),(.type "object")],23,"DuelError",true,[],[(.ref 37),(.ref 49),(.ref 68),(.ref 87),(.ref 106),(.ref 125)],false,none,false⟩), #[(some (.ref 15)),none,(some (.str "DuelError" 189)),(some (.str "DuelError" 197)),(some (.builtin "ValueError.__new__")),(some (.bool true))]⟩)::
(nat_lit 37,⟨(.type "type"),none,(.cls ⟨"NoNumber",[(.ref 24)],[(.ref 37),(.ref 24),(.type "ValueError"),(.type "Exception"),(.type "BaseException"),(.type "object")],36,"NoNumber",true,[],[],false,none,false⟩), #[(some (.ref 28)),none,(some (.str "NoNumber" 207)),(some (.str "NoNumber" 215)),(some (.builtin "ValueError.__new__")),(some (.bool true))]⟩)::
(nat_lit 49,⟨(.type "type"),none,(.cls ⟨"NoFloor",[(.ref 24)],[(.ref 49),(.ref 24),(.type "ValueError"),(.type "Exception"),(.type "BaseException"),(.type "object")],48,"NoFloor",true,[],[],false,none,false⟩), #[(some (.ref 40)),none,(some (.str "NoFloor" 223)),(some (.str "NoFloor" 231)),(some (.builtin "ValueError.__new__")),(some (.bool true))]⟩)::
(nat_lit 68,⟨(.type "type"),none,(.cls ⟨"NoPlace",[(.ref 24)],[(.ref 68),(.ref 24),(.type "ValueError"),(.type "Exception"),(.type "BaseException"),(.type "object")],67,"NoPlace",true,[],[],false,none,false⟩), #[(some (.ref 52)),none,(some (.str "NoPlace" 239)),(some (.str "NoPlace" 247)),(some (.builtin "ValueError.__new__")),(some (.bool true))]⟩)::
(nat_lit 87,⟨(.type "type"),none,(.cls ⟨"NoAnswer",[(.ref 24)],[(.ref 87),(.ref 24),(.type "ValueError"),(.type "Exception"),(.type "BaseException"),(.type "object")],86,"NoAnswer",true,[],[],false,none,false⟩), #[(some (.ref 71)),none,(some (.str "NoAnswer" 264)),(some (.str "NoAnswer" 272)),(some (.builtin "ValueError.__new__")),(some (.bool true))]⟩)::
(nat_lit 106,⟨(.type "type"),none,(.cls ⟨"ManyAnswers",[(.ref 24)],[(.ref 106),(.ref 24),(.type "ValueError"),(.type "Exception"),(.type "BaseException"),(.type "object")],105,"ManyAnswers",true,[],[],false,none,false⟩), #[(some (.ref 90)),none,(some (.str "ManyAnswers" 289)),(some (.str "ManyAnswers" 297)),(some (.builtin "ValueError.__new__")),(some (.bool true))]⟩)::
(nat_lit 125,⟨(.type "type"),none,(.cls ⟨"NoPlan",[(.ref 24)],[(.ref 125),(.ref 24),(.type "ValueError"),(.type "Exception"),(.type "BaseException"),(.type "object")],124,"NoPlan",true,[],[],false,none,false⟩), #[(some (.ref 109)),none,(some (.str "NoPlan" 316)),(some (.str "NoPlan" 324)),(some (.builtin "ValueError.__new__")),(some (.bool true))]⟩)::
(nat_lit 133,cO "common_divisor" "common_divisor" 343 30 2 3 128 351)::
(nat_lit 134,fO "common_divisor" "common_divisor" (at_ 9) m0 133)::
(nat_lit 140,cO "fraction" "fraction" 354 38 2 3 135 360)::
(nat_lit 141,fO "fraction" "fraction" (at_ 10) m0 140)::
(nat_lit 147,cO "plus" "plus" 363 45 2 3 142 368)::
(nat_lit 148,fO "plus" "plus" (at_ 11) m0 147)::
(nat_lit 154,cO "minus" "minus" 371 47 2 3 149 376)::
(nat_lit 155,fO "minus" "minus" (at_ 12) m0 154)::
(nat_lit 161,cO "times" "times" 379 49 2 3 156 384)::
(nat_lit 162,fO "times" "times" (at_ 13) m0 161)::
(nat_lit 168,cO "under" "under" 387 51 2 3 163 392)::
(nat_lit 169,fO "under" "under" (at_ 14) m0 168)::
(nat_lit 170,⟨(.type "tuple"),none,(.seq #[(.str "one" 397),(.str "other" 398)] 0), #[]⟩)::
(nat_lit 176,cO "fits_pay" "fits_pay" 404 57 1 3 171 408)::
(nat_lit 177,fO "fits_pay" "fits_pay" (at_ 19) m1 176)::
(nat_lit 183,cO "fits_door" "fits_door" 411 59 2 3 178 416)::
(nat_lit 184,fO "fits_door" "fits_door" (at_ 20) m1 183)::
(nat_lit 190,cO "common_bottom" "common_bottom" 419 61 1 3 185 425)::
(nat_lit 191,fO "common_bottom" "common_bottom" (at_ 21) m1 190)::
(nat_lit 195,dO "fits_chances" "fits_chances" 428 66 1 3 192 431)::
(nat_lit 196,fO "fits_chances" "fits_chances" (at_ 22) m1 195)::
(nat_lit 200,dO "fits_doors" "fits_doors" 434 72 2 3 197 437)::
(nat_lit 201,fO "fits_doors" "fits_doors" (at_ 23) m1 200)::
(nat_lit 205,dO "fits_row" "fits_row" 440 76 2 3 202 443)::
(nat_lit 206,fO "fits_row" "fits_row" (at_ 24) m1 205)::
(nat_lit 212,cO "copied_row" "copied_row" 446 85 1 3 207 450)::
(nat_lit 213,fO "copied_row" "copied_row" (at_ 25) m1 212)::
(nat_lit 214,⟨(.type "dict"),none,(.dict #[(en P "one" 459 (.str "other" 460)),(en P "other" 461 (.str "one" 462)),(en P "chance" 463 (.str "chance" 464))] 3), #[]⟩)::
(nat_lit 220,cO "fits_share" "fits_share" 469 93 1 3 215 473)::
(nat_lit 221,fO "fits_share" "fits_share" (at_ 30) m2 220)::
(nat_lit 227,cO "weighed" "weighed" 476 95 2 3 222 484)::
(nat_lit 228,fO "weighed" "weighed" (at_ 31) m2 227)::
(nat_lit 234,cO "greatest" "greatest" 487 100 1 3 229 493)::
(nat_lit 235,fO "greatest" "greatest" (at_ 32) m2 234)::
(nat_lit 241,cO "least" "least" 496 106 1 3 236 502)::
(nat_lit 242,fO "least" "least" (at_ 33) m2 241)::
(nat_lit 253,dO "__init__" "Floor.__init__" 517 114 3 3 250 520)::
(nat_lit 254,fO "__init__" "Floor.__init__" (Lm (at_ 34) 0) m2 253)::
(nat_lit 260,cO "size" "Floor.size" 523 125 1 3 255 527)::
(nat_lit 261,fO "size" "Floor.size" (Lm (at_ 34) 1) m2 260)::
(nat_lit 267,cO "share" "Floor.share" 530 128 1 3 262 534)::
(nat_lit 268,fO "share" "Floor.share" (Lm (at_ 34) 2) m2 267)::
(nat_lit 274,cO "kind" "Floor.kind" 537 131 2 3 269 542)::
(nat_lit 275,fO "kind" "Floor.kind" (Lm (at_ 34) 3) m2 274)::
(nat_lit 281,cO "doors" "Floor.doors" 545 134 2 3 276 550)::
(nat_lit 282,fO "doors" "Floor.doors" (Lm (at_ 34) 4) m2 281)::
(nat_lit 288,cO "pay" "Floor.pay" 553 139 2 3 283 558)::
(nat_lit 289,fO "pay" "Floor.pay" (Lm (at_ 34) 5) m2 288)::
(nat_lit 300,cO "shown" "Floor.shown" 567 147 4 3 295 575)::
(nat_lit 301,fO "shown" "Floor.shown" (Lm (at_ 34) 7) m2 300)::
(nat_lit 305,dO "all_shown" "Floor.all_shown" 578 151 3 3 302 581)::
(nat_lit 306,fO "all_shown" "Floor.all_shown" (Lm (at_ 34) 8) m2 305)::
(nat_lit 310,dO "look" "Floor.look" 584 154 3 3 307 587)::
(nat_lit 311,fO "look" "Floor.look" (Lm (at_ 34) 9) m2 310)::
(nat_lit 315,dO "best" "Floor.best" 590 164 3 3 312 593)::
(nat_lit 316,fO "best" "Floor.best" (Lm (at_ 34) 10) m2 315)::
(nat_lit 318,⟨(.type "dict"),none,(.dict #[(en P "__module__" 512 m2),(en P "__firstlineno__" 516 (.int 112 515)),(en P "__init__" 522 (.ref 254)),(en P "size" 529 (.ref 261)),(en P "share" 536 (.ref 268)),(en P "kind" 544 (.ref 275)),(en P "doors" 552 (.ref 282)),(en P "pay" 560 (.ref 289)),(en P "rows" 566 (.ref 294)),(en P "shown" 577 (.ref 301)),(en P "all_shown" 583 (.ref 306)),(en P "look" 589 (.ref 311)),(en P "best" 595 (.ref 316)),(en P "__static_attributes__" 598 (.ref 317)),(en P "__dict__" 600 (.ref 320)),(en P "__weakref__" 602 (.ref 321)),(en P "__doc__" 603 .none)] 4), #[]⟩)::
(nat_lit 319,⟨(.type "type"),none,(.cls ⟨"Floor",[(.type "object")],[(.ref 319),(.type "object")],318,"Floor",true,[],[],false,none,false⟩), #[none,none,(some (.str "Floor" 505)),(some (.str "Floor" 513)),(some (.builtin "object.__new__")),(some (.bool true))]⟩)::
(nat_lit 329,cO "with_weights" "with_weights" 608 170 1 3 324 616)::
(nat_lit 330,fO "with_weights" "with_weights" (at_ 36) m3 329)::
(nat_lit 336,cO "number_of_head" "number_of_head" 619 177 3 3 331 626)::
(nat_lit 337,fO "number_of_head" "number_of_head" (at_ 37) m3 336)::
(nat_lit 343,cO "moved_ahead" "moved_ahead" 629 182 3 3 338 635)::
(nat_lit 344,fO "moved_ahead" "moved_ahead" (at_ 38) m3 343)::
(nat_lit 348,dO "cleared_line" "cleared_line" 638 184 4 3 345 641)::
(nat_lit 349,fO "cleared_line" "cleared_line" (at_ 39) m3 348)::
(nat_lit 353,dO "cleared" "cleared" 644 186 2 3 350 647)::
(nat_lit 354,fO "cleared" "cleared" (at_ 40) m3 353)::
(nat_lit 360,cO "quotients" "quotients" 650 203 4 3 355 660)::
(nat_lit 361,fO "quotients" "quotients" (at_ 41) m3 360)::
(nat_lit 372,cO "answer_of" "answer_of" 669 213 1 3 367 679)::
(nat_lit 373,fO "answer_of" "answer_of" (at_ 43) m3 372)::
(nat_lit 377,dO "places_of" "places_of" 684 226 2 3 374 687)::
(nat_lit 378,fO "places_of" "places_of" (at_ 45) m4 377)::
(nat_lit 384,cO "first_plan" "first_plan" 690 228 2 3 379 697)::
(nat_lit 385,fO "first_plan" "first_plan" (at_ 46) m4 384)::
(nat_lit 391,cO "has_door" "has_door" 700 233 3 3 386 706)::
(nat_lit 392,fO "has_door" "has_door" (at_ 47) m4 391)::
(nat_lit 398,cO "doors_of" "doors_of" 709 235 2 3 393 717)::
(nat_lit 399,fO "doors_of" "doors_of" (at_ 48) m4 398)::
(nat_lit 405,cO "better_doors" "better_doors" 720 245 3 3 400 729)::
(nat_lit 406,fO "better_doors" "better_doors" (at_ 49) m4 405)::
(nat_lit 412,cO "ways_from" "ways_from" 732 252 3 3 407 739)::
(nat_lit 413,fO "ways_from" "ways_from" (at_ 50) m4 412)::
(nat_lit 417,dO "whole_row" "whole_row" 742 257 1 3 414 745)::
(nat_lit 418,fO "whole_row" "whole_row" (at_ 51) m4 417)::
(nat_lit 424,cO "led_row" "led_row" 748 260 5 3 419 758)::
(nat_lit 425,fO "led_row" "led_row" (at_ 52) m4 424)::
(nat_lit 429,dO "row_of" "row_of" 761 266 3 3 426 764)::
(nat_lit 430,fO "row_of" "row_of" (at_ 53) m4 429)::
(nat_lit 434,dO "worths_by" "worths_by" 767 272 2 3 431 770)::
(nat_lit 435,fO "worths_by" "worths_by" (at_ 54) m4 434)::
(nat_lit 441,cO "worths_of" "worths_of" 773 274 3 3 436 779)::
(nat_lit 442,fO "worths_of" "worths_of" (at_ 55) m4 441)::
(nat_lit 448,cO "worths_against" "worths_against" 784 277 3 3 443 791)::
(nat_lit 449,fO "worths_against" "worths_against" (at_ 57) m5 448)::
(nat_lit 455,cO "against" "against" 794 281 3 3 450 804)::
(nat_lit 456,fO "against" "against" (at_ 58) m5 455)::
(nat_lit 462,cO "started" "started" 809 292 3 3 457 815)::
(nat_lit 463,fO "started" "started" (at_ 60) m6 462)::
(nat_lit 464,⟨(.type "tuple"),none,(.seq #[(.str "one" 818), .none] 0), #[]⟩)::
(nat_lit 470,cO "mended" "mended" 819 296 3 3 465 829)::
(nat_lit 471,⟨(.type "function"),none,(.func ⟨"mended","mended",(dA (at_ 61)),(.stmts (dB (at_ 61))),(dS (at_ 61)),3,[],(.ref 464), .none, .none,m6,none,(.ref 470), .none,0⟩), #[]⟩)::
(nat_lit 477,cO "worths" "worths" 832 306 1 3 472 836)::
(nat_lit 478,fO "worths" "worths" (at_ 62) m6 477)::
(nat_lit 484,cO "_law_at" "_law_at" 841 309 2 3 479 848)::
(nat_lit 485,fO "_law_at" "_law_at" (at_ 64) m7 484)::
(nat_lit 491,cO "_law_stream" "_law_stream" 851 316 2 3 486 859)::
(nat_lit 492,fO "_law_stream" "_law_stream" (at_ 65) m7 491)::
(nat_lit 498,cO "_law_lowest" "_law_lowest" 862 323 2 3 493 869)::
(nat_lit 499,fO "_law_lowest" "_law_lowest" (at_ 66) m7 498)::
(nat_lit 505,cO "_law_pay" "_law_pay" 872 328 2 3 500 878)::
(nat_lit 506,fO "_law_pay" "_law_pay" (at_ 67) m7 505)::
(nat_lit 510,dO "_law_doors" "_law_doors" 881 333 4 3 507 884)::
(nat_lit 511,fO "_law_doors" "_law_doors" (at_ 68) m7 510)::
(nat_lit 517,cO "_law_by_digits" "_law_by_digits" 887 342 1 3 512 891)::
(nat_lit 518,fO "_law_by_digits" "_law_by_digits" (at_ 69) m7 517)::
(nat_lit 524,cO "_law_things" "_law_things" 894 344 4 3 519 904)::
(nat_lit 525,fO "_law_things" "_law_things" (at_ 70) m7 524)::
(nat_lit 531,cO "_law_share_of" "_law_share_of" 907 353 2 3 526 914)::
(nat_lit 532,fO "_law_share_of" "_law_share_of" (at_ 71) m7 531)::
(nat_lit 538,cO "_law_floor" "_law_floor" 917 357 1 3 533 934)::
(nat_lit 539,fO "_law_floor" "_law_floor" (at_ 72) m7 538)::
(nat_lit 543,dO "_law_copy" "_law_copy" 937 379 1 3 540 940)::
(nat_lit 544,fO "_law_copy" "_law_copy" (at_ 73) m7 543)::
(nat_lit 550,cO "_law_all_plans" "_law_all_plans" 943 381 2 3 545 954)::
(nat_lit 551,fO "_law_all_plans" "_law_all_plans" (at_ 74) m7 550)::
(nat_lit 557,cO "_law_less" "_law_less" 957 393 2 3 552 962)::
(nat_lit 558,fO "_law_less" "_law_less" (at_ 75) m7 557)::
(nat_lit 564,cO "_law_outermost" "_law_outermost" 965 395 2 3 559 973)::
(nat_lit 565,fO "_law_outermost" "_law_outermost" (at_ 76) m7 564)::
(nat_lit 571,cO "_law_whole" "_law_whole" 976 402 1 3 566 980)::
(nat_lit 572,fO "_law_whole" "_law_whole" (at_ 77) m7 571)::
(nat_lit 578,cO "_law_table" "_law_table" 983 404 2 3 573 989)::
(nat_lit 579,fO "_law_table" "_law_table" (at_ 78) m7 578)::
(nat_lit 583,dO "law" "law" 992 413 1 3 580 995)::
(nat_lit 584,fO "law" "law" (at_ 79) m7 583)::[]
noncomputable abbrev H:Hook:=kHook K [2,3,23,24,37,49,68,87,106,125,133,134,140,141,147,148,154,155,161,162,168,169,170,176,177,183,184,190,191,195,196,200,201,205,206,212,213,214,220,221,227,228,234,235,241,242,253,254,260,261,267,268,274,275,281,282,288,289,300,301,305,306,310,311,315,316,318,319,329,330,336,337,343,344,348,349,353,354,360,361,372,373,377,378,384,385,391,392,398,399,405,406,412,413,417,418,424,425,429,430,434,435,441,442,448,449,455,456,462,463,464,470,471,477,478,484,485,491,492,498,499,505,506,510,511,517,518,524,525,531,532,538,539,543,544,550,551,557,558,564,565,571,572,578,579,583,584] (λ_=>by kernel_rfl)
abbrev Xt:Shared->Bool:=λs=>xlAt q [] s&&recOk (RowW.records row.toRowW) s
structure Z where
  o:List (List Obj)
  n:Nat
  t:Nat
  g:List DictEntry
  c:List (List Value)
  m:Value
  s:List Value
noncomputable def tu(l:List Value):Obj:=⟨.type "tuple",none, .seq ⟨l⟩ 0, #[]⟩
noncomputable def fl(c:Value)(l:List Value):Obj:=⟨c,none, .fields ⟨l⟩, #[]⟩
noncomputable def ss:List Str->Nat->List Value
  | [],_=>[]
  | x::r,t=> .str x t::ss r (t+1)
noncomputable def lo:List (Str×NameKind)->List Str
  | []=>[]
  | (x, .local)::r=>x::lo r
  | _::r=>lo r
noncomputable def cd(x q:Str)(t l a k b:Nat)(f:Bool)(v w z:Value)(e:Nat):Obj:=fl (.type "code") [.str x t, .str q (t+1), .str "/claim/cut.py" (t+2), .int l 0, .int a 0, .int 0 0, .int 0 0, .int k 0, .ref b, .bool f, .int 181 0, .ref (b+1), .none,v,w,z, .int e 0, .int l 0, .str "/claim/cut.py" (e+1)]
noncomputable def dfO (d:Value) (x q:Str) (a:Arguments) (b:List Stmt) (s:Scope) (l:Nat) (m:Value) (n t:Nat):List Obj×Nat:=
  let f (c:Value) (g:Nat) (d m h:Value):Obj:=⟨c,none, .func ⟨x,q,a, .stmts b,s,g,[],d, .none, .none,m,none,h, .none,0⟩, #[]⟩
  match s.more with
  | []=>let v:=lo s.names
    ([tu [],fl .none [],tu (ss v (t+3)),tu [],f .none 0 .none .none .none,cd x q t l a.args.length 3 n true (.ref (n+2)) (.ref (n+3)) (.ref (n+4)) (t+3+v.length),f (.type "function") 3 d m (.ref (n+5))],t+5+v.length)
  | _=>([tu [],fl .none [],f .none 0 .none .none .none,cd x q t l a.args.length 3 n true .none .none (.ref (n+2)) (t+3),f (.type "function") 3 d m (.ref (n+3))],t+5)
noncomputable def mt (P:Params) (x:Str) (m:Value):List Stmt->Nat->Nat->List Obj×List DictEntry×List Value×Nat×Nat
  | .FunctionDef y a b _ _ _ s _ _ p::r,n,t=>match dfO .none y (x++"."++y) a b s p.line m n t with
    | (os,k)=>match mt P x m r (n+os.length) (k+1) with
      | (o,e,c,w)=>(os++o,en P y k (.ref (n+os.length - 1))::e, .int p.line 0:: .int p.col 0:: .ref (n+os.length - 2)::c,w)
  | _::r,n,t=>mt P x m r n t
  | [],n,t=>([],[],[],n,t)
noncomputable def ty(x:Str)(bs mro:List Value)(d t:Nat)(b:Option Value)(w:String)(s:List Value):Obj:=⟨.type "type",none, .cls ⟨x,bs, .ref (d+1)::mro,d,x,true,[],s,false,none,false⟩, #[b,none,some (.str x t),some (.str x (t+8)),some (.builtin w),some (.bool true)]⟩
noncomputable abbrev VE:List Value:=[.type "ValueError", .type "Exception", .type "BaseException", .type "object"]
noncomputable def clO (P:Params) (x:Str) (bs:List Expr) (b:List Stmt) (sa:List Str) (l:Nat) (m:Value) (n t:Nat):List Obj×Nat×Nat:=
  match mt P x m b (n+7) (t+12) with
  | (mo,me,mc,n2,t2)=>
    let k:=t2+sa.length
    let e1:=en P "__module__" (t+7) m
    let e2:=en P "__firstlineno__" (t+11) (.int l (t+10))
    let e3:=en P "__static_attributes__" k (.ref n2)
    let ds (w k:Nat) (x:List DictEntry):Obj:=⟨.type "dict",none, .dict ⟨e1::e2::(me++e3::(x++[en P "__doc__" k .none]))⟩ w, #[]⟩
    let de (x:Str) (t:Nat) (u:String) (v:Value):Obj:=fl (.type "getset_descriptor") [.str x t, .ref (n2+2), .builtin u,v]
    let h (bt:List Value) (r:List Obj):List Obj:=tu bt::fl (.type "builtin_function_or_method") [.builtin "type.__prepare__", .type "type"]::⟨.type "dict",none, .dict ⟨e1::en P "__qualname__" (t+9) (.str x (t+8))::e2::(me++[e3])⟩ (4+me.length), #[]⟩::tu []::fl .none mc::cd x x (t+2) l 0 0 (n+3) false .none .none .none (t+5)::⟨.type "frame",none, .plain, #[some (.ref (n+5)),some (.ref 3),some (.ref (n+2)),none,some m,none,some (.ref 0)]⟩::(mo++tu (ss sa t2)::(r++[fl (.type "super") [.ref (n2+2), .ref (n2+2), .ref (n2+2)],fl (.type "builtin_function_or_method") [.builtin "object.__init_subclass__", .ref (n2+2)]]))
    match bs with
    | []=>(h [] [ds 4 (k+5) [en P "__dict__" (k+2) (.ref (n2+3)),en P "__weakref__" (k+4) (.ref (n2+4))],ty x [.type "object"] [.type "object"] (n2+1) t none "object.__new__" [],de "__dict__" (k+1) "function.__dict__" (.builtin "function.__dict__#set"),de "__weakref__" (k+3) "ExceptionGroup.__weakref__" .none],k+7,n2+2)
    | _=>match n with
      | 15=>(h [.type "ValueError"] [ds 3 (k+3) [en P "__weakref__" (k+2) (.ref (n2+3))],ty x [.type "ValueError"] VE (n2+1) t (some (.ref n)) "ValueError.__new__" [],de "__weakref__" (k+1) "ExceptionGroup.__weakref__" .none],k+5,n2+2)
      | _=>(h [.ref 24] [ds 2 (k+1) [],ty x [.ref 24] (.ref 24::VE) (n2+1) t (some (.ref n)) "ValueError.__new__" []],k+3,n2+2)
noncomputable def ls:List Expr->Nat->List Value×Nat
  | .Constant (.str z) _ _::r,t=>match ls r (t+1) with
    | (v,k)=>(.str z t::v,k)
  | .Constant (.int z) _ _::r,t=>match ls r (t+1) with
    | (v,k)=>(.int z t::v,k)
  | .Constant .none _ _::r,t=>match ls r t with
    | (v,k)=>(.none::v,k)
  | _,t=>([],t)
noncomputable def gv(x:Str):List DictEntry->Value
  | ⟨_, .str y _,v⟩::r=>if x=y then v else gv x r
  | _=> .none
noncomputable def dv (P:Params) (g:List DictEntry):List (Option Expr)->List Expr->Nat->List DictEntry×Nat
  | some (.Constant (.str z) _ _)::r, .Name x _::u,t=>match dv P g r u (t+1) with
    | (e,k)=>(en P z t (gv x g)::e,k+1)
  | some (.Constant (.str z) _ _)::r,c::u,t=>match ls [c] (t+1) with
    | (v,k)=>match dv P g r u k with
      | (e,k)=>(en P z t (v.headD .none)::e,k+1)
  | _,_,t=>([],t)
noncomputable def stp (P:Params) (z:Z):Stmt->Z
  | .FunctionDef x a b _ _ _ s _ _ p=>match a.defaults with
    | []=>match dfO .none x x a b s p.line z.m z.n z.t with
      | (os,k)=>{z with o:=os::z.o,n:=z.n+os.length,t:=k+1,g:=en P x k (.ref (z.n+os.length - 1))::z.g,c:=[.int p.line 0, .int p.col 0, .ref (z.n+os.length - 2)]::z.c}
    | ds=>match ls ds z.t with
      | (v,k)=>match dfO (.ref z.n) x x a b s p.line z.m (z.n+1) k with
        | (os,k)=>{z with o:=os::[tu v]::z.o,n:=z.n+1+os.length,t:=k+1,g:=en P x k (.ref (z.n+os.length))::z.g,c:=[.int p.line 0, .int p.col 0, .ref (z.n+os.length - 1)]::z.c}
  | .ClassDef x bs _ b _ _ _ _ _ sa p=>match clO P x bs b sa p.line z.m z.n z.t with
    | (os,k,d)=>{z with o:=os::z.o,n:=z.n+os.length,t:=k+1,g:=en P x k (.ref d)::z.g,c:=[.int p.line 0, .int p.col 0, .ref (z.n+5)]::z.c,s:=match z.n with
        | 15=>[]
        | _=>match bs with
          | []=>z.s
          | _=> .ref d::z.s}
  | .Assign [.Name x _] (.Tuple es _ _) _=>match ls es z.t with
    | (v,k)=>{z with o:=[tu v]::z.o,n:=z.n+1,t:=k+1,g:=en P x k (.ref z.n)::z.g}
  | .Assign [.Name x _] (.Dict ks vs _) _=>match dv P z.g ks vs z.t with
    | (e,k)=>{z with o:=[⟨.type "dict",none, .dict ⟨e⟩ e.length, #[]⟩]::z.o,n:=z.n+1,t:=k+1,g:=en P x k (.ref z.n)::z.g}
  | .Assign [.Name x _] c _=>match ls [c] z.t with
    | (v,k)=>if x="__name__" then {z with t:=k+1,m:=v.headD .none} else {z with t:=k+1,g:=en P x k (v.headD .none)::z.g}
  | _=>z
noncomputable def z0:Z:=⟨[],15,187,[],[], .str "__main__" 164,[]⟩
noncomputable def zs(P:Params)(k:Nat):Z:=((behindTheImports row.prog).take k).foldl (stp P) z0
noncomputable def g9(P:Params)(m:Value):List DictEntry:=[en P "__name__" 165 m,en P "__doc__" 166 .none,en P "__package__" 167 .none,en P "__loader__" 168 (.builtin "__main__.__loader__#opaque"),en P "__spec__" 169 .none,en P "__annotations__" 170 (.ref 6),en P "__builtins__" 171 (.ref 4),en P "__file__" 173 (.str "/claim/cut.py" 172),en P "__cached__" 174 .none]
noncomputable def zl(P:Params)(z:Z):List Obj:=boot_o_0 P::boot_o_1 P::boot_o_2 P::⟨.type "dict",none, .dict ⟨g9 P z.m++z.g.reverse⟩ (z.g.length+9), #[]⟩::boot_o_4 P::boot_o_5 P::boot_o_6 P::boot_o_7 P::boot_o_8 P::boot_o_9 P::boot_o_10 P::tu []::fl .none z.c.reverse.flatten::cd "<module>" "<module>" 182 1 0 0 11 false .none .none .none 185::⟨.type "frame",none, .plain, #[some (.ref 13),some (.ref 3),some (.ref 3),none,some (.str "__main__" 164),none,some (.ref 0)]⟩::(z.o.reverse.flatten.set 9 (ty "DuelError" [.type "ValueError"] VE 23 189 (some (.ref 15)) "ValueError.__new__" z.s.reverse))
noncomputable def od:List Obj->List Obj
  | x::_::r=>x::od r
  | l=>l
noncomputable def mkT:Nat->List Obj->BT
  | 0,_=> .nil
  | _,[]=> .nil
  | n+1,x::r=> .node x (mkT n (od r)) (mkT n (od r.tail))
noncomputable def T(P:Params)(k:Nat):BT:=mkT 12 (zl P (zs P k))
noncomputable abbrev S(k n t:Nat)(w:World)(os:OsState):SharedT:=⟨T w.params k,n,{}, #[],{},t,os⟩
noncomputable def env:Env:={scope:=row.prog.main.scope,locals:=mainNs,globals:=mainNs,cells:=[],code:= .ref 13,frame:=some 14}
noncomputable abbrev bI:List Stmt:=behindTheImports row.prog
noncomputable def cE:Code:= .body bI env
noncomputable abbrev tF:List Frame:=[topFrame ⟨0,0,0,0⟩]
noncomputable abbrev sg(w:World)(os:OsState)(N k n t:Nat)(p:Pos)(l:Nat):=segRunT treeTable row.prog w 11 (some (.ref 6)) 1 N (S k n t w os) (piecesOf ((bI.drop k).take l) env cE p tF)
noncomputable abbrev sr(w:World)(os:OsState)(k n t:Nat)(p:Pos):Option (Flow×SharedT×Code×Pos):=some (.next,S k n t w os,cE,p)
noncomputable abbrev se(w:World)(N k n t:Nat)(p:Pos)(l:Nat)(k' n' t':Nat)(p':Pos):Prop:=(λos=>sg w os N k n t p l)=λos=>sr w os k' n' t' p'
theorem lw:looseW q ["TURNED_KINDS","mended"]=(["TURNED_KINDS","mended","HANDS"]:List Str):=by kernel_rfl
theorem s0(w:World):se w 2060 0 15 187 ⟨0,0,0,0⟩ 29 29 214 459 ⟨91,0,91,17⟩:=by kernel_rfl
theorem s29f(w:World):se (w.withFollow "special-get-raises" false) 56 29 214 459 ⟨91,0,91,17⟩ 1 30 215 469 ⟨92,0,92,12⟩:=by kernel_rfl
theorem s29t(w:World):se (w.withFollow "special-get-raises" true) 56 29 214 459 ⟨91,0,91,17⟩ 1 30 215 469 ⟨92,0,92,12⟩:=by kernel_rfl
theorem s29(w:World):se w 56 29 214 459 ⟨91,0,91,17⟩ 1 30 215 469 ⟨92,0,92,12⟩:=byRow2 "special-get-raises" (P:=λw=>se w 56 29 214 459 ⟨91,0,91,17⟩ 1 30 215 469 ⟨92,0,92,12⟩) s29f s29t w
theorem s30(w:World):se w 1937 30 215 469 ⟨92,0,92,12⟩ 50 80 585 998 ⟨413,0,431,59⟩:=by kernel_rfl
theorem pre(w:World)(os:OsState):topGo treeTable row.prog w 11 (some (.ref 6)) 12 ⟨boot_heap w.params, #[],boot_drawn,boot_toks,os⟩ (topStub row.prog)=some ((S 0 15 187 w os).abs,⟨denote treeTable cE,cE,⟨0,0,0,0⟩,tF⟩):=by kernel_rfl
theorem blk(w:World)(os:OsState):segRun treeTable row.prog w 11 (some (.ref 6)) 1 1 (S 0 15 187 w os).abs (blockOf bI env cE ⟨0,0,0,0⟩ tF)=some (.next,(S 0 15 187 w os).abs,cE,⟨0,0,0,0⟩):=by kernel_rfl
theorem fin(w:World)(s:Shared)(p:Pos):topRun treeTable row.prog w 11 (some (.ref 6)) 2 s (restOf (bI.drop 80) env cE p tF)=some s:=by rewrite [show bI.drop 80=[] by kernel_rfl];rfl
theorem siz(w:World):((boot_heap w.params).isNs mainGlobals&&(#[]:Array GenState).size==0,(boot_heap w.params).objs.size,(boot_heap w.params).nsMap mainGlobals "__annotations__")=(true,11,some (.ref 6)):=by kernel_rfl
theorem opn:opening row.prog=plainProg row.prog.main.scope.names:=by kernel_rfl
theorem fen(s:Shared):fenceModules? row.prog s=some s:=by kernel_rfl
theorem pc{w:World}{n N k l:Nat}{s s':SharedT}{r:Shared}{p p':Pos}(h:segRunT treeTable row.prog w 11 (some (.ref 6)) 1 n s (piecesOf ((bI.drop k).take l) env cE p tF)=some (.next,s',cE,p'))(g:topRun treeTable row.prog w 11 (some (.ref 6)) N s'.abs (restOf (bI.drop (k+l)) env cE p' tF)=some r):topRun treeTable row.prog w 11 (some (.ref 6)) (n+N) s.abs (restOf (bI.drop k) env cE p tF)=some r:=by
  have e:(bI.drop k).take l++bI.drop (k+l)=bI.drop k:=by rw [<-List.drop_drop,List.take_append_drop]
  rewrite [<-e];exact piece_app (segRun_of h) g
theorem run(w:World)(os:OsState):topRun treeTable row.prog w 11 (some (.ref 6)) (12+(1+(2060+(56+(1937+(2)))))) ⟨boot_heap w.params, #[],boot_drawn,boot_toks,os⟩ (topStub row.prog)=some (S 80 585 998 w os).abs:=go_top (pre w os) (piece_block (blk w os) (pc (congrFun (s0 w) os) (pc (congrFun (s29 w) os) (pc (congrFun (s30 w) os) (fin w _ _)))))
noncomputable abbrev sE(w:World)(os:OsState):Shared:=(S 80 585 998 w os).abs
theorem l1(w:World)(os:OsState):(staticsOk (importedModules row.prog.main.body) (boot_heap w.params) (sE w os).heap&&namesBound row.prog (sE w os).heap&&gensDone (sE w os)&&laidKept (boot_heap w.params) (sE w os).heap)=true:=by kernel_rfl
section
variable{A B D E F G I J:Type}{u t:A×B×Bool×D×E×F×G×I×J}
noncomputable def p1:A×B×Bool×D×E×F×G×I×J->A
  | (a,_,_,_,_,_,_,_,_)=>a
noncomputable def p2:A×B×Bool×D×E×F×G×I×J->B
  | (_,b,_,_,_,_,_,_,_)=>b
noncomputable def p4:A×B×Bool×D×E×F×G×I×J->Bool
  | (_,_,c,_,_,_,_,_,_)=>c
noncomputable def p3:A×B×Bool×D×E×F×G×I×J->D
  | (_,_,_,d,_,_,_,_,_)=>d
noncomputable def p5:A×B×Bool×D×E×F×G×I×J->E
  | (_,_,_,_,e,_,_,_,_)=>e
noncomputable def p6:A×B×Bool×D×E×F×G×I×J->F
  | (_,_,_,_,_,f,_,_,_)=>f
noncomputable def p7:A×B×Bool×D×E×F×G×I×J->G
  | (_,_,_,_,_,_,g,_,_)=>g
noncomputable def p8:A×B×Bool×D×E×F×G×I×J->I
  | (_,_,_,_,_,_,_,g,_)=>g
noncomputable def p9:A×B×Bool×D×E×F×G×I×J->J
  | (_,_,_,_,_,_,_,_,g)=>g
theorem q6{a b c d e f g i j}:p6 ((a,b,c,d,e,f,g,i,j):A×B×Bool×D×E×F×G×I×J)=f:=rfl
theorem pr(h:p1 u=t.1)(g:p2 u=t.2.1)(g1:p4 u=true)(g2:t.2.2.1=true)(k:p3 u=t.2.2.2.1)(k1:p5 u=t.2.2.2.2.1)(k2:p6 u=t.2.2.2.2.2.1)(k3:p7 u=t.2.2.2.2.2.2.1)(k4:p8 u=t.2.2.2.2.2.2.2.1)(k5:p9 u=t.2.2.2.2.2.2.2.2):u=t:=Prod.ext h (Prod.ext g (Prod.ext (g1.trans g2.symm) (Prod.ext k (Prod.ext k1 (Prod.ext k2 (Prod.ext k3 (Prod.ext k4 k5)))))))
end
noncomputable abbrev sn(w:World)(os:OsState):=openSeen q ["TURNED_KINDS","mended"] (importedModules row.prog.main.body) Xt true (sE w os)
noncomputable abbrev gd:=openGood q ["TURNED_KINDS","mended"]
variable(w:World)(os:OsState)
theorem la:p1 (sn w os)=gd.1:=by kernel_rfl
theorem lb:p2 (sn w os)=gd.2.1:=by kernel_rfl
theorem lp:(sE w os).heap.keysOk (looseW q ["TURNED_KINDS","mended"]) ((recsOf q).map (·.name)) ((litsOf q).map (·.1)) ((clssOf q (looseW q ["TURNED_KINDS","mended"])).map (·.name))=true:=by rw[lw];kernel_rfl
theorem lq:(sE w os).heap.accountedOkI (importedModules row.prog.main.body)=true:=by kernel_rfl
theorem lr:(sE w os).heap.isNs mainGlobals=true:=by kernel_rfl
theorem lt:(sE w os).heap.isNs builtinsNs=true:=by kernel_rfl
theorem lu:tablesOk q (sE w os).heap=true:=by kernel_rfl
theorem lv:Xt (sE w os)=true:=by kernel_rfl
theorem p4e(s:Shared):p4 (openSeen q ["TURNED_KINDS","mended"] (importedModules row.prog.main.body) Xt true s)=(s.heap.keysOk (looseW q ["TURNED_KINDS","mended"]) ((recsOf q).map (·.name)) ((litsOf q).map (·.1)) ((clssOf q (looseW q ["TURNED_KINDS","mended"])).map (·.name))&&s.heap.accountedOkI (importedModules row.prog.main.body)&&s.heap.isNs mainGlobals&&s.heap.isNs builtinsNs&&tablesOk q s.heap&&Xt s&&(s.gens.size==0)):=rfl
theorem ld:p4 (sn w os)=true:=(p4e _).trans (look_both (look_both (look_both (look_both (look_both (look_both (lp w os) (lq w os)) (lr w os)) (lt w os)) (lu w os)) (lv w os)) rfl)
theorem na:(((recsOf q).take 50).all λd=>(sE w os).heap.tab0Ok d.name)=true:=by kernel_rfl
theorem ne:(((recsOf q).drop 50).all λd=>(sE w os).heap.tab0Ok d.name)=true:=by kernel_rfl
theorem nt{α}{l:List α}{f}(h:(l.take 50).all f=true)(g:(l.drop 50).all f=true):l.all f=true:=by rw[<-l.take_append_drop 50,List.all_append,h,g];rfl
theorem nb:(sE w os).heap.bmainOk=true:=by kernel_rfl
theorem nc:valsOk q (sE w os).heap=true:=by kernel_rfl
theorem nd:(!importsNone q||(sE w os).heap.noSeerOk)=true:=by kernel_rfl
theorem p3e(s:Shared):p3 (openSeen q ["TURNED_KINDS","mended"] (importedModules row.prog.main.body) Xt true s)=tabsOk q s:=rfl
theorem lc:p3 (sn w os)=gd.2.2.2.1:=(p3e _).trans (look_both (look_both (look_both (nt (na w os) (ne w os)) (nb w os)) (nc w os)) (nd w os))
theorem le:p5 (sn w os)=gd.2.2.2.2.1:=by kernel_rfl
theorem p6e(s:Shared):p6 (openSeen q ["TURNED_KINDS","mended"] (importedModules row.prog.main.body) Xt true s)=plainSeenE q (looseW q ["TURNED_KINDS","mended"]) s:=by delta openSeen;exact q6
theorem ga:plainSeenE q (looseW q ["TURNED_KINDS","mended"]) (sE w os)=plainGoodE q (looseW q ["TURNED_KINDS","mended"]):=by rw[lw];kernel_rfl
theorem lg:p6 (sn w os)=gd.2.2.2.2.2.1:=(p6e _).trans (ga w os)
theorem lh:p7 (sn w os)=gd.2.2.2.2.2.2.1:=by kernel_rfl
theorem lj:p8 (sn w os)=gd.2.2.2.2.2.2.2.1:=by kernel_rfl
theorem lm:p9 (sn w os)=gd.2.2.2.2.2.2.2.2:=by kernel_rfl
theorem l2:sn w os=gd:=pr (la w os) (lb w os) (ld w os) rfl (lc w os) (le w os) (lg w os) (lh w os) (lj w os) (lm w os)
theorem l3:H.obs (sE w os)=H.val w:=by kernel_rfl
theorem left:LeftO row.prog q ["TURNED_KINDS","mended"] Xt H.obs H.val 8226:=LeftO.of_pieces (H₀:=boot_heap) (H₁:=λP=>absHeap (T P 80) 585 {}) (gs₀:= #[]) (gs₁:= #[]) (d₀:=boot_drawn) (d₁:={}) (k₀:=boot_toks) (k₁:=998) (boot_open opn rfl fen) siz run rfl λw=>funext λos=>looks_pair (l1 w os) (looks_pair (l2 w os) (l3 w os))
end Hd
local macro_rules|`(())=>`(by omega)
local macro_rules|`(@_)=>`(by decide)
open Lean in
def rpt:Nat → Term → MacroM (TSyntax `rcasesPat)
|0,_=>Macro.throwUnsupported
|n+1,t=>match t with
|`(⟨$a,*⟩)=>do
 let b←a.getElems.mapM (rpt n)
 let b←b.mapM λp=>`(Lean.Parser.Tactic.rcasesPatLo|$p:rcasesPat)
 `(rcasesPat|⟨$b,*⟩)
|`(_)=>`(rcasesPat|_)
|`($x:ident)=>`(rcasesPat|$x:ident)
|_=>Macro.throwUnsupported
open Lean in
local macro_rules|`(tactic|have ⟨$a,*⟩:=$e)=>do
 let p←rpt 99 (←`(⟨$a,*⟩))
 `(tactic|obtain $p:rcasesPat:=$e)
open Lean in
local macro_rules|`(λ$xs*=>$b)=>do
 let mut ys:=#[]
 let mut ts:=#[]
 if (←MonadRef.getRef)[0].isToken "fun" then Macro.throwUnsupported
 for x in xs do
  if x.1.isOfKind `Lean.Parser.Term.anonymousCtor then
   let p←rpt 99 ⟨x.1⟩
   let y←withFreshMacroScope `(h)
   ys:=ys.push y
   ts:=ts.push (←`(tactic|obtain $p:rcasesPat:=$y))
  else ys:=ys.push ⟨x.1⟩
 if ts.isEmpty then Macro.throwUnsupported
 `(λ$ys*=>by{$[$ts]*;exact $b})
set_option hygiene false in
local macro_rules|`($g &&& ($F,$a,$n))=>`(mc $g (($F).binds λ_ _ _ _ _ _=>$n) (mg_of X G $a) ($F).kp)
set_option hygiene false in
local macro_rules|`($g ||| ($F,$a,$i,$n))=>`(⟨$g,(($F).binds λ_ _ _ _ _ _=>$n),⟨fN,fC,fB,fJ⟩,⟨$a,$i,($F).kp⟩⟩)
set_option genSizeOf false
set_option bootstrap.genMatcherCode false
def gV:2<=PySem.sizeLine:=@_
abbrev fI:=PySem.W.Frag
namespace L2
open PySem PySem.Spec PyProof.Rows
variable{us:List Value}{a b dx C:Addr}{P prog:Program}{w:World}{h h' base:Heap}{ζ:List (Addr×Obj)}{s:Shared}{g':Array GenState}{ch fp:List Addr}{i:Nat}{x:Str}{M:Model}{A:Around}{E Q:Value->Shared->Prop}{u:Value}{pos:Pos}{e c tg:Expr}{es:List Expr}{body:List Stmt}{f:Value->Value->Sem Value}{op:CmpOp}{mA mg:Str->Option Value}{kw:List (Str×Value)}{outer:List Env}{ps:List Str}
abbrev Key:=Sum Int Str
def v7:Key->Value->Bool
 | .inl k,v=>Value.isInt k v
 | .inr x,v=>Value.isStrOf x v
def Xe(w:World):Key->Int
 | .inl k=>hashInt k
 | .inr x=>hashStr w x
def bC:∀{k:Key} {v:Value},v7 k v=true->(∃i t,k=Sum.inl i/\v=Value.int i t)\/(∃x t,k=Sum.inr x/\v=Value.str x t)
 | .inl i,v,h=>by have⟨t,e⟩:=Value.isInt_shape (k:=i) (v:=v) h;exact .inl ⟨i,t,rfl,e⟩
 | .inr x,v,h=>by have⟨t,e⟩:=Value.isStrOf_shape (x:=x) (v:=v) h;exact .inr ⟨x,t,rfl,e⟩
def GH(i:Int)(t:Tok):v7 (.inl i) (.int i t)=true:=by simp[v7,Value.isInt]
def Fv(x:Str)(t:Tok):v7 (.inr x) (.str x t)=true:=by simp[v7,Value.isStrOf]
def OT(a b:Int):decide ((Sum.inl a:Key)=Sum.inl b)=(a==b):=by
 by_cases e:a=b
 ·subst e;simp
 ·have h:¬(Sum.inl a:Key)=Sum.inl b:=λq=>e (Sum.inl.inj q);rw[aaG h];exact(beq_eq_false_iff_ne.mpr e).symm
def Qm(a b:Str):decide ((Sum.inr a:Key)=Sum.inr b)=decide (a=b):=by
 by_cases e:a=b
 ·subst e;simp
 ·have h:¬(Sum.inr a:Key)=Sum.inr b:=λq=>e (Sum.inr.inj q);rw[aaG h,aaG e]
def OV(a:Int)(b:Str):decide ((Sum.inl a:Key)=Sum.inr b)=false:=aaG (λq=>nomatch q)
def PD(a:Str)(b:Int):decide ((Sum.inr a:Key)=Sum.inl b)=false:=aaG (λq=>nomatch q)
def bI(prog:Program)(w:World):PySem.KeyKind prog w Key where
 is:=v7
 hash:=Xe w
 inj:=λv a b ha hb=>by
  rcases bC ha with ⟨i,t,rfl,rfl⟩| ⟨x,t,rfl,rfl⟩
  ·rcases bC hb with ⟨j,u,rfl,e⟩| ⟨y,u,rfl,e⟩
   ·injection e with e1 _;rw[e1]
   ·exact nomatch e
  ·rcases bC hb with ⟨j,u,rfl,e⟩| ⟨y,u,rfl,e⟩
   ·exact nomatch e
   ·injection e with e1 _;rw[e1]
 byValue:=λk v h=>by rcases bC h with ⟨i,t,rfl,rfl⟩| ⟨x,t,rfl,rfl⟩ <;> rfl
 pyHash:=λhv h=>by
  rcases bC hv with ⟨i,t,rfl,rfl⟩| ⟨x,t,rfl,rfl⟩
  ·exact wpAny_pyHash_int h
  ·exact wpAny_pyHash_str h
 eqBool:=λhu hv h=>by
  rcases bC hu with ⟨i,t,rfl,rfl⟩| ⟨x,t,rfl,rfl⟩
  ·rcases bC hv with ⟨j,u,rfl,rfl⟩| ⟨y,u,rfl,rfl⟩
   ·rw[OT]at h;exact wpAny_eqBool_int h
   ·rw[OV]at h;exact SeqAt.EqAt.int_str i t y u _ _ _ _ h
  ·rcases bC hv with ⟨j,u,rfl,rfl⟩| ⟨y,u,rfl,rfl⟩
   ·rw[PD]at h;exact SeqAt.EqAt.str_int x t j u _ _ _ _ h
   ·rw[Qm]at h;exact wpAny_eqBool_str h
 «strs»:=λk x t v h=>by
  rcases bC h with ⟨i,u,rfl,e⟩| ⟨y,u,rfl,e⟩
  ·exact nomatch e
  ·injection e with e1 _
   subst e1;cases v <;> rfl
def zR(prog:Program)(w:World)(i:Int)(t:Tok):(bI prog w).is (.inl i) (.int i t)=true:=GH i t
def A9(prog:Program)(w:World)(x:Str)(t:Tok):(bI prog w).is (.inr x) (.str x t)=true:=Fv x t
inductive V where
 | bF| bl (b:Bool)| int (i:Int)| str (x:Str)| Hs (b:Array UInt8)| Ru (b:UInt64)| ref (a:Addr)| ty (n:String)
 deriving DecidableEq
variable{v:V}
def aF:V->Value->Prop
 | .bF,u=>u=Value.none
 | .bl b,u=>u=Value.bool b
 | .int i,u=>∃t,u=Value.int i t
 | .str x,u=>∃t,u=Value.str x t
 | .Hs b,u=>∃t,u=Value.bytes b t
 | .Ru b,u=>∃t,u=Value.float b t
 | .ref a,u=>u=Value.ref a
 | .ty n,u=>u=Value.type n
abbrev aC:List V->List Value->Prop:=Paired aF
def aC.length{xs:List V}(r:aC xs us):xs.length=us.length:=Paired.length r
def aC.get:∀{xs:List V} {us:List Value} {i:Nat} {x:V},aC xs us->xs[i]? =some x->∃u,us[i]? =some u/\aF x u
 | _,_,_,_,.nil,e=>by simp at e
 | _,_,0,_,.cons r _,e=>by simp at e;subst e;exact⟨_,rfl,r⟩
 | _,_,i+1,x,.cons _ t,e=>by have⟨u,h1,h2⟩:=aC.get (i:=i) (x:=x) t (by simpa using e);exact⟨u,by simpa using h1,h2⟩
def aC.set{x:V}{u:Value}(r:aF x u):∀{xs:List V} {us:List Value} (i:Nat),aC xs us->aC (xs.set i x) (us.set i u)
 | _,_,_,.nil=>.nil
 | _,_,0,.cons _ t=>.cons r t
 | _,_,i+1,.cons q t=>.cons q (aC.set r i t)
def aC.append:∀{xs ys:List V} {us ws:List Value},aC xs us->aC ys ws->aC (xs++ys) (us++ws)
 | _,_,_,_,.nil,s=>s
 | _,_,_,_,.cons r t,s=>.cons r (aC.append t s)
def aC.take:∀{xs:List V} {us:List Value} (n:Nat),aC xs us->aC (xs.take n) (us.take n)
 | _,_,0,_=>.nil
 | _,_,_+1,.nil=>.nil
 | _,_,n+1,.cons r t=>.cons r (aC.take n t)
def aC.drop:∀{xs:List V} {us:List Value} (n:Nat),aC xs us->aC (xs.drop n) (us.drop n)
 | _,_,0,r=>r
 | _,_,_+1,.nil=>.nil
 | _,_,n+1,.cons _ t=>aC.drop n t
def kI:Option V->Option Value->Prop
 | some v,some u=>aF v u
 | none,none=>True
 | _,_=>False
def KV{κ:Type}:List (κ×V)->List (κ×Value)->Prop:=Paired λ(p:κ×V) (q:κ×Value)=>p.1=q.1/\aF p.2 q.2
def kV:Key->V
 | .inl i=>.int i
 | .inr x=>.str x
inductive HO where
 | lst (xs:List V)
 | tup (xs:List V)
 | dK (Ν:List (Key×V))| dT (Ν:List (List Key×V))
 | set (S:Int->Bool) (n:Nat)
 | ins (C dx:Addr) (fs:List (Str×V))
 | own (x:Addr)
 | xd (fs:List (Str×V))
 | met (f x:Addr)
 | WZ (lo hi:Int)
 | yS (o:Obj) (u:HO)
 | LR (ps:Array Value)
 | ext (φ:Heap->Prop)
variable{o:HO}
abbrev Hp:=Addr->Option HO
def upd(H:Hp)(a:Addr)(o:HO):Hp:=λb=>if b=a then some o else H b
def af{H:Hp}:upd H a o a=some o:=by unfold upd;rw[if_pos rfl]
def Θ{H:Hp}(h:b≠a):upd H a o b=H b:=by unfold upd;rw[if_neg h]
def TC{H:Hp}{u:HO}(h:H a=some o)(h':H b=some u)(d:o≠u):a≠b:=by intro e;subst e;rw[h]at h';exact d (aax h')
def bV{H:Hp}(h:H a=some o)(h':H b=none):a≠b:=by intro e;subst e;rw[h]at h';cases h'
section
variable(P:Program)(w:World)
def b8(H:Hp)(h:Heap)(a:Addr):HO->Prop
 | .lst xs=>xs.length<=sizeLine/\∃(its:List Value) (n:Nat),aC xs its/\h.get? a=some {cls:=.type "list",data:=.seq its.toArray n}
 | .tup xs=>xs.length<=sizeLine/\∃its:List Value,aC xs its/\IsTup h a its.toArray
 | .dK Ν=>Ν.length<=sizeLine/\(a==sysModules)=false/\∃vs,KV Ν vs/\h.DictOf (bI P w) a vs
 | .dT Ν=>Ν.length<=sizeLine/\(a==sysModules)=false/\∃xs:List (List Key×Addr×Value),
   Paired (λ(p:List Key×V) (q:List Key×Addr×Value)=>p.1=q.1/\H q.2.1=some (.tup (p.1.map kV))/\aF p.2 q.2.2) Ν xs/\
   ∃o es ep,h.get? a=some o/\o.ExactDict/\o.data= .dict es ep/\es.toList=xs.map (entryOfKey (tupleKind (bI P w)))/\(xs.map (·.1)).Nodup
 | .set S n=>h.SetOf (intKind P w) a S n
 | .ins C dx fs=>H dx=some (.own a)/\fs.length<=1000/\dx≠a/\h.get? a=some (PySem.W.instObj C dx)/\
   ∃mA,h.Ns1 dx mA/\(∀f,kI (fs.lookup f) (mA f))/\PySem.Within mA (fs.map (·.1))
 | .own _=>∃o,h.get? a=some o
 | .xd fs=>∃mA,h.Ns1 a mA/\∀f,kI (fs.lookup f) (mA f)
 | .WZ lo hi=>∃t u v,h.get? a=some {cls:=.type "range",data:=.fields #[.int lo t,.int hi u,.int 1 v]}
 | .yS o u=>h.get? a=some o/\b8 H h a u
 | .LR ps=>h.get? a=some {cls:=.none,data:=.fields ps}
 | .met f x=>h.get? a=some (PySem.W.methodObj (.ref f) (.ref x))
 | .ext φ=>φ h/\(∃o,h.get? a=some o)/\∀h1 h2:Heap,φ h1->(∀o,h1.get? a=some o->h2.get? a=some o)->φ h2
def lR(H:Hp)(h:Heap):Prop:=∀a o,H a=some o->b8 P w H h a o
end
section
variable{H H':Hp}
def b8.lt(x:b8 P w H h a o):a < h.objs.size:=by
 cases o with
 | lst xs=>have⟨_,_,_,_,e⟩:=x;exact aar e
 | tup xs=>have⟨_,_,_,p⟩:=x;exact p.lt
 | dK Ν=>have⟨_,_,_,_,o,_,_,e,_⟩:=x;exact aar e
 | dT Ν=>have⟨_,_,_,_,o,_,_,e,_⟩:=x;exact aar e
 | set S n=>have⟨o,_,_,_,e,_⟩:=x;exact aar e
 | ins C dx fs=>have⟨_,_,_,e,_⟩:=x;exact aar e
 | own y=>have⟨_,e⟩:=x;exact aar e
 | xd fs=>have⟨_,⟨_,_,_,e,_⟩,_⟩:=x;exact aar e
 | WZ lo hi=>have⟨_,_,_,e⟩:=x;exact aar e
 | yS ob u=>have⟨e,_⟩:=x;exact aar e
 | LR ps=>exact aar (show h.get? a=some _ from x)
 | met f y=>exact aar (show h.get? a=some _ from x)
 | ext φ=>have⟨_,⟨_,e⟩,_⟩:=x;exact aar e
def Paired.Pc{α β:Type}{F G:α->β->Prop}:∀{l₁:List α} {l₂:List β},Paired F l₁ l₂->(∀a b,F a b->G a b)->Paired G l₁ l₂
 | _,_,.nil,_=>.nil
 | _,_,.cons r t,f=>.cons (f _ _ r) (Paired.Pc t f)
def b8.uF(x:b8 P w H h a o)(k:∀b u,(b=a\/H b=some (.own a))->h.get? b=some u->h'.get? b=some u)
  (ho:∀b,H b=some (.own a)->H' b=some (.own a)) (ht:∀b xs,H b=some (.tup xs)->H' b=some (.tup xs)):b8 P w H' h' a o:=by
 induction o with
 | lst xs=>have⟨z,its,n,r,e⟩:=x;exact⟨z,its,n,r,k _ _ (.inl rfl) e⟩
 | tup xs=>have⟨z,its,r,ob,e,c⟩:=x;exact⟨z,its,r,ob,k _ _ (.inl rfl) e,c⟩
 | dK Ν=>have⟨z,y,vs,r,ob,es,ep,e,c⟩:=x;exact⟨z,y,vs,r,ob,es,ep,k _ _ (.inl rfl) e,c⟩
 | dT Ν=>
  have⟨z,y,xs,r,ob,es,ep,e,c⟩:=x;exact⟨z,y,xs,Paired.Pc r λp q z=>⟨z.1,ht _ _ z.2.1,z.2.2⟩,ob,es,ep,k _ _ (.inl rfl) e,c⟩
 | set S n=>have⟨ob,es,ep,t,e,c⟩:=x;exact⟨ob,es,ep,t,k _ _ (.inl rfl) e,c⟩
 | ins C dx fs=>
  have⟨d,z,ne,e,mA,⟨od,es,ep,e2,c⟩,r⟩:=x;exact⟨ho _ d,z,ne,k _ _ (.inl rfl) e,mA,⟨od,es,ep,k _ _ (.inr d) e2,c⟩,r⟩
 | own y=>have⟨ob,e⟩:=x;exact⟨ob,k _ _ (.inl rfl) e⟩
 | xd fs=>have⟨mA,⟨od,es,ep,e,c⟩,r⟩:=x;exact⟨mA,⟨od,es,ep,k _ _ (.inl rfl) e,c⟩,r⟩
 | WZ lo hi=>have⟨t,u,v,e⟩:=x;exact⟨t,u,v,k _ _ (.inl rfl) e⟩
 | yS ob u ih=>have⟨e,q⟩:=x;exact⟨k _ _ (.inl rfl) e,ih q⟩
 | LR ps=>
  have e:h.get? a=some {cls:=.none,data:=.fields ps}:=x;show h'.get? a=some {cls:=.none,data:=.fields ps};exact k a _ (.inl rfl) e
 | met f y=>
  have e:h.get? a=some (PySem.W.methodObj (.ref f) (.ref y)):=x;show h'.get? a=some (PySem.W.methodObj (.ref f) (.ref y));exact k a _ (.inl rfl) e
 | ext φ=>have⟨p,⟨o,e⟩,st⟩:=x;exact⟨st _ _ p λo q=>k _ _ (.inl rfl) q,⟨o,k _ _ (.inl rfl) e⟩,st⟩
def lR.lt(x:lR P w H h)(e:H a=some o):a < h.objs.size:=(x a o e).lt
def lR.fresh(x:lR P w H h)(e:h.objs.size<=a):H a=none:=by
 cases q:H a with
 | none=>rfl
 | some u=>exact aaJ (aau (x.lt q) e) (abq _)
def lR.kept(x:lR P w H h)(k:∀b u,h.get? b=some u->h'.get? b=some u):lR P w H h':=λa o e=>
 (x a o e).uF (λb u _ q=>k b u q) (λ_ q=>q) λ_ _ q=>q
def lR.laid(x:lR P w H h)(k:∀b u,h.get? b=some u->h'.get? b=some u)(hp:h.objs.size<=a)(new:b8 P w (upd H a o) h' a o):lR P w (upd H a o) h':=λb u e=>by
 have hn:=x.fresh hp;by_cases hb:b=a
 ·subst hb;rw[af]at e;cases e;exact new
 ·rw[Θ hb]at e;exact(x b u e).uF (λc v _ q=>k c v q) (λc q=>by rw[Θ (bV q hn)];exact q) λc xs q=>by rw[Θ (bV q hn)];exact q
end
def Rd(H:Hp)(a:Addr)(u:HO):Prop:=H a=some u\/∃o,H a=some (.yS o u)
def Rd.ok{H:Hp}{u:HO}(r:Rd H a u)(x:lR P w H h):b8 P w H h a u:=by
 rcases r with r| ⟨o,r⟩
 ·exact x a u r
 ·have⟨_,q⟩:=x a _ r;exact q
def RM:Option HO->Prop
 | some (.lst _)=>True
 | some (.dK _)=>True
 | some (.dT _)=>True
 | some (.set _ _)=>True
 | some (.ins _ _ _)=>True
 | some (.ext _)=>True
 | _=>False
section
variable{H:Hp}{x e:Addr}{o':HO}
def lR.write(ok:lR P w H h)(mu:RM (H x))(he:e=x\/H e=some (.own x))(k:∀b u,b≠e->h.get? b=some u->h'.get? b=some u)(RN:∃u,h'.get? e=some u)
  (new:b8 P w (upd H x o') h' x o'):lR P w (upd H x o') h':=λb u q=>by
 have S3:∀c y,H c=some (.own y)->c≠x:=λc y r z=>by subst z;rw[r]at mu;exact mu
 have Zi:∀c xs,H c=some (.tup xs)->c≠x:=λc xs r z=>by subst z;rw[r]at mu;exact mu
 by_cases hb:b=x
 ·subst hb;rw[af]at q;cases q;exact new
 ·rw[Θ hb]at q;by_cases QF:b=e
  ·have q':H b=some (.own x):=by
    rcases he with z| z
    ·exact aaJ (QF.trans z) hb
    ·rw[QF];exact z
   rw[q]at q';cases q';have⟨v,hv⟩:=RN;exact⟨v,by rw[QF];exact hv⟩
  ·refine(ok b u q).uF (λc v hc r=>k c v ?_ r) (λc r=>by rw[Θ (S3 c b r)];exact r) λc xs r=>by rw[Θ (Zi c xs r)];exact r
   rcases hc with rfl| hc
   ·exact QF
   ·rintro rfl;rcases he with z| z
    ·exact S3 c b hc z
    ·rw[hc]at z;cases z;exact hb rfl
end
structure Un(fs ex:List Addr)(H H':Hp)(h h':Heap):Prop where
 keep:∀b o,h.get? b=some o->H b=none->b∉fs->b∉ex->h'.get? b=some o
 slot:∀b o,h.get? b=some o->H b=none->b∈fs->b∉ex->∃sl,h'.get? b=some {o with slots:=sl}
 free:∀b o,h.get? b=some o->H b=none->b∉ex->H' b=none
 there:∀b o,h.get? b=some o->b∉ex->∃o',h'.get? b=some o'
 qC:∀b xs,H b=some (.tup xs)->H' b=some (.tup xs)
 qb:∀b o u,H b=some (.yS o u)->H' b=some (.yS o u)
 qG:∀b ps,H b=some (.LR ps)->∃more,H' b=some (.LR (ps++more))
section
variable{fs ZG ex ex':List Addr}{H H1 H2:Hp}{h1 h2:Heap}{x e:Addr}
def Un.any(u:Un fs ex H H1 h h1){ob:Obj}(q:h.get? b=some ob)(n:H b=none)(hx:b∉ex):∃sl,h1.get? b=some {ob with slots:=sl}:=by
 by_cases hb:b∈fs
 ·exact u.slot b ob q n hb hx
 ·exact⟨ob.slots,u.keep b ob q n hb hx⟩
def Un.kept(k:∀b u,h.get? b=some u->h'.get? b=some u):Un fs ex H H h h':=
 ⟨λb ob q _ _ _=>k b ob q,λb ob q _ _ _=>⟨ob.slots,k b ob q⟩,λ_ _ _ n _=>n,λb ob q _=>⟨ob,k b ob q⟩,λ_ _ q=>q,λ_ _ _ q=>q,λ_ ps q=>⟨#[],by rw[q];simp⟩⟩
def Un.refl:Un fs ex H H h h:=Un.kept λ_ _ q=>q
def Un.laid(k:∀b u,h.get? b=some u->h'.get? b=some u)(hp:h.objs.size<=a)(hn:H a=none):Un fs ex H (upd H a o) h h' where
 keep:=λb u q _ _ _=>k b u q
 slot:=λb u q _ _ _=>⟨u.slots,k b u q⟩
 free:=λb u q n _=>by rw[Θ (aaY (aau (aar q) hp))];exact n
 there:=λb u q _=>⟨u,k b u q⟩
 qC:=λb xs q=>by rw[Θ (bV q hn)];exact q
 qb:=λb u xs q=>by rw[Θ (bV q hn)];exact q
 qG:=λb ps q=>⟨#[],by rw[Θ (bV q hn),q];simp⟩
def Un.write(mu:RM (H x))(he:e=x\/H e=some (.own x))(k:∀b u,b≠e->h.get? b=some u->h'.get? b=some u)(RN:∃u,h'.get? e=some u):Un fs ex H (upd H x o) h h':=by
 have hx:∀b,H b=none->b≠x:=λb n z=>by subst z;rw[n]at mu;exact mu
 have hb:∀b,H b=none->b≠e:=λb n z=>by
  subst z;rcases he with r| r
  ·exact hx b n r
  ·rw[n]at r;cases r
 have hm:∀b u,H b=some u->¬RM (some u)->b≠x:=λb u q nm z=>by subst z;rw[q]at mu;exact nm mu
 refine⟨λb u q n _ _=>k b u (hb b n) q,λb u q n _ _=>⟨u.slots,k b u (hb b n) q⟩,λb u q n _=>by rw[Θ (hx b n)];exact n,λb u q _=>?_,
  λb xs q=>by rw[Θ (hm b _ q λz=>z)];exact q,λb u xs q=>by rw[Θ (hm b _ q λz=>z)];exact q,λb ps q=>⟨#[],by rw[Θ (hm b _ q λz=>z),q];simp⟩⟩
 by_cases QF:b=e
 ·subst QF;exact RN
 ·exact⟨u,k b u QF q⟩
end
def VJ(h:Heap)(H:Hp):List Addr:=(List.range h.objs.size).filter λa=>(H a).isSome
def yG(h:Heap)(H:Hp):Heap:=PySem.W.hideAll h (VJ h H)
def GN(h:Heap)(H:Hp):(yG h H).objs.size=h.objs.size:=PySem.W.hideAll_size _ _
def K'{H:Hp}{o:Obj}(e:h.get? b=some o)(n:H b=none):(yG h H).get? b=some o:=
 PySem.W.hideAll_get _ e λhm=>by have q:(H b).isSome=true:=(List.mem_filter.mp hm).2;rw[n]at q;simp at q
def MU{H:Hp}{o:Obj}(e:(yG h H).get? b=some o):h.get? b=some o/\H b=none:=by
 have e':h.get? b=some o:=PySem.W.of_hideAll (VJ h H) e;refine⟨e',?_⟩;cases q:H b with
 | none=>rfl
 | some x=>
  have hm:b∈VJ h H:=List.mem_filter.mpr ⟨List.mem_range.mpr (Heap.lt_size e'),by simp[q]⟩;have z:(yG h H).get? b=none:=PySem.W.hideAll_none (VJ h H) hm;rw[z]at e;cases e
structure Mod(K:fI)(mg:Str->Option Value)(base:Heap):Prop where
 TZ:K.In base
 glob:base.Ns mainGlobals mg
 blt:∃mb,base.Ns builtinsNs mb/\∀x:Str,x≠"__name__"->mb x=bootBuiltins x
 nolimit:base.NoLimit
structure Cx where
 prog:Program
 w:World
 K:fI
 mg:Str->Option Value
 base:Heap
 A:Around
 N:List Str
 s₀:Shared
 H₀:Hp
 env:Env
 outer:List Env
 stack:List Env
 ex:List Addr
 fn:Str->Bool
 calm:Bool
 pn:List (Addr×Obj)
 xe:Value->Shared->Prop
variable{X:Cx}
def qF(l:List Env):List Addr:=l.filterMap (·.frame)
abbrev Cx.fs(X:Cx):List Addr:=qF X.outer
def W6(sc:Scope)(x:Str):Prop:=sc.names.lookup x=some .local\/sc.names.lookup x=some .cell\/sc.names.lookup x=some .free
def Loc(sc:Scope)(x:Str):Prop:=sc.names.lookup x=some .local\/sc.names.lookup x=some .cell
def ZL(env:Env)(h:Heap)(m:Str->Option Value)(x:Str)(u:Value):Prop:=
 (env.kindOf x=some .local/\m x=some u)\/((env.kindOf x=some .cell\/env.kindOf x=some .free)/\∃c,env.cells.lookup x=some c/\h.IsCell c (some u))
structure Cx.Ok(X:Cx):Prop where
 mod:Mod X.K X.mg X.base
 kind:X.env.scope.kind= .function
 glob:X.env.globals=mainGlobals
 blt:X.env.builtins=builtinsNs
 above:X.s₀.heap.objs.size<=X.env.locals
 inj:∀x y c,X.env.cells.lookup x=some c->X.env.cells.lookup y=some c->x=y
 has:∀x,(X.env.kindOf x=some .cell\/X.env.kindOf x=some .free)->∃c,X.env.cells.lookup x=some c
 WB:∀x c,X.fn x=true->X.env.cells.lookup x=some c->X.s₀.heap.objs.size<=c
 hd:X.calm=true->X.A.handled=none
 frames:X.A.frames=some X.stack
 ZY:X.stack=X.outer\/(X.stack=X.env::X.outer/\X.env.frame=some X.env.locals)
 exf:∀b∈X.ex,b≠X.env.locals/\∀x c,X.env.cells.lookup x=some c->c≠b
 bs:∀b o,X.base.get? b=some o->X.s₀.heap.get? b=some o/\X.H₀ b=none
 pX:X.base.objs.size<=X.s₀.heap.objs.size
 Qq:∀b o,X.base.get? b=some o->b∉X.ex
 Pk:∀b∈X.ex,b∉X.fs
 vc:X.s₀.heap.FunFrames X.base X.outer
 UA:∀b∈X.fs,X.H₀ b=none
structure Inv(X:Cx)(ζ:List (Addr×Obj))(σ:List (Option V))(H:Hp)(s:Shared):Prop where
 ok:X.Ok
 os:s.os=X.s₀.os
 bare:AllBare s.gens
 base:Un X.fs X.ex X.H₀ H X.s₀.heap s.heap
 loc:∃m,s.heap.Ns X.env.locals m/\∀(i:Nat) (x:Str) (v:V),X.N[i]? =some x->σ[i]? =some (some v)->W6 X.env.scope x->∃u,aF v u/\ZL X.env s.heap m x u
 cell:∀x c,X.env.cells.lookup x=some c->∃v,s.heap.IsCell c v
 free:H X.env.locals=none
 qu:∀x c,X.env.cells.lookup x=some c->H c=none
 pin:∀p∈X.pn++ζ,s.heap.get? p.1=some p.2/\H p.1=none/\p.1≠X.env.locals/\p.1∉X.fs/\∀v,p.2.data≠ .cell v
 bb:lR X.prog X.w H s.heap
 len:σ.length=X.N.length
section
variable{σ:List (Option V)}{H H':Hp}
def Cx.Ok.Xv(ok:X.Ok){o:Obj}(e:X.base.get? b=some o):b∉X.fs:=λhb=>by have:=(ok.vc.mem hb).1;rw[e]at this;cases this
def Inv.bs(I:Inv X ζ σ H s):∀b o,X.base.get? b=some o->s.heap.get? b=some o/\H b=none:=λb o e=>
 ⟨I.base.keep b o (I.ok.bs b o e).1 (I.ok.bs b o e).2 (I.ok.Xv e) (I.ok.Qq b o e),I.base.free b o (I.ok.bs b o e).1 (I.ok.bs b o e).2 (I.ok.Qq b o e)⟩
def Inv.bk(I:Inv X ζ σ H s):∀b o,X.base.get? b=some o->s.heap.get? b=some o:=λb o e=>(I.bs b o e).1
def Inv.mod(I:Inv X ζ σ H s):Mod X.K X.mg X.base:=I.ok.mod
def Inv.qy(I:Inv X ζ σ H s):X.K.In s.heap:=I.ok.mod.TZ.keeps I.bk
def Inv.lt(I:Inv X ζ σ H s):X.env.locals < s.heap.objs.size:=let ⟨_,hn,_⟩:=I.loc;hn.lt
def Inv.sz(I:Inv X ζ σ H s):X.s₀.heap.objs.size<=s.heap.objs.size:=aas I.ok.above (Nat.le_of_lt I.lt)
def Inv.Y2(I:Inv X ζ σ H s)(h:s.heap.objs.size<=a):a∉X.fs:=λhb=>by have⟨_,o,ho,_⟩:=I.ok.vc.mem hb;exact aaJ (aau (aar ho) (aas I.sz h)) (abq _)
def Inv.NG(I:Inv X ζ σ H s):∀x c,X.env.cells.lookup x=some c->c≠X.env.locals:=λx c e z=>by have⟨v,o,ho,hd⟩:=I.cell x c e;have⟨m,⟨o',es,ep,FP,MV,_⟩,_⟩:=I.loc;rw[z,FP]at ho;cases ho;rw[MV]at hd;cases hd
def Inv.vc(I:Inv X ζ σ H s):s.heap.FunFrames X.base X.outer:=by
 have all:∀(l:List Env),(∀b∈qF l,b∈X.fs)->X.s₀.heap.FunFrames X.base l->s.heap.FunFrames X.base l:=by
  intro l
  induction l with
  | nil=>intro _ _;trivial
  | cons env r ih=>
   intro hs hl;have⟨hk,⟨L,o,hf,hn,ho,hd⟩,hr⟩:=hl;have hL:L∈X.fs:=hs L (by unfold qF;rw[List.filterMap_cons,hf];exact List.mem_cons_self);have⟨sl,e⟩:=I.base.slot L o ho (I.ok.UA L hL) hL λz=>I.ok.Pk L z hL;exact⟨hk,⟨L,_,hf,hn,e,hd⟩,ih (λb hb=>hs b (by unfold qF;rw[List.filterMap_cons,hf];exact List.mem_cons_of_mem _ hb)) hr⟩
 exact all X.outer (λ_ hb=>hb) I.ok.vc
def Inv.stack(I:Inv X ζ σ H s):s.heap.FunFrames X.base X.stack:=by
 rcases I.ok.ZY with e| ⟨e,hf⟩
 ·rw[e];exact I.vc
 ·rw[e];have⟨m,hn,_⟩:=I.loc;refine .cons (by rw[I.ok.kind];decide) hf hn ?_ I.vc;exact Heap.get?_none_of_le (aas I.ok.pX I.ok.above)
def Inv.xv(I:Inv X ζ σ H s):∀b∈qF X.stack,b∈X.env.locals::X.fs:=λb hb=>by
 rcases I.ok.ZY with e| ⟨e,hf⟩
 ·rw[e]at hb;exact aad _ hb
 ·rw[e]at hb;unfold qF at hb;rw[acn,hf]at hb;exact hb
def Inv.xI(I:Inv X ζ σ H s):∀b∈qF X.stack,H b=none:=λb hb=>by
 rcases aaC.mp (I.xv b hb) with e| hb
 ·rw[e];exact I.free
 ·have⟨_,o,ho,_⟩:=I.ok.vc.mem hb;exact I.base.free b o ho (I.ok.UA b hb) λz=>I.ok.Pk b z hb
def Inv.step{t':Nat}{d':Drawn}(I:Inv X ζ σ H s)
  (Bh:∀b∈ch,(b∈X.ex\/X.s₀.heap.objs.size<=b)/\b≠X.env.locals/\(∀x c,X.env.cells.lookup x=some c->c≠b)/\∀p∈X.pn++ζ,p.1≠b)
  (keep:∀b o,b≠X.env.locals->b∉X.fs->b∉ch->s.heap.get? b=some o->H b=none->h'.get? b=some o)
  (slot:∀b o,b≠X.env.locals->b∈X.fs->b∉ch->s.heap.get? b=some o->H b=none->∃sl,h'.get? b=some {o with slots:=sl}) (free:∀b o,b∉ch->s.heap.get? b=some o->H b=none->H' b=none)
  (there:∀b o,b∉ch->s.heap.get? b=some o->∃o',h'.get? b=some o')
  (qC:∀b xs,H b=some (.tup xs)->H' b=some (.tup xs)) (qb:∀b o u,H b=some (.yS o u)->H' b=some (.yS o u)) (qG:∀b ps,H b=some (.LR ps)->∃more,H' b=some (.LR (ps++more)))
  (ns:∀m,s.heap.Ns X.env.locals m->h'.Ns X.env.locals m) (bb:lR X.prog X.w H' h') (hg:AllBare g'):
  Inv X ζ σ H' {s with heap:=h',gens:=g',drawn:=d',toks:=t'}:=by
 have neL:∀b o,X.s₀.heap.get? b=some o->b≠X.env.locals:=λb o e=>aaY (aau (aar e) I.ok.above);have VG:∀b o,X.s₀.heap.get? b=some o->b∉X.ex->b∉ch:=λb o e hx hb=>by
  rcases(Bh b hb).1 with z| z
  ·exact hx z
  ·exact aaJ (aau (aar e) z) (abq _)
 have cellK:∀x c,X.env.cells.lookup x=some c->∀v,s.heap.IsCell c v->h'.IsCell c v:=λx c e v ⟨o,ho,hd⟩=>by
  have Ve:c∉ch:=λz=>(Bh c z).2.2.1 x c e rfl;by_cases hc:c∈X.fs
  ·have⟨sl,q⟩:=slot c o (I.NG x c e) hc Ve ho (I.qu x c e);exact⟨_,q,hd⟩
  ·exact⟨o,keep c o (I.NG x c e) hc Ve ho (I.qu x c e),hd⟩
 refine⟨I.ok,I.os,hg,⟨λb o e n hb hx=>?_,λb o e n hb hx=>?_,λb o e n hx=>?_,λb o e hx=>?_,λb xs e=>qC b xs (I.base.qC b xs e),λb o xs e=>qb b o xs (I.base.qb b o xs e),λb ps e=>?_⟩,?_,λx c e=>?_,?_,λx c e=>?_,λp hp=>?_,bb,I.len⟩
 ·exact keep b o (neL b o e) hb (VG b o e hx) (I.base.keep b o e n hb hx) (I.base.free b o e n hx)
 ·have⟨sl,e1⟩:=I.base.slot b o e n hb hx;have⟨sl',e2⟩:=slot b _ (neL b o e) hb (VG b o e hx) e1 (I.base.free b o e n hx);exact⟨sl',e2⟩
 ·have⟨o',e1⟩:=I.base.there b o e hx;exact free b o' (VG b o e hx) e1 (I.base.free b o e n hx)
 ·have⟨o',e1⟩:=I.base.there b o e hx;exact there b o' (VG b o e hx) e1
 ·have⟨m1,e1⟩:=I.base.qG b ps e;have⟨m2,e2⟩:=qG b _ e1;exact⟨m1++m2,by rw[e2,Array.append_assoc]⟩
 ·have⟨m,hn,hl⟩:=I.loc;refine⟨m,ns m hn,λi x v e1 e2 e3=>?_⟩;have⟨u,r,l⟩:=hl i x v e1 e2 e3;refine⟨u,r,?_⟩;rcases l with l| ⟨k,c,e,z⟩
  ·exact .inl l
  ·exact .inr ⟨k,c,e,cellK x c e _ z⟩
 ·have⟨v,z⟩:=I.cell x c e;exact⟨v,cellK x c e v z⟩
 ·have⟨m,⟨o,_,_,ho,_⟩,_⟩:=I.loc;exact free _ o (λz=>(Bh _ z).2.1 rfl) ho I.free
 ·have⟨v,o,ho,hd⟩:=I.cell x c e;exact free c o (λz=>(Bh c z).2.2.1 x c e rfl) ho (I.qu x c e)
 ·have⟨e,n,ne,nf,d⟩:=I.pin p hp;have Ve:p.1∉ch:=λz=>(Bh p.1 z).2.2.2 p hp rfl;exact⟨keep p.1 p.2 ne nf Ve e n,free p.1 p.2 Ve e n,ne,nf,d⟩
def Inv.un{t':Nat}(I:Inv X ζ σ H s)(u:Un X.fs [] H H' s.heap h')(bb:lR X.prog X.w H' h'):Inv X ζ σ H' {s with heap:=h',toks:=t'}:=by
 have⟨m,⟨o,es,ep,ho,r⟩,_⟩:=id I.loc;have⟨sl,hL⟩:=u.any ho I.free (by simp)
 exact I.step (g':=s.gens) (d':=s.drawn) (ch:=[]) (λ_ z=>nomatch z) (λb o _ hb _ e n=>u.keep b o e n hb (by simp)) (λb o _ hb _ e n=>u.slot b o e n hb (by simp)) (λb o _ e n=>u.free b o e n (by simp)) (λb o _ e=>u.there b o e (by simp)) u.qC u.qb u.qG (λm' hm=>by
  have⟨o',Yn,Zm,FP,r'⟩:=hm;rw[ho]at FP;cases FP
  exact⟨_,Yn,Zm,hL,r'⟩) bb I.bare
def Inv.call{t':Nat}{d':Drawn}(I:Inv X ζ σ H s)(u:Un (qF X.stack) ch H H' s.heap h')(bb:lR X.prog X.w H' h')(hg:AllBare g')
  (Bh:∀b∈ch,(b∈X.ex\/X.s₀.heap.objs.size<=b)/\b≠X.env.locals/\(∀x c,X.env.cells.lookup x=some c->c≠b)/\∀p∈X.pn++ζ,p.1≠b):
  Inv X ζ σ H' {s with heap:=h',gens:=g',drawn:=d',toks:=t'}:=by
 have⟨m,⟨o,es,ep,ho,r⟩,_⟩:=id I.loc;have⟨sl,hL⟩:=u.any ho I.free λz=>(Bh _ z).2.1 rfl
 exact I.step (ch:=ch) Bh (λb o hL hb hc e n=>u.keep b o e n (λz=>(aaC.mp (I.xv b z)).elim hL hb) hc) (λb o _ _ hc e n=>u.any e n hc) (λb o hc e n=>u.free b o e n hc) (λb o hc e=>u.there b o e hc) u.qC u.qb u.qG (λm' hm=>by
  have⟨o',Yn,Zm,FP,r'⟩:=hm;rw[ho]at FP;cases FP
  exact⟨_,Yn,Zm,hL,r'⟩) bb hg
def Inv.turned{t':Nat}{it:Addr}(I:Inv X ζ σ H s)(k:∀b o,b≠it->s.heap.get? b=some o->h'.get? b=some o)(hn:H it=none)(hL:it≠X.env.locals)
  (h1:it∈X.ex\/X.s₀.heap.objs.size<=it) (h2:∀x c,X.env.cells.lookup x=some c->c≠it) (h3:∀p∈X.pn++ζ,p.1≠it):Inv X ζ σ H {s with heap:=h',toks:=t'}:=by
 have nit:∀b u,H b=some u->b≠it:=λb u e z=>by rw[z,hn]at e;cases e
 refine I.step (g':=s.gens) (d':=s.drawn) (ch:=[it]) (λb hb=>?_) (λb o _ _ hc e _=>k b o (λz=>hc (by simp[z])) e) (λb o _ _ hc e _=>⟨o.slots,k b o (λz=>hc (by simp[z])) e⟩) (λ_ _ _ _ n=>n)
  (λb o hc e=>⟨o,k b o (λz=>hc (by simp[z])) e⟩) (λ_ _ e=>e) (λ_ _ _ e=>e) (λb ps e=>⟨#[],by rw[e];simp⟩) (λm hm=>?_) (λb u e=>?_) I.bare
 ·have e:b=it:=by simpa using hb
  subst e;exact⟨h1,hL,h2,h3⟩
 ·have⟨o,es,ep,ho,r⟩:=hm;exact⟨o,es,ep,k _ o (Ne.symm hL) ho,r⟩
 ·refine(I.bb b u e).uF (λc v hc q=>k c v ?_ q) (λ_ q=>q) λ_ _ q=>q;rcases hc with z| z
  ·rw[z];exact nit b u e
  ·exact nit c _ z
def Inv.tok(I:Inv X ζ σ H s)(t:Nat):Inv X ζ σ H {s with toks:=t}:=I.un (h':=s.heap) (t':=t) Un.refl I.bb
def Inv.kept{t':Nat}(I:Inv X ζ σ H s)(k:∀b u,s.heap.get? b=some u->h'.get? b=some u):Inv X ζ σ H {s with heap:=h',toks:=t'}:=I.un (Un.kept k) (I.bb.kept k)
def Inv.laid{t':Nat}(I:Inv X ζ σ H s)(k:∀b u,s.heap.get? b=some u->h'.get? b=some u)(hp:s.heap.objs.size<=a)(new:b8 X.prog X.w (upd H a o) h' a o):
  Inv X ζ σ (upd H a o) {s with heap:=h',toks:=t'}:=I.un (Un.laid k hp (I.bb.fresh hp)) (I.bb.laid k hp new)
def Inv.write{x e:Addr}{t':Nat}(I:Inv X ζ σ H s)(mu:RM (H x))(he:e=x\/H e=some (.own x))(k:∀b u,b≠e->s.heap.get? b=some u->h'.get? b=some u)(RN:∃u,h'.get? e=some u)
  (new:b8 X.prog X.w (upd H x o) h' x o):Inv X ζ σ (upd H x o) {s with heap:=h',toks:=t'}:=I.un (Un.write mu he k RN) (I.bb.write mu he k RN new)
def Inv.ED{Oa:List (Addr×Obj)}(I:Inv X ζ σ H s)(h:∀p∈Oa,s.heap.get? p.1=some p.2/\H p.1=none/\p.1≠X.env.locals/\p.1∉X.fs/\∀v,p.2.data≠ .cell v):Inv X Oa σ H s:=
 ⟨I.ok,I.os,I.bare,I.base,I.loc,I.cell,I.free,I.qu,λp hp=>(aa0.mp hp).elim (λz=>I.pin p (List.mem_append_left _ z)) (h p),I.bb,I.len⟩
def zM{N:List Str}(hN:N.Nodup){j:Nat}(a:N[i]? =some x)(b:N[j]? =some x):i=j:=by have⟨h1,e1⟩:=aaf.mp a;have⟨h2,e2⟩:=aaf.mp b;exact(List.getElem_inj hN).mp (e1.trans e2.symm)
def we{Q:Unit->Shared->Prop}(I:Inv X ζ σ H s)(hN:X.N.Nodup)(hi:X.N[i]? =some x)(hx:Loc X.env.scope x)(r:aF v u)
  (h:∀s',Inv X ζ (σ.set i (some v)) H s'->(∃a,Heap.SameBut a s.heap s'.heap/\(a=X.env.locals\/X.env.cells.lookup x=some a))->Q Unit.unit s') (hf:X.fn x=true\/X.env.scope.names.lookup x=some .local:=by first| exact .inl rfl| exact .inr rfl| assumption):wpAny M A (storeName X.env x u) Q E s:=by
 have⟨m,hn,hl⟩:=id I.loc;have Xi:(X.env.scope.kind== .class|| (X.env.scope.kind== .module&&X.env.locals != X.env.globals))=false:=by rw[I.ok.kind];rfl
 have UK:i < σ.length:=by rw[I.len];exact(aaf.mp hi).1
 have NG:=I.NG;have tracked:∀{a:Addr} {h':Heap},(∃o,s.heap.get? a=some o/\H a=none)->Heap.SameBut a s.heap h'->lR X.prog X.w H h':=λ{a h'} ha hs b ob e=>by
  have⟨_,_,OE⟩:=ha;refine(I.bb b ob e).uF (λc w' hc q=>(hs.2 c ?_).trans q) (λ_ q=>q) λ_ _ q=>q;rintro rfl;rcases hc with rfl| hc
  ·rw[OE]at e;cases e
  ·rw[OE]at hc;cases hc
 rcases hx with hk| hk
 ·refine wpAny_storeName_local hk hn (λh' Uc hs=>?_) Xi;have⟨oL,_,_,hoL,_⟩:=id hn;refine h _ ⟨I.ok,I.os,I.bare,⟨λb o e n hb hx=>?_,λb o e n hb hx=>?_,I.base.free,λb o e hx=>?_,I.base.qC,I.base.qb,I.base.qG⟩,⟨_,Uc,λj y v' e1 e2 e3=>?_⟩,λy c e=>?_,I.free,I.qu,λp hp=>?_,tracked ⟨oL,hoL,I.free⟩ hs,by simpa using I.len⟩ ⟨_,hs,.inl rfl⟩
  ·exact(hs.2 b (aaY (aau (aar e) I.ok.above))).trans (I.base.keep b o e n hb hx)
  ·have⟨sl,e1⟩:=I.base.slot b o e n hb hx;exact⟨sl,(hs.2 b (aaY (aau (aar e) I.ok.above))).trans e1⟩
  ·have⟨o',e1⟩:=I.base.there b o e hx;exact⟨o',(hs.2 b (aaY (aau (aar e) I.ok.above))).trans e1⟩
  ·by_cases hj:j=i
   ·subst hj;rw[hi]at e1;cases e1;rw[abb UK]at e2;cases e2;exact⟨u,r,.inl ⟨hk,by simp⟩⟩
   ·rw[abr (Ne.symm hj)]at e2;have⟨u',r',q⟩:=hl j y v' e1 e2 e3;refine⟨u',r',?_⟩;rcases q with ⟨k,e⟩| ⟨k,c,e,z⟩
    ·refine .inl ⟨k,?_⟩;have:y≠x:=λe=>hj (zM hN e1 (e▸hi));simp[this,e]
    ·exact .inr ⟨k,c,e,z.sameBut hs (NG y c e)⟩
  ·have⟨w',z⟩:=I.cell y c e;exact⟨w',z.sameBut hs (NG y c e)⟩
  ·have⟨e,n,ne,nf,d⟩:=I.pin p hp;exact⟨(hs.2 p.1 ne).trans e,n,ne,nf,d⟩
 ·have YX:X.fn x=true:=by
   rcases hf with z| z
   ·exact z
   ·rw[z]at hk;cases hk
  have⟨c,hc⟩:=I.ok.has x (.inl hk);have⟨w',z⟩:=I.cell x c hc;refine wpAny_storeName_cell I.ok.kind hk hc z (λh' zC hs=>?_);have⟨oc,hoc,Xu⟩:=id z;refine h {s with heap:=h'} ⟨I.ok,I.os,I.bare,⟨λb o e n hb hx=>?_,λb o e n hb hx=>?_,I.base.free,λb o e hx=>?_,I.base.qC,I.base.qb,I.base.qG⟩,⟨m,hn.sameBut hs (Ne.symm (NG x c hc)),λj y v' e1 e2 e3=>?_⟩,λy c' e=>?_,I.free,I.qu,λp hp=>?_,tracked ⟨oc,hoc,I.qu x c hc⟩ hs,by simpa using I.len⟩ ⟨c,hs,.inr hc⟩
  ·exact(hs.2 b (aaY (aau (aar e) (I.ok.WB x c YX hc)))).trans (I.base.keep b o e n hb hx)
  ·have⟨sl,e1⟩:=I.base.slot b o e n hb hx;exact⟨sl,(hs.2 b (aaY (aau (aar e) (I.ok.WB x c YX hc)))).trans e1⟩
  ·have⟨o',e1⟩:=I.base.there b o e hx;exact⟨o',(hs.2 b (aaY (aau (aar e) (I.ok.WB x c YX hc)))).trans e1⟩
  ·by_cases hj:j=i
   ·subst hj;rw[hi]at e1;cases e1;rw[abb UK]at e2;cases e2;exact⟨u,r,.inr ⟨.inl hk,c,hc,zC⟩⟩
   ·rw[abr (Ne.symm hj)]at e2;have⟨u',r',q⟩:=hl j y v' e1 e2 e3;refine⟨u',r',?_⟩;rcases q with q| ⟨k,c',e,z'⟩
    ·exact .inl q
    ·refine .inr ⟨k,c',e,z'.sameBut hs ?_⟩;rintro rfl;exact hj (zM hN e1 (I.ok.inj _ _ _ e hc▸hi))
  ·by_cases PJ:c'=c
   ·subst PJ;exact⟨_,zC⟩
   ·have⟨w2,z2⟩:=I.cell y c' e;exact⟨w2,z2.sameBut hs PJ⟩
  ·have⟨e,n,ne,nf,d⟩:=I.pin p hp;refine⟨(hs.2 p.1 ?_).trans e,n,ne,nf,d⟩;intro q;rw[q,hoc]at e;have q':oc=p.2:=aax e;exact d w' (by rw[<-q'];exact Xu)
def oj{Q:Unit->Shared->Prop}(I:Inv X ζ σ H s)(hN:X.N.Nodup)(hi:X.N[i]? =some x)(hx:Loc X.env.scope x)(r:aF v u)
  (h:∀s',Inv X ζ (σ.set i (some v)) H s'->Q Unit.unit s') (hf:X.fn x=true\/X.env.scope.names.lookup x=some .local:=by first| exact .inl rfl| exact .inr rfl| assumption):wpAny M A (storeName X.env x u) Q E s:=
 we I hN hi hx r (λs' I' _=>h s' I') hf
def Inv.UO{s':Shared}(I:Inv X ζ σ H s)(ho:s'.os=s.os)(u:Un (qF X.stack) ch H H' s.heap s'.heap)(bb:lR X.prog X.w H' s'.heap)(hg:AllBare s'.gens)
  (Bh:∀b∈ch,(b∈X.ex\/X.s₀.heap.objs.size<=b)/\b≠X.env.locals/\(∀x c,X.env.cells.lookup x=some c->c≠b)/\∀p∈X.pn++ζ,p.1≠b):Inv X ζ σ H' s':=by
 have⟨h',g',d',t',o'⟩:=s';have e:o'=s.os:=ho;subst e;exact I.call (g':=g') (t':=t') (d':=d') u bb hg Bh
end
abbrev XK:=Value->Option Addr->Hp->Prop
abbrev St:=List (Option V)
variable{σ:St}
abbrev VK:=V->Hp->Prop
abbrev TE:=St->Hp->VK->Prop
variable{ta te:TE}
abbrev TT:=St->Hp->(Bool->Hp->Prop)->Prop
abbrev TA:=St->Hp->(List V->Hp->Prop)->Prop
structure yL where
 nx:St->Hp->Prop
 rt:VK
 bk:St->Hp->Prop:=λ_ _=>False
 ct:St->Hp->Prop:=λ_ _=>False
abbrev TS:=yL->St->Hp->Prop
def EP(X:Cx)(ζ:List (Addr×Obj))(σ:St)(Q:VK)(u:Value)(s':Shared):Prop:=∃v H',Inv X ζ σ H' s'/\aF v u/\Q v H'
def TP(X:Cx)(ζ:List (Addr×Obj))(σ:St)(Q:Bool->Hp->Prop)(b:Bool)(s':Shared):Prop:=∃H',Inv X ζ σ H' s'/\Q b H'
def AP(X:Cx)(ζ:List (Addr×Obj))(σ:St)(Q:List V->Hp->Prop)(us:List Value)(s':Shared):Prop:=∃vs H',Inv X ζ σ H' s'/\aC vs us/\Q vs H'
def SP(X:Cx)(ζ:List (Addr×Obj))(D:yL)(f:Flow)(s':Shared):Prop:=
 match f with
 | .next=>∃σ' H',Inv X ζ σ' H' s'/\D.nx σ' H'
 | .brk=>∃σ' H',Inv X ζ σ' H' s'/\D.bk σ' H'
 | .cont=>∃σ' H',Inv X ζ σ' H' s'/\D.ct σ' H'
 | .ret u=>∃v σ' H',Inv X ζ σ' H' s'/\aF v u/\D.rt v H'
def PE(X:Cx)(e:Expr)(t:TE):Prop:=
 ∀(ζ:List (Addr×Obj)) (s:Shared) (σ:St) (H:Hp) (Q:VK),Inv X ζ σ H s->t σ H Q->wpAny (model X.prog X.w) X.A (eval e X.env) (EP X ζ σ Q) X.xe s
def PT(X:Cx)(e:Expr)(t:TT):Prop:=
 ∀(ζ:List (Addr×Obj)) (s:Shared) (σ:St) (H:Hp) (Q:Bool->Hp->Prop),Inv X ζ σ H s->t σ H Q->wpAny (model X.prog X.w) X.A (isTrue e X.env (eval e X.env)) (TP X ζ σ Q) X.xe s
def PW(X:Cx)(e:Expr)(t:TT):Prop:=
 ∀(whole:Sem Value) (ζ:List (Addr×Obj)) (s:Shared) (σ:St) (H:Hp) (Q:Bool->Hp->Prop),Inv X ζ σ H s->t σ H Q->wpAny (model X.prog X.w) X.A (isTrue e X.env whole) (TP X ζ σ Q) X.xe s
def PA(X:Cx)(es:List Expr)(t:TA):Prop:=
 ∀(pos:Pos) (ζ:List (Addr×Obj)) (s:Shared) (σ:St) (H:Hp) (Q:List V->Hp->Prop),Inv X ζ σ H s->t σ H Q->wpAny (model X.prog X.w) X.A (spliced (backTo pos (starEach es X.env))) (AP X ζ σ Q) X.xe s
def PS(X:Cx)(st:Stmt)(t:TS):Prop:=
 ∀(ζ:List (Addr×Obj)) (s:Shared) (σ:St) (H:Hp) (D:yL),Inv X ζ σ H s->t D σ H->wpAny (model X.prog X.w) X.A (exec st X.env) (SP X ζ D) X.xe s
def Hr(X:Cx)(st:List Stmt)(t:TS):Prop:=
 ∀(ζ:List (Addr×Obj)) (s:Shared) (σ:St) (H:Hp) (D:yL),Inv X ζ σ H s->t D σ H->wpAny (model X.prog X.w) X.A (execs st X.env) (SP X ζ D) X.xe s
def bH{α:Type}{t:Sem α}{Q Q':α->Shared->Prop}(h:wpAny M A t Q E s)(hQ:∀a s,Q a s->Q' a s):wpAny M A t Q' E s:=acd h hQ λ_ _ x=>x
section
def Wf(i:Nat):TE:=λσ H Q=>∃v,σ[i]? =some (some v)/\Q v H
def tC(v:V):TE:=λ_ H Q=>Q v H
def QN(hN:X.N[i]? =some x)(hv:W6 X.env.scope x)(hd:(x==("__debug__":Str))=false:=by decide)(Dv:(x==("__classdict__":Str))=false:=by decide):PE X (.Name x pos) (Wf i):=by
 intro ζ s σ H Q I h;have⟨v,e,h⟩:=h;have⟨m,hn,hl⟩:=I.loc;have⟨u,r,l⟩:=hl i x v hN e hv;have fin:EP X ζ σ Q u s:=⟨v,H,I,r,h⟩;rcases l with ⟨hk,hm⟩| ⟨hk,c,hc,OG⟩
 ·exact wpAny_Name (wpAny_loadName_local I.ok.kind hk hn hm fin) hd
 ·rcases hk with hk| hk
  ·exact wpAny_Name (wpAny_loadName_cell I.ok.kind hk hc OG fin) hd
  ·exact wpAny_Name (wpAny_loadName_free I.ok.kind hk hc OG fin Dv) hd
def O6{i j pos}:PE X (.Constant (.int i) j pos) (tC (.int i)):=λ_ _ _ H _ I h=>wpAny_Constant_int ⟨.int i,H,I.tok _,⟨_,rfl⟩,h⟩
def SR{b j pos}:PE X (.Constant (.bool b) j pos) (tC (.bl b)):=λ_ _ _ H _ I h=>Constant_bool ⟨.bl b,H,I,rfl,h⟩
def Qv{j pos}:PE X (.Constant .none j pos) (tC .bF):=λ_ _ _ H _ I h=>Constant_none ⟨.bF,H,I,rfl,h⟩
def K7{x j pos}:PE X (.Constant (.str x) j pos) (tC (.str x)):=λ_ _ _ H _ I h=>Calls.Constant_str ⟨.str x,H,I.tok _,⟨_,rfl⟩,h⟩
def Gl(X:Cx)(x:Str):Prop:=X.env.kindOf x=some .globalImplicit
def rA{H:Hp}(I:Inv X ζ σ H s)(hg:Gl X x)(hm:X.mg x=some u)(h:Q u s)
  (hd:(x==("__debug__":Str))=false:=by decide):wpAny (model X.prog X.w) X.A (eval (.Name x pos) X.env) Q E s:=
 Calls.Name_function_global I.ok.kind hg (Calls.loadGlobal_global (by rw[I.ok.glob];exact I.mod.glob.keeps I.bk) hm h) hd
def mL{H:Hp}(I:Inv X ζ σ H s)(hg:Gl X x)(hm:X.mg x=none)(hv:bootBuiltins x=some u)(h:Q u s)
  (hn:x≠"__name__":=by decide) (hd:(x==("__debug__":Str))=false:=by decide):wpAny (model X.prog X.w) X.A (eval (.Name x pos) X.env) Q E s:=by
 have⟨mb,h1,h2⟩:=I.mod.blt;exact Calls.Name_function_global I.ok.kind hg (Calls.loadGlobal_builtin (by rw[I.ok.glob];exact I.mod.glob.keeps I.bk) hm (by rw[I.ok.blt];exact h1.keeps I.bk) ((h2 x hn).trans hv) h) hd
def EF(hg:Gl X x)(hm:X.mg x=some u)(r:aF v u)(hd:(x==("__debug__":Str))=false:=by decide):PE X (.Name x pos) (tC v):=
 λ_ _ _ H _ I h=>rA I hg hm ⟨v,H,I,r,h⟩ hd
def M6(hg:Gl X x)(hm:X.mg x=none)(hv:bootBuiltins x=some u)(r:aF v u)(hn:x≠"__name__":=by decide)(hd:(x==("__debug__":Str))=false:=by decide):PE X (.Name x pos) (tC v):=
 λ_ _ _ H _ I h=>mL I hg hm hv ⟨v,H,I,r,h⟩ hn hd
variable{a b:Expr}{tb:TE}
def tB(t:TE):TT:=λσ H Q=>t σ H λx H1=>∃c,x= .bl c/\Q c H1
def O_{t:TE}(h:PE X e t)(he:∀whole,isTrue e X.env whole=(do let v<-whole;standAt e.pos;holding [v] (truthy v)):=by intro _;rfl):PT X e (tB t):=by intro ζ s σ H Q I hw;refine isTrue_plain (bH (h ζ s σ H _ I hw) λv s1 xz=>?_) (he _);have⟨x,H1,I1,r1,q1⟩:=xz;have⟨d,rfl,q⟩:=q1;cases r1;exact wpAny_truthy_bool ⟨H1,I1,q⟩
variable{tA RY:TT}{rest:List Expr}
def WU(t u:TT):TT:=λσ H Q=>t σ H λc H1=>if c=true then u σ H1 Q else Q false H1
def tOr(t u:TT):TT:=λσ H Q=>t σ H λc H1=>if c=true then Q true H1 else u σ H1 Q
def Xa(t:TT):TT:=λσ H Q=>t σ H λc H1=>Q (!c) H1
def pw_and1(ha:PT X a tA):PW X (.BoolOp .And [a] pos) tA:=by
 intro wh ζ s σ H Q I h;refine isTrue_and (bH (ha ζ s σ H Q I h) λc s1 e=>?_);cases c with
 | true=>exact isTrue_and_nil e
 | false=>exact e
def pw_or1(ha:PT X a tA):PW X (.BoolOp .Or [a] pos) tA:=by
 intro wh ζ s σ H Q I h;refine isTrue_or (bH (ha ζ s σ H Q I h) λc s1 e=>?_);cases c with
 | false=>exact isTrue_or_nil e
 | true=>exact e
def pw_and(ha:PT X a tA)(hb:PW X (.BoolOp .And (b::rest) pos) RY):PW X (.BoolOp .And (a::b::rest) pos) (WU tA RY):=by
 intro wh ζ s σ H Q I h;refine isTrue_and (bH (ha ζ s σ H _ I h) λc s1 xz=>?_);have⟨H1,I1,q1⟩:=xz;cases c with
 | true=>exact hb wh ζ s1 σ H1 Q I1 q1
 | false=>exact⟨H1,I1,q1⟩
def pw_or(ha:PT X a tA)(hb:PW X (.BoolOp .Or (b::rest) pos) RY):PW X (.BoolOp .Or (a::b::rest) pos) (tOr tA RY):=by
 intro wh ζ s σ H Q I h;refine isTrue_or (bH (ha ζ s σ H _ I h) λc s1 xz=>?_);have⟨H1,I1,q1⟩:=xz;cases c with
 | true=>exact⟨H1,I1,q1⟩
 | false=>exact hb wh ζ s1 σ H1 Q I1 q1
def P7(ha:PT X a tA):PT X (.UnaryOp .Not a pos) (Xa tA):=by intro ζ s σ H Q I h;exact isTrue_not (ha ζ s σ H (λc H1=>Q (!c) H1) I h)
def SG(ta tb:TE):TE:=λσ H Q=>ta σ H λx H1=>∃c,x= .bl c/\if c=true then tb σ H1 Q else Q (.bl false) H1
def SQ(ta:TE):TE:=λσ H Q=>ta σ H λx H1=>∃c,x= .bl c/\Q (.bl (!c)) H1
def QP{op}{t:TE}(h:PE X a t):PE X (.BoolOp op [a] pos) t:=λζ s σ H Q I hw=>BoolOp_one (h ζ s σ H Q I hw)
def QL(ha:PE X a ta)(hb:PE X (.BoolOp .And (b::rest) pos) tb):PE X (.BoolOp .And (a::b::rest) pos) (SG ta tb):=by
 intro ζ s σ H Q I h;refine BoolOp_and (bH (ha ζ s σ H _ I h) λv s1 xz=>?_);have⟨x,H1,I1,r1,q1⟩:=xz;have⟨c,rfl,q1⟩:=q1;cases r1;refine wpAny_truthy_bool ?_;cases c with
 | true=>exact hb ζ s1 σ H1 Q I1 q1
 | false=>exact⟨.bl false,H1,I1,rfl,q1⟩
def Pz(ha:PE X a ta):PE X (.UnaryOp .Not a pos) (SQ ta):=by intro ζ s σ H Q I h;refine UnaryOp_ (bH (ha ζ s σ H _ I h) λv s1 xz=>?_);have⟨x,H1,I1,r1,q1⟩:=xz;have⟨c,rfl,q1⟩:=q1;cases r1;exact not_of (wpAny_truthy_bool ⟨.bl (!c),H1,I1,rfl,q1⟩)
def tIf(t:TT)(ta tb:TE):TE:=λσ H Q=>t σ H λc H1=>if c=true then ta σ H1 Q else tb σ H1 Q
def Ky(hc:PT X c tA)(ha:PE X a ta)(hb:PE X b tb):PE X (.IfExp c a b pos) (tIf tA ta tb):=by
 intro ζ s σ H Q I h;refine wpAny_IfExp (bH (hc ζ s σ H _ I h) λd s1 xz=>?_);have⟨H1,I1,q1⟩:=xz;cases d with
 | true=>exact ha ζ s1 σ H1 Q I1 q1
 | false=>exact hb ζ s1 σ H1 Q I1 q1
end
def gC(K:fI)(H:Hp)(a:Addr)(xs:List V):Prop:=
 Rd H a (.lst xs)\/
  ∃(o:Obj) (its:Array Value) (n:Nat),K.lookup a=some o/\o.cls= .type "list"/\o.dict=none/\o.data= .seq its n/\its.size<=sizeLine/\aC xs its.toList
def nv(K:fI)(H:Hp)(a:Addr)(xs:List V):Prop:=
 Rd H a (.tup xs)\/
  ∃(o:Obj) (its:Array Value) (n:Nat),K.lookup a=some o/\o.cls= .type "tuple"/\o.data= .seq its n/\its.size<=sizeLine/\aC xs its.toList
def YG:Value->Option V
 | .none=>some .bF
 | .bool b=>some (.bl b)
 | .int i _=>some (.int i)
 | .str x _=>some (.str x)
 | .bytes b _=>some (.Hs b)
 | .float b _=>some (.Ru b)
 | .ref a=>some (.ref a)
 | .type n=>some (.ty n)
 | _=>none
def aF.abs{x:V}(r:aF x u):YG u=some x:=by
 cases x with
 | bF=>cases r;rfl
 | bl _=>cases r;rfl
 | int _=>have⟨t,rfl⟩:=r;rfl
 | str _=>have⟨t,rfl⟩:=r;rfl
 | Hs _=>have⟨t,rfl⟩:=r;rfl
 | Ru _=>have⟨t,rfl⟩:=r;rfl
 | ref _=>cases r;rfl
 | ty _=>cases r;rfl
def aF.inj{x y:V}{u:Value}(r:aF x u)(q:aF y u):x=y:=aax (r.abs.symm.trans q.abs)
def aC.inj:∀{xs ys:List V} {us:List Value},aC xs us->aC ys us->xs=ys
 | _,_,_,.nil,.nil=>rfl
 | _,_,_,.cons r t,.cons r' t'=>by rw[r.inj r',aC.inj t t']
section
variable{H:Hp}{xs ys:List V}
def gC.of{K:fI}(h:H a=some (.lst xs)):gC K H a xs:=.inl (.inl h)
def nv.of{K:fI}(h:H a=some (.tup xs)):nv K H a xs:=.inl (.inl h)
def Inv.list(I:Inv X ζ σ H s)(h:gC X.K H a xs):∃its:List Value,aC xs its/\PlainL s.heap a its.toArray/\xs.length<=sizeLine:=by
 rcases h with h| ⟨o,its,n,hk,hc,hd,hs,hz,r⟩
 ·have⟨z,its,n,r,e⟩:=h.ok I.bb;exact⟨its,r,⟨_,n,e,rfl,rfl,rfl⟩,z⟩
 ·refine⟨its.toList,r,⟨o,n,I.qy a o hk,hc,hd,by simpa using hs⟩,?_⟩;have e:=r.length;simp only[Array.length_toList]at e;omega
def Inv.tuple(I:Inv X ζ σ H s)(h:nv X.K H a xs):∃its:List Value,aC xs its/\IsTup s.heap a its.toArray/\xs.length<=sizeLine:=by
 rcases h with h| ⟨o,its,n,hk,hc,hs,hz,r⟩
 ·have⟨z,its,r,p⟩:=h.ok I.bb;exact⟨its,r,p,z⟩
 ·refine⟨its.toList,r,⟨o,I.qy a o hk,hc,n,by simpa using hs⟩,?_⟩;have e:=r.length;simp only[Array.length_toList]at e;omega
def Inv.gU(I:Inv X ζ σ H s)(h:gC X.K H a xs)(h':gC X.K H a ys):xs=ys:=by
 have⟨its,r,⟨o,n,e,_,_,d⟩,_⟩:=I.list h;have⟨its',r',⟨o',n',e',_,_,d'⟩,_⟩:=I.list h';rw[e]at e';cases e';rw[d]at d';injection d' with d1 _
 have:its=its':=by simpa using congrArg Array.toList d1
 subst this;exact r.inj r'
def Inv.vF(I:Inv X ζ σ H s)(h:nv X.K H a xs)(h':nv X.K H a ys):xs=ys:=by
 have⟨its,r,⟨o,e,_,n,d⟩,_⟩:=I.tuple h;have⟨its',r',⟨o',e',_,n',d'⟩,_⟩:=I.tuple h';rw[e]at e';cases e';rw[d]at d';injection d' with d1 _
 have:its=its':=by simpa using congrArg Array.toList d1
 subst this;exact r.inj r'
end
section
variable{st:Stmt}{rest:List Stmt}{t u:TS}
def R0:TS:=λD σ H=>D.nx σ H
def Zy(t u:TS):TS:=λD σ H=>t {D with nx:=u D} σ H
def Mt:Hr X [] R0:=λ_ _ σ H _ I h=>wpAny_execs_nil ⟨σ,H,I,h⟩
def J0(h1:PS X st t)(h2:Hr X rest u):Hr X (st::rest) (Zy t u):=by
 intro ζ s σ H D I h;refine wpAny_execs_cons (bH (h1 ζ s σ H {D with nx:=u D} I h) λf s1 q=>?_);cases f with
 | next=>
  have⟨σ',H',I',q⟩:=q;exact h2 ζ s1 σ' H' D I' q
 | ret v=>exact q
 | brk=>exact q
 | cont=>exact q
def Mn(h1:PS X st t):Hr X [st] t:=by
 intro ζ s σ H D I h;refine wpAny_execs_cons (bH (h1 ζ s σ H D I h) λf s1 q=>?_);cases f with
 | next=>exact wpAny_execs_nil q
 | ret v=>exact q
 | brk=>exact q
 | cont=>exact q
def Sg:TS:=λD σ H=>D.ct σ H
def zy:PS X (.Continue pos) Sg:=λ_ _ σ H _ I h=>wpAny_Continue ⟨σ,H,I,h⟩
def Inv.quiet{H:Hp}(I:Inv X ζ σ H s):interactive X.env=false:=by simp[interactive,I.ok.kind]
def Sk(te:TE):TS:=λD σ H=>te σ H λ_ H1=>D.nx σ H1
def NC(he:PE X e te)(hs:swapsWith e none pos.line X.env=pure false:=by rfl):PS X (.Expr e pos) (Sk te):=by intro ζ s σ H D I h;exact wpAny_Expr_any (bH (he ζ s σ H _ I h) λv s1 ⟨x,H1,I1,r1,q1⟩=>⟨σ,H1,I1,q1⟩) I.quiet hs
def Wm(te:TE):TS:=λD σ H=>te σ H D.rt
def Q4(he:PE X e te):PS X (.Return (some e) pos) (Wm te):=by intro ζ s σ H D I h;exact wpAny_Return_some (bH (he ζ s σ H _ I h) λv s1 ⟨x,H1,I1,r1,q1⟩=>⟨x,σ,H1,I1,r1,q1⟩)
def Zc(c:TT)(t u:TS):TS:=λD σ H=>c σ H λb H1=>if b=true then t D σ H1 else u D σ H1
def R4{a b:List Stmt}{tc:TT}(hc:PT X c tc)(ha:Hr X a t)(hb:Hr X b u):PS X (.If c a b pos) (Zc tc t u):=by
 intro ζ s σ H D I h;refine wpAny_If (bH (hc ζ s σ H _ I h) λd s1 xz=>?_);have⟨H1,I1,q1⟩:=xz;cases d with
 | true=>exact ha ζ s1 σ H1 D I1 q1
 | false=>exact hb ζ s1 σ H1 D I1 q1
end
abbrev TG:=V->St->Hp->(St->Hp->Prop)->Prop
abbrev OR:=List V->St->Hp->(St->Hp->Prop)->Prop
def PG(X:Cx)(target:Expr)(t:TG):Prop:=
 ∀(ζ:List (Addr×Obj)) (s:Shared) (σ:St) (H:Hp) (v:V) (u:Value) (Q:St->Hp->Prop),Inv X ζ σ H s->aF v u->t v σ H Q->
  wpAny (model X.prog X.w) X.A (assign target X.env u) (λ_ s'=>∃σ' H',Inv X ζ σ' H' s'/\Q σ' H') X.xe s
def Vu(X:Cx)(ts:List Expr)(t:OR):Prop:=
 ∀(ζ:List (Addr×Obj)) (s:Shared) (σ:St) (H:Hp) (vs:List V) (us:List Value) (Q:St->Hp->Prop),Inv X ζ σ H s->aC vs us->t vs σ H Q->
  wpAny (model X.prog X.w) X.A (assignInOrder ((assignEach ts X.env).map (·.2)) us) (λ_ s'=>∃σ' H',Inv X ζ σ' H' s'/\Q σ' H') X.xe s
abbrev O5:=V->V->V->Hp->(Hp->Prop)->Prop
def Ta(X:Cx)(t:O5):Prop:=
 ∀(ζ:List (Addr×Obj)) (s:Shared) (σ:St) (H:Hp) (o i v:V) (ov iv u:Value) (Q:Hp->Prop),Inv X ζ σ H s->aF o ov->aF i iv->aF v u->t o i v H Q->
  wpAny (model X.prog X.w) X.A (setItem ov iv u) (λ_ s'=>∃H',Inv X ζ σ H' s'/\Q H') X.xe s
section
def iU(i:Nat):TG:=λv σ H Q=>Q (σ.set i (some v)) H
def au(hN:X.N.Nodup)(hi:X.N[i]? =some x)(hx:Loc X.env.scope x)(hf:X.fn x=true\/X.env.scope.names.lookup x=some .local:=by first| exact .inl rfl| exact .inr rfl| assumption):PG X (.Name x pos) (iU i):=by intro ζ s σ H v u Q I r h;exact wpAny_assign_Name (oj I hN hi hx r (λs' I'=>⟨_,H,I',h⟩) hf)
def IF:OR:=λvs σ H Q=>vs=[]/\Q σ H
def ot(t:TG)(u:OR):OR:=λvs σ H Q=>∃v r,vs=v::r/\t v σ H λσ' H'=>u r σ' H' Q
def lC:Vu X [] IF:=by intro ζ s σ H vs us Q I r h;have⟨e,h⟩:=h;subst e;cases r;exact assignInOrder_nil ⟨σ,H,I,h⟩
def cR{t:TG}{u:OR}(h1:PG X e t)(h2:Vu X es u)
  (hs:(assignEach (e::es) X.env).map (·.2)=assign e X.env::(assignEach es X.env).map (·.2):=by rfl):Vu X (e::es) (ot t u):=by
 intro ζ s σ H vs us Q I r h;have⟨v,vr,e1,h⟩:=h;subst e1;cases r with
 | cons r rr=>
  rw[hs];refine assignInOrder_cons (bH (h1 ζ s σ H _ _ _ I r h) λ_ s1 xz=>?_);have⟨σ1,H1,I1,q1⟩:=xz;exact h2 ζ s1 σ1 H1 _ _ Q I1 rr q1
def J1(K:fI)(n:Nat)(t:OR):TG:=λv σ H Q=>∃a xs,v= .ref a/\nv K H a xs/\xs.length=n/\t xs σ H Q
def qa{k:Nat}{t:OR}{n:Nat}(hc:X.calm=true)(h:Vu X es t)
  (hn:(assignEach es X.env).length=n:=by rfl) (Rz:(assignEach es X.env).findIdx? (·.1)=none:=by rfl):PG X (.Tuple es k pos) (J1 X.K n t):=by
 intro ζ s σ H v u Q I r hw;have⟨a,xs,e1,hq,hl,hw⟩:=hw;subst e1;cases r;have⟨its,rv,ht,hz⟩:=I.tuple hq;refine assign_Tuple_tuple (I.ok.hd hc) ht (by simp[hn,<-hl,rv.length]) Rz λh' hx=>?_;have I1:Inv X ζ σ H {s with heap:=h'}:=I.kept (t':=s.toks) λb o e=>hx b o (aaY (aar e)) e;exact h ζ _ σ H xs _ Q I1 (by simpa using rv) hw
def Zw(to ti:TE)(t:O5):TG:=λv σ H Q=>to σ H λo H1=>ti σ H1 λi H2=>t o i v H2 λH3=>Q σ H3
def Pd{o i:Expr}{to ti:TE}{t:O5}(ho:PE X o to)(hi:PE X i ti)(hs:Ta X t)
  (ha:∀v,assign (.Subscript o i pos) X.env v=(do
   let ov<-holding [v] (eval o X.env)
   let iv<-holding [v,ov] (eval i X.env)
   standAt pos
   holding [v,ov,iv] (setItem ov iv v)
   release [v,ov,iv] []):=by intro _;rfl):PG X (.Subscript o i pos) (Zw to ti t):=by
 intro ζ s σ H v u Q I r h;rw[ha];refine aaH (wpAny_holding (bH (ho ζ s σ H _ I h) λov s1 xz=>?_));have⟨x,H1,I1,r1,q1⟩:=xz;refine aaH (wpAny_holding (bH (hi ζ s1 σ H1 _ I1 q1) λiv s2 xz=>?_));have⟨y,H2,I2,r2,q2⟩:=xz;refine aaH (wpAny_standAt (aaH (wpAny_holding (bH (hs ζ s2 σ H2 x y v ov iv u _ I2 r1 r2 r q2) λ_ s3 xz=>?_))));have⟨H3,I3,q3⟩:=xz;exact wpAny_release ⟨σ,H3,I3,q3⟩
def T_(te:TE)(g:TG):TS:=λD σ H=>te σ H λx H1=>g x σ H1 D.nx
def JH{g:TG}(he:PE X e te)(hg:PG X tg g)(hs:swapsWithSole [tg] e pos.line X.env=pure false:=by rfl)(hw:swappedStores [tg] e X.env=pure none:=by rfl)
  (h1:(assignEach [tg] X.env).map (·.2)=[assign tg X.env]:=by rfl):PS X (.Assign [tg] e pos) (T_ te g):=by
 intro ζ s σ H D I h;refine wpAny_Assign_stores (bH (he ζ s σ H _ I h) λv s1 xz=>?_) hs hw;have⟨x,H1,I1,r1,q1⟩:=xz;rw[h1];exact bH (hg ζ s1 σ H1 x v _ I1 r1 q1) λ_ s2 q=>q
def OS{pos':Pos}(hN:X.N.Nodup)(hi:X.N[i]? =some x)(hx:Loc X.env.scope x)(he:PE X e te)(hs:swapsWith e (some (.Name x pos')) pos.line X.env=pure false:=by rfl)(hf:X.fn x=true\/X.env.scope.names.lookup x=some .local:=by first| exact .inl rfl| exact .inr rfl| assumption):
  PS X (.Assign [.Name x pos'] e pos) (T_ te (iU i)):=by
 intro ζ s σ H D I h;refine wpAny_Assign_Name (bH (he ζ s σ H _ I h) λv s1 xz=>?_) hs;have⟨y,H1,I1,r1,q1⟩:=xz;exact oj I1 hN hi hx r1 (λs2 I2=>⟨_,H1,I2,q1⟩) hf
def Zj(i j:Nat)(ta:TA):TS:=λD σ H=>ta σ H λvs H1=>∃v w,vs=[v,w]/\D.nx ((σ.set i (some v)).set j (some w)) H1
def O2{j:Nat}{y:Str}{a b:Expr}{ta:TA}{px py pt:Pos}{kt k2 Ri}(hc:X.calm=true)(hN:X.N.Nodup)(hi:X.N[i]? =some x)(hj:X.N[j]? =some y)(XD:i≠j)
  (hx:X.env.scope.names.lookup x=some .local) (hy:X.env.scope.names.lookup y=some .local) (ha:PA X [a,b] ta)
  (hw:swappedStores [.Tuple [.Name x px,.Name y py] kt pt] (.Tuple [a,b] k2 Ri) X.env=pure (some [x,y]))
  (hs:swapsWithSole [.Tuple [.Name x px,.Name y py] kt pt] (.Tuple [a,b] k2 Ri) pos.line X.env=pure false:=by rfl):
  PS X (.Assign [.Tuple [.Name x px,.Name y py] kt pt] (.Tuple [a,b] k2 Ri) pos) (Zj i j ta):=by
 intro ζ s σ H D I h;rw[exec_Assign_arm];refine aaH (wpAny_standAt ?_);rw[hs];refine aaH (aba ?_);rw[aav @_];refine aaH (Tuple_ (bH (ha _ ζ s σ H _ I h) λus s1 xz=>?_));have⟨vs,H1,I1,r1,q1⟩:=xz;have⟨v,w,e1,q1⟩:=q1;subst e1;obtain⟨u1,u2,rfl,rv,Fm⟩:∃u1 u2,us=[u1,u2]/\aF v u1/\aF w u2:=by
  cases r1 with
  | cons p q=>
   cases q with
   | cons p' q'=>
    cases q';exact⟨_,_,rfl,p,p'⟩
 refine wpAny_newObj_type ?_ gV;have I2:Inv X ζ σ H1 {s1 with heap:=s1.heap.push {cls:=.type "tuple",data:=.seq [u1,u2].toArray}}:=I1.kept (t':=s1.toks) λb o e=>aak _ e;rw[hw];refine aaH (aba ?_);show wpAny (model X.prog X.w) X.A (do rule "assign.swapped-stores";let items<-unpackItems (.ref s1.heap.objs.size) 2 none;assignInOrder [λv=>bindName X.env y v,λv=>bindName X.env x v] items.reverse;pure Flow.next) _ _ _;refine aaH (wpAny_rule (aaH (unpackItems_tuple (items:= #[u1,u2]) (I.ok.hd hc) (IsTup.new s1.heap _) λh' Tz=>?_)));have I3:=I2.kept (h':=h') (t':=s1.toks) λb o e=>Tz b o (aaY (aar e)) e;show wpAny _ _ (assignInOrder [λv=>bindName X.env y v,λv=>bindName X.env x v] [u2,u1] >>= λ_=>pure Flow.next) _ _ _;refine aaH (assignInOrder_cons (wpAny_bindName (oj I3 hN hj (.inl hy) Fm (λs2 I4=>?_) (.inr hy))));refine assignInOrder_cons (wpAny_bindName (oj I4 hN hi (.inl hx) rv (λs3 I5=>assignInOrder_nil (aba ?_)) (.inr hx)));rw[List.set_comm _ _ (Ne.symm XD)]at I5;exact⟨_,H1,I5,q1⟩
end
section
def Qa(c:TT)(tb:TS):TS:=λD σ H=>∃W:Nat->St->Hp->Prop,(∃m,W m σ H)/\∀m σ H,W m σ H->
 c σ H λb H1=>if b=true then∃N:St->Hp->Prop,(∀σ' H',N σ' H'->∃m',m' < m/\W m' σ' H')/\tb {D with nx:=N,ct:=N,bk:=D.nx} σ H1 else D.nx σ H1
def IZ{tc:TT}{tb:TS}(hp:PassesOwn (model X.prog X.w) X.A X.env X.xe)(hc:PT X c tc)(hb:Hr X body tb):PS X (.While c body [] pos) (Qa tc tb):=by
 intro ζ s σ H D I h;have⟨W,⟨m0,w0⟩,turn⟩:=h;refine wpAny_While (codeAny_whileLoop (λn s'=>∃σ' H',Inv X ζ σ' H' s'/\W n σ' H') ?_ m0 ⟨σ,H,I,w0⟩);rintro n s1 ⟨σ1,H1,I1,w1⟩;refine wpAny_passesOwn hp (bH (hc ζ s1 σ1 H1 _ I1 (turn n σ1 H1 w1)) λb s2 xz=>?_);have⟨H2,I2,q2⟩:=xz;cases b with
 | true=>
  have⟨N,hN,q2⟩:=q2;rw[aaw rfl];refine wpAny_passesOwn hp (bH (hb ζ s2 σ1 H2 _ I2 q2) λf s3 q3=>?_);cases f with
  | next=>
   have⟨σ3,H3,I3,n3⟩:=q3;have⟨m',hm,w3⟩:=hN σ3 H3 n3;exact⟨m',hm,σ3,H3,I3,w3⟩
  | cont=>
   have⟨σ3,H3,I3,n3⟩:=q3;have⟨m',hm,w3⟩:=hN σ3 H3 n3;exact⟨m',hm,σ3,H3,I3,w3⟩
  | brk=>exact q3
  | ret v=>exact q3
 | false=>
  rw[aav aaD];exact wpAny_execs_nil ⟨σ1,H2,I2,q2⟩
end
structure It where
 go:Nat->Hp->Prop
 U2:Nat->Hp->V->Hp->Prop
 stop:Nat->Hp->Prop
def ui(X:Cx)(ζ:List (Addr×Obj))(H:Hp)(b:Addr):Prop:=
 H b=none/\b≠X.env.locals/\b∉X.fs/\(b∈X.ex\/X.s₀.heap.objs.size<=b)/\(∀x c,X.env.cells.lookup x=some c->c≠b)/\∀p∈X.pn++ζ,p.1≠b
def Inv.C2{H H':Hp}(I:Inv X ζ σ H s)(hb:s.heap.objs.size<=b)(hn:H' b=none):ui X ζ H' b:=by
 refine⟨hn,acI (aau I.lt hb),I.Y2 hb,.inr (aas I.sz hb),λx c e z=>?_,λp hp z=>?_⟩
 ·have⟨v,q⟩:=I.cell x c e;exact aaJ (aau q.lt (by rw[z];exact hb)) (abq _)
 ·exact aaJ (aau (aar (I.pin p hp).1) (by rw[z];exact hb)) (abq _)
structure Turn(P:Program)(w:World)(K:fI)(tg:Expr)(J:It)(fp:List Addr)(it:Addr)(tn:Nat->Heap->Prop):Prop where
 mem:it∈fp
 obj:∀i h,tn i h->∀b∈fp,∃o,h.get? b=some o/\∀v,o.data≠ .cell v
 keep:∀i h h',tn i h->(∀b∈fp,∀o,h.get? b=some o->h'.get? b=some o)->tn i h'
 item:∀(X:Cx),X.prog=P->X.w=w->X.K=K->X.calm=true->∀(i:Nat) (ζ:List (Addr×Obj)) (s:Shared) (σ:St) (H:Hp) (E:Value->Shared->Prop),Inv X ζ σ H s->(∀b∈fp,ui X ζ H b)->tn i s.heap->J.go i H->
  wpAny (model P w) X.A (pyNext (.ref it)) (λr s1=>∃u,r=some u/\
   wpAny (model P w) X.A (letOwnedTupleGo tg (.ref it) u) (λ_ s2=>∃x H',Inv X ζ σ H' s2/\aF x u/\J.U2 i H x H'/\tn (i+1) s2.heap/\∀b∈fp,H' b=none) E s1) E s
 done:∀(X:Cx),X.prog=P->X.w=w->X.K=K->X.calm=true->∀(i:Nat) (ζ:List (Addr×Obj)) (s:Shared) (σ:St) (H:Hp) (E:Value->Shared->Prop),Inv X ζ σ H s->(∀b∈fp,ui X ζ H b)->tn i s.heap->J.stop i H->
  wpAny (model P w) X.A (pyNext (.ref it)) (λr s1=>r=none/\Inv X ζ σ H s1) E s
 self:∀(A:Around) (i:Nat) (s:Shared) (Q:Value->Shared->Prop) (E:Value->Shared->Prop),tn i s.heap->Q (.ref it) s->wpAny (model P w) A (pyIter (.ref it)) Q E s
abbrev TI:=St->Hp->(It->Hp->Prop)->Prop
def Lo(X:Cx)(ζ:List (Addr×Obj))(σ:St)(tg:Expr)(R:It->Hp->Prop)(VH:Value)(s2:Shared):Prop:=
 ∃(it:Addr) (fp:List Addr) (tn:Nat->Heap->Prop) (J:It) (H':Hp),VH= .ref it/\Inv X ζ σ H' s2/\Turn X.prog X.w X.K tg J fp it tn/\tn 0 s2.heap/\(∀b∈fp,ui X ζ H' b)/\R J H'
def PI(X:Cx)(tg iter:Expr)(wi:TI):Prop:=
 ∀(ζ:List (Addr×Obj)) (s:Shared) (σ:St) (H:Hp) (R:It->Hp->Prop),Inv X ζ σ H s->wi σ H R->
  wpAny (model X.prog X.w) X.A (eval iter X.env) (λv s1=>wpAny (model X.prog X.w) X.A (pyIter v) (Lo X ζ σ tg R) X.xe s1) X.xe s
def vQ   {E : Value -> Shared -> Prop}   {it : Addr}  {o : Obj} {n : String} {vs : Array Value} {Q : Unit -> Shared -> Prop} (ho : s.heap.get? it = some o) (hc : o.cls = .type n) (hd : o.data = .fields vs)
    (hn : ["enumerate","zip","dict_itemiterator","dict_reverseitemiterator","odict_iterator","itertools.zip_longest","itertools.pairwise"].contains n = false) (hQ : Q Unit.unit s) : wpAny M A (letOwnedTupleGo tg (.ref it) u) Q E s :=by
  unfold letOwnedTupleGo
  cases tg <;> first
    | exact aba hQ
    | (cases u <;> first
        | exact aba hQ
        | (refine aaH (wpAny_load ho ?_)
           rw[hc,hd];show wpAny M A (if (["enumerate","zip","dict_itemiterator","dict_reverseitemiterator","odict_iterator","itertools.zip_longest","itertools.pairwise"].contains n && vs[0]? == some (rawInt _)) = true then _ else _) Q E s;rw[aav (by intro h;rw[hn,Bool.false_and]at h;cases h)]
           exact aba hQ))
def VP(K:fI)(a:Addr):It:=
 ⟨λi H=>∃xs x,gC K H a xs/\xs[i]? =some x,λi H x H'=>H'=H/\∀xs,gC K H a xs->xs[i]? =some x,λi H=>∃xs,gC K H a xs/\xs.length<=i⟩
def Zv(K:fI)(a:Addr):It:=
 ⟨λi H=>∃xs x,nv K H a xs/\xs[i]? =some x,λi H x H'=>H'=H/\∀xs,nv K H a xs->xs[i]? =some x,λi H=>∃xs,nv K H a xs/\xs.length<=i⟩
def Ub(lo:Int)(n:Nat):It:=⟨λi _=>i < n,λi H x H'=>H'=H/\x= .int (lo+i),λi _=>n<=i⟩
def Ge{K:fI}(a it:Addr):Turn P w K tg (VP K a) [it] it (λi h=>h.IsListIter it a i) where
 mem:=by simp
 obj:=λi h st b hb=>by
  have e:b=it:=by simpa using hb
  subst e;have⟨o,e,c,d⟩:=st;exact⟨o,e,λv z=>by rw[d]at z;cases z⟩
 keep:=λi h h' st k=>st.at λo e=>k it (by simp) o e
 item:=by intro X hP hw hK hc i ζ s σ H E I hf st hg;subst hP hw hK;have⟨xs,x,hq,hx⟩:=hg;have⟨its,rv,p,hz⟩:=I.list hq;have⟨u,hu,ru⟩:=rv.get hx;have⟨f0,f1,f2,f3,f4,f5⟩:=hf it (by simp);refine wpAny_pyNext_list_item st p.isList (x:=u) (by simpa using hu) λh' wx sb=>?_;have I1:Inv X ζ σ H {s with heap:=h'}:=I.turned (t':=s.toks) (λb o hb e=>(sb.2 b hb).trans e) f0 f1 f3 f4 f5;have⟨o,e,c,d⟩:=id wx;exact⟨u,rfl,vQ (s:={s with heap:=h'}) e c d @_ ⟨x,H,I1,ru,⟨rfl,λys hy=>by rw[I.gU hy hq];exact hx⟩,wx,λb hb=>(hf b hb).1⟩⟩
 done:=by intro X hP hw hK hc i ζ s σ H E I hf st hg;subst hP hw hK;have⟨xs,hq,hx⟩:=hg;have⟨its,rv,p,hz⟩:=I.list hq;have⟨f0,f1,f2,f3,f4,f5⟩:=hf it (by simp);have hl:=rv.length;exact wpAny_pyNext_list_end (I.ok.hd hc) st p.isList (by simp;omega) λh' eb=>⟨rfl,I.turned (t':=s.toks) (λb o hb e=>eb b o hb e) f0 f1 f3 f4 f5⟩
 self:=λ_ _ _ _ _ st h=>wpAny_pyIter_listiter st h
def B9{K:fI}(a it:Addr):Turn P w K tg (Zv K a) [it] it (λi h=>h.IsTupleIter it a i) where
 mem:=by simp
 obj:=λi h st b hb=>by
  have e:b=it:=by simpa using hb
  subst e;have⟨o,e,c,d⟩:=st;exact⟨o,e,λv z=>by rw[d]at z;cases z⟩
 keep:=λi h h' st k=>st.at λo e=>k it (by simp) o e
 item:=by intro X hP hw hK hc i ζ s σ H E I hf st hg;subst hP hw hK;have⟨xs,x,hq,hx⟩:=hg;have⟨its,rv,p,hz⟩:=I.tuple hq;have⟨u,hu,ru⟩:=rv.get hx;have⟨f0,f1,f2,f3,f4,f5⟩:=hf it (by simp);refine wpAny_pyNext_tuple_item st (show s.heap.IsTuple a its.toArray from p) (x:=u) (by simpa using hu) λh' wx sb=>?_;have I1:Inv X ζ σ H {s with heap:=h'}:=I.turned (t':=s.toks) (λb o hb e=>(sb.2 b hb).trans e) f0 f1 f3 f4 f5;have⟨o,e,c,d⟩:=id wx;exact⟨u,rfl,vQ (s:={s with heap:=h'}) e c d @_ ⟨x,H,I1,ru,⟨rfl,λys hy=>by rw[I.vF hy hq];exact hx⟩,wx,λb hb=>(hf b hb).1⟩⟩
 done:=by intro X hP hw hK hc i ζ s σ H E I hf st hg;subst hP hw hK;have⟨xs,hq,hx⟩:=hg;have⟨its,rv,p,hz⟩:=I.tuple hq;have⟨f0,f1,f2,f3,f4,f5⟩:=hf it (by simp);have hl:=rv.length;exact wpAny_pyNext_tuple_end (I.ok.hd hc) st (show s.heap.IsTuple a its.toArray from p) (by simp;omega) λh' eb=>⟨rfl,I.turned (t':=s.toks) (λb o hb e=>eb b o hb e) f0 f1 f3 f4 f5⟩
 self:=λ_ _ _ _ _ st h=>wpAny_pyIter_tupleiter st h
def Df{K:fI}(it:Addr)(lo:Int)(n:Nat):Turn P w K tg (Ub lo n) [it] it (λi h=>IsRangeIter h it (lo+(i:Nat) * 1) ((n:Int) - (i:Nat)) 1) where
 mem:=by simp
 obj:=λi h st b hb=>by
  have e:b=it:=by simpa using hb
  subst e
  exact⟨_,st,λv z=>by
   have z':Data.fields _=Data.cell v:=z
   cases z'⟩
 keep:=λi h h' st k=>k it (by simp) _ st
 item:=by intro X hP hw hK hc i ζ s σ H E I hf st hg;subst hP hw hK;have⟨f0,f1,f2,f3,f4,f5⟩:=hf it (by simp);have W:=Walks.range (prog:=X.prog) (w:=X.w) (I.ok.hd hc) it lo 1 n;refine W.item i s _ _ hg st λv h' tk hv wx kk=>?_;have⟨t,rfl⟩:=hv;have I1:Inv X ζ σ H {s with heap:=h',toks:=tk}:=I.turned (λb o hb e=>kk b o (by simpa using hb) e) f0 f1 f3 f4 f5;refine⟨_,rfl,vQ (s:={s with heap:=h',toks:=tk}) (n:="range_iterator") wx rfl rfl @_ ⟨.int (lo+i),H,I1,⟨t,?_⟩,⟨rfl,rfl⟩,wx,λb hb=>(hf b hb).1⟩⟩;rw[Int.mul_one]
 done:=by intro X hP hw hK hc i ζ s σ H E I hf st hg;subst hP hw hK;have⟨f0,f1,f2,f3,f4,f5⟩:=hf it (by simp);exact wpAny_pyNext_range_end (I.ok.hd hc) st (by have:n<=i:=hg;omega) λh' eb=>⟨rfl,I.turned (t':=s.toks) (λb o hb e=>eb b o hb e) f0 f1 f3 f4 f5⟩
 self:=λ_ _ _ _ _ st h=>wpAny_pyIter_rangeiter st h
section
def AF{H:Hp}{R:It->Hp->Prop}{lo hi:Int}{t u v:Tok}{tk:Nat}(I:Inv X ζ σ H s)(h1: -(2 ^ 62)<=lo)(h2:lo < 2 ^ 62)(h3: -(2 ^ 62)<=hi)(h4:hi < 2 ^ 62)
  (q:R (Ub lo (hi - lo).toNat) H):wpAny (model X.prog X.w) X.A (pyIter (.ref s.heap.objs.size)) (Lo X ζ σ tg R) E {s with heap:=s.heap.push {cls:=.type "range",data:=.fields #[.int lo t,.int hi u,.int 1 v]},toks:=tk}:=by
 refine wpAny_pyIter_range (IsRange.new ..) (small_one h1 h2 h3 h4) ?_;have I1:Inv X ζ σ H {s with heap:=s.heap.push {cls:=.type "range",data:=.fields #[.int lo t,.int hi u,.int 1 v]},toks:=tk}:=I.kept λb o e=>aak _ e
 refine⟨(s.heap.push {cls:=.type "range",data:=.fields #[.int lo t,.int hi u,.int 1 v]}).objs.size,[(s.heap.push {cls:=.type "range",data:=.fields #[.int lo t,.int hi u,.int 1 v]}).objs.size],_,_,H,rfl,
  I1.kept (t':=tk) λb o e=>aak _ e,Df _ lo (hi - lo).toNat,?_,λb hb=>?_,q⟩
 ·have e1:lo+((0:Nat):Int) * 1=lo:=by simp
  have e2:(((hi - lo).toNat:Nat):Int) - ((0:Nat):Int)=Builtin.Range.rangeSize lo hi 1:=by rw[rangeSize_one];split <;> omega
  show IsRangeIter _ _ (lo+((0:Nat):Int) * 1) ((((hi - lo).toNat:Nat):Int) - ((0:Nat):Int)) 1;rw[e1,e2];exact aaS _ rfl
 ·have e:b=(s.heap.push {cls:=.type "range",data:=.fields #[.int lo t,.int hi u,.int 1 v]}).objs.size:=by simpa using hb
  subst e;exact I1.C2 (aai _) (I1.bb.fresh (aai _))
def Ti(ta:TA):TI:=λσ H R=>ta σ H λvs H1=>∃j:Int,vs=[.int j]/\ -(2 ^ 62)<=j/\j < 2 ^ 62/\R (Ub 0 j.toNat) H1
def Sd(ta:TA):TI:=λσ H R=>ta σ H λvs H1=>∃i j:Int,vs=[.int i,.int j]/\(-(2 ^ 62)<=i/\i < 2 ^ 62/\ -(2 ^ 62)<=j/\j < 2 ^ 62)/\R (Ub i (j - i).toNat) H1
def GY{a:Expr}{ta:TA}{p:Pos}(hg:Gl X "range")(hm:X.mg "range"=none)(ha:PA X [a] ta)(hs:starEach [a] X.env=[(false,eval a X.env)]:=by rfl):PI X tg (.Call (.Name "range" p) [a] [] pos) (Ti ta):=by
 intro ζ s σ H R I h;refine Call_ (mL I hg hm boot_range (PyProof.Rows.callWith_type1 (bH (ha pos ζ s σ H _ I h) λus s1 xz=>?_) hs rfl));have⟨vs,H1,I1,r1,q1⟩:=xz;have⟨j,e,q1,q2,q⟩:=q1;subst e;cases r1 with
 | cons r rr=>
  cases rr;have⟨t,rfl⟩:=r;exact call_range_1 (AF I1 () () q1 q2 (by simpa using q))
def Hb{a b:Expr}{ta:TA}{p:Pos}(hg:Gl X "range")(hm:X.mg "range"=none)(ha:PA X [a,b] ta)(hs:starEach [a,b] X.env=[(false,eval a X.env),(false,eval b X.env)]:=by rfl)(Pu:starEach [b] X.env=[(false,eval b X.env)]:=by rfl):
  PI X tg (.Call (.Name "range" p) [a,b] [] pos) (Sd ta):=by
 intro ζ s σ H R I h;refine Call_ (mL I hg hm boot_range (PyProof.Rows.callWith_type1 (bH (ha pos ζ s σ H _ I h) fun us s1 ⟨vs,H1,I1,r1,q1⟩=>?_) (by rw[hs,Pu]) (by rw[Pu];rfl)));have⟨i,j,e,⟨q1,q2,q3,q4⟩,q⟩:=q1;subst e;cases r1 with
 | cons r rr=>
  cases rr with
  | cons r' rr=>
   cases rr;have⟨t,rfl⟩:=r;have⟨t',rfl⟩:=r';exact call_range_2 (AF I1 q1 q2 q3 q4 q)
def Yk(wi:TI)(g:TG)(tb:TS):TS:=λD σ H=>wi σ H λJ H1=>∃W:Nat->Nat->St->Hp->Prop,(∃m,W 0 m σ H1)/\∀i m σ H,W i m σ H->
 (J.stop i H/\D.nx σ H)\/(J.go i H/\∃N:St->Hp->Prop,(∀σ' H',N σ' H'->∃m',m' < m/\W (i+1) m' σ' H')/\∀x H',J.U2 i H x H'->g x σ H' λσ2 H2=>tb {D with nx:=N,ct:=N,bk:=D.nx} σ2 H2)
def wX(fp:List Addr)(h:Heap):List (Addr×Obj):=fp.filterMap λb=>(h.get? b).map λo=>(b,o)
def fq{o:Obj}(hb:b∈fp)(e:h.get? b=some o):(b,o)∈wX fp h:=acv.mpr ⟨b,hb,by rw[e];rfl⟩
def Fp{p:Addr×Obj}(hp:p∈wX fp h):p.1∈fp/\h.get? p.1=some p.2:=by
 have⟨b,hb,e⟩:=acv.mp hp;cases q:h.get? b with
 | none=>rw[q]at e;cases e
 | some o=>
  rw[q]at e;have e':(b,o)=p:=aax e;subst e';exact⟨hb,q⟩
def Inv.pinned{H:Hp}(I:Inv X ζ σ H s)(hf:∀b∈fp,ui X ζ H b)(ho:∀b∈fp,∃o,s.heap.get? b=some o/\∀v,o.data≠ .cell v):Inv X (ζ++wX fp s.heap) σ H s:=
 I.ED λp hp=>(aa0.mp hp).elim (λz=>I.pin p (aaE _ z)) λz=>by have⟨hb,e⟩:=Fp z;have⟨f0,f1,f2,_⟩:=hf p.1 hb;have⟨o,e',d⟩:=ho p.1 hb;rw[e]at e';cases e';exact⟨e,f0,f1,f2,d⟩
def Inv.kX{pl:List (Addr×Obj)}{H:Hp}(I:Inv X (ζ++pl) σ H s):Inv X ζ σ H s:=I.ED λp hp=>I.pin p (aaE _ (List.mem_append_left _ hp))
def CT{iter:Expr}{wi:TI}{g:TG}{tb:TS}(hp:PassesOwn (model X.prog X.w) X.A X.env X.xe)(hc:X.calm=true)(hi:PI X tg iter wi)(hg:PG X tg g)(hb:Hr X body tb)
  (hs:∀x,foldedSetIterable iter X.env x=pure x:=by intro _;rfl):PS X (.For tg iter body [] pos) (Yk wi g tb):=by
 intro ζ s σ H D I h;refine wpAny_For (bH (hi ζ s σ H _ I h) λv s1 h1=>bH h1 λVH s2 h2=>?_) hs;have⟨it,fp,tn,J,H2,e,I2,T,st2,f2,W,⟨m0,w0⟩,turn⟩:=h2;subst e;have Qh:∀{H':Hp},(∀b∈fp,H' b=none)->∀b∈fp,ui X ζ H' b:=λhn b hb=>⟨hn b hb,(f2 b hb).2⟩;refine codeAny_forLoop_any (λn s'=>∃i σ' H',Inv X ζ σ' H' s'/\tn i s'.heap/\(∀b∈fp,H' b=none)/\W i n σ' H') ?_ m0 ⟨0,σ,H2,I2,st2,λb hb=>(f2 b hb).1,w0⟩;rintro n s3 ⟨i,σ3,H3,I3,st3,ZO,w3⟩;rcases turn i n σ3 H3 w3 with ⟨stop,qn⟩| ⟨go,N,hN,step⟩
 ·refine wpAny_passesOwn hp (bH (T.done X rfl rfl rfl hc i ζ s3 σ3 H3 X.xe I3 (Qh ZO) st3 stop) λr s4 xz=>?_);have⟨hr,I4⟩:=xz;subst hr;exact wpAny_execs_nil ⟨σ3,H3,I4,qn⟩
 ·refine wpAny_passesOwn hp (bH (T.item X rfl rfl rfl hc i ζ s3 σ3 H3 X.xe I3 (Qh ZO) st3 go) λr s4 xz=>?_);have⟨u,hr,h4⟩:=xz;subst hr;refine wpAny_passesOwn hp (bH h4 λ_ s5 xz=>?_);have⟨x,H5,I5,r5,y5,Zx,Vv⟩:=xz;have I5':=I5.pinned (Qh Vv) (T.obj _ _ Zx);refine wpAny_passesOwn hp (bH (hg _ s5 σ3 H5 x u _ I5' r5 (step x H5 y5)) λ_ s6 xz=>?_);have⟨σ6,H6,I6,q6⟩:=xz;refine wpAny_passesOwn hp (bH (hb _ s6 σ6 H6 _ I6 q6) λf s7 q7=>?_);have again:∀{σ7:St} {H7:Hp},Inv X (ζ++wX fp s5.heap) σ7 H7 s7->N σ7 H7->∃m,m < n/\∃i σ' H',Inv X ζ σ' H' s7/\tn i s7.heap/\(∀b∈fp,H' b=none)/\W i m σ' H':=λ{σ7 H7} I7 n7=>by have⟨m',hm,w7⟩:=hN σ7 H7 n7;refine⟨m',hm,i+1,σ7,H7,I7.kX,T.keep _ _ _ Zx λb hb o e=>(I7.pin (b,o) (aaE _ (aaE _ (fq hb e)))).1,λb hb=>?_,w7⟩;have⟨o,e,d⟩:=T.obj _ _ Zx b hb;exact(I7.pin (b,o) (aaE _ (aaE _ (fq hb e)))).2.1
  cases f with
  | next=>have⟨σ7,H7,I7,n7⟩:=q7;exact again I7 n7
  | cont=>have⟨σ7,H7,I7,n7⟩:=q7;exact again I7 n7
  | brk=>have⟨σ7,H7,I7,q7⟩:=q7;exact⟨σ7,H7,I7.kX,q7⟩
  | ret v=>have⟨x7,σ7,H7,I7,r7,q7⟩:=q7;exact⟨x7,σ7,H7,I7.kX,r7,q7⟩
end
abbrev R2:=V->V->Hp->VK->Prop
def jS(X:Cx)(f:Value->Value->Sem Value)(r:R2):Prop:=
 ∀(ζ:List (Addr×Obj)) (s:Shared) (σ:St) (H:Hp) (x y:V) (v u:Value) (Q:VK),Inv X ζ σ H s->aF x v->aF y u->r x y H Q->
  wpAny (model X.prog X.w) X.A (f v u) (EP X ζ σ Q) X.xe s
def VU(X:Cx)(f:Value->Sem Value)(r:V->Hp->VK->Prop):Prop:=
 ∀(ζ:List (Addr×Obj)) (s:Shared) (σ:St) (H:Hp) (x:V) (v:Value) (Q:VK),Inv X ζ σ H s->aF x v->r x H Q->
  wpAny (model X.prog X.w) X.A (f v) (EP X ζ σ Q) X.xe s
def dI(X:Cx)(f:Value)(r:List V->Hp->VK->Prop):Prop:=
 ∀(ζ:List (Addr×Obj)) (s:Shared) (σ:St) (H:Hp) (xs:List V) (us:List Value) (Q:VK),Inv X ζ σ H s->aC xs us->r xs H Q->
  wpAny (model X.prog X.w) X.A (call f us) (EP X ζ σ Q) X.xe s
def SH(r:R2)(ta tb:TE):TE:=λσ H Q=>ta σ H λx H1=>tb σ H1 λy H2=>r x y H2 Q
def tUn(r:V->Hp->VK->Prop)(ta:TE):TE:=λσ H Q=>ta σ H λx H1=>r x H1 Q
def rI(C:Int->Int->Prop)(g:Int->Int->V):R2:=λx y H Q=>∃i j,x= .int i/\y= .int j/\C i j/\Q (g i j) H
def Hi(g:Int->Int->V):R2:=λx y H Q=>∃i j,x= .int i/\y= .int j/\Q (g i j) H
def rU(g:Int->V):V->Hp->VK->Prop:=λx H Q=>∃i,x= .int i/\Q (g i) H
section
variable{a b:Expr}{tb tc:TE}
def O1(ha:PE X a ta)(hb:PE X b tb){H:Hp}{R:V->V->Hp->Prop}(I:Inv X ζ σ H s)
  (h:ta σ H λx H1=>tb σ H1 λy H2=>R x y H2)
  (hf:∀v u s2 x y H2,Inv X ζ σ H2 s2->aF x v->aF y u->R x y H2->wpAny (model X.prog X.w) X.A (f v u) Q X.xe s2):
  wpAny (model X.prog X.w) X.A (eval a X.env) (λv s₁=>wpAny (model X.prog X.w) X.A (eval b X.env) (λu s₂=>wpAny (model X.prog X.w) X.A (f v u) Q X.xe s₂) X.xe s₁) X.xe s:=by
 refine bH (ha ζ s σ H _ I h) λv s1 xz=>?_;have⟨x,H1,I1,r1,q1⟩:=xz;refine bH (hb ζ s1 σ H1 _ I1 q1) λu s2 xz=>?_;have⟨y,H2,I2,r2,q2⟩:=xz;exact hf v u s2 x y H2 I2 r1 r2 q2
def Vf{op:Operator}{r:R2}(ho:jS X (binaryOp op) r)(ha:PE X a ta)(hb:PE X b tb):PE X (.BinOp a op b pos) (SH r ta tb):=by intro ζ s σ H Q I h;exact wpAny_BinOp (O1 ha hb I h λv u s2 x y H2 I2 rx ry q=>ho ζ s2 σ H2 x y v u Q I2 rx ry q)
def TY{op:UnaryOp}{r:V->Hp->VK->Prop}(ho:VU X (unaryOp op) r)(ha:PE X a ta):PE X (.UnaryOp op a pos) (tUn r ta):=by intro ζ s σ H Q I h;exact UnaryOp_ (bH (ha ζ s σ H _ I h) λv s1 ⟨x,H1,I1,r1,q1⟩=>ho ζ s1 σ H1 x v Q I1 r1 q1)
def V7{C:Int->Int->Prop}{g:Int->Int->Int}
  (rule:∀(i j:Int) (t u:Tok) (s:Shared) (Q:Value->Shared->Prop) (E:Value->Shared->Prop),C i j->Q (.int (g i j) s.toks) {s with toks:=s.toks+1}->wpAny (model X.prog X.w) X.A (f (.int i t) (.int j u)) Q E s):
  jS X f (rI C λi j=>.int (g i j)):=by
 intro ζ s σ H x y v u Q I rx ry h;have⟨i,j,rfl,rfl,hc,q⟩:=h;have⟨t,rfl⟩:=rx;have⟨t',rfl⟩:=ry;exact rule i j t t' s _ _ hc ⟨.int (g i j),H,I.tok _,⟨_,rfl⟩,q⟩
def TJ{g:Int->Int->Int}
  (rule:∀(i j:Int) (t u:Tok) (s:Shared) (Q:Value->Shared->Prop) (E:Value->Shared->Prop),Q (.int (g i j) s.toks) {s with toks:=s.toks+1}->wpAny (model X.prog X.w) X.A (f (.int i t) (.int j u)) Q E s):
  jS X f (Hi λi j=>.int (g i j)):=by
 intro ζ s σ H x y v u Q I rx ry h;have⟨i,j,rfl,rfl,q⟩:=h;have⟨t,rfl⟩:=rx;have⟨t',rfl⟩:=ry;exact rule i j t t' s _ _ ⟨.int (g i j),H,I.tok _,⟨_,rfl⟩,q⟩
def Nt{g:Int->Int->Bool}
  (rule:∀(i j:Int) (t u:Tok) (s:Shared) (Q:Value->Shared->Prop) (E:Value->Shared->Prop),Q (.bool (g i j)) s->wpAny (model X.prog X.w) X.A (f (.int i t) (.int j u)) Q E s):
  jS X f (Hi λi j=>.bl (g i j)):=by
 intro ζ s σ H x y v u Q I rx ry h;have⟨i,j,rfl,rfl,q⟩:=h;have⟨t,rfl⟩:=rx;have⟨t',rfl⟩:=ry;exact rule i j t t' s _ _ ⟨.bl (g i j),H,I,rfl,q⟩
def Ad(i j:Int):Prop:=0<=j/\j<=1000000/\i.natAbs < 2 ^ 64
def O4:jS X (binaryOp .Add) (Hi λi j=>.int (i+j)):=TJ λ_ _ _ _ _ _ _ q=>add_int q
def Pq:jS X (binaryOp .Sub) (Hi λi j=>.int (i - j)):=TJ λ_ _ _ _ _ _ _ q=>sub_int q
def Qu:jS X (binaryOp .Mod) (rI (λ_ j=>0 < j) λi j=>.int (i % j)):=V7 λi j _ _ _ _ _ hc q=>by have h1:(0:Int) < j:=hc;exact mod_int' () (by rw[abS i ()];exact q)
def Pj:jS X (binaryOp .Pow) (rI Ad λi j=>.int (i ^ j.toNat)):=V7 λ_ _ _ _ _ _ _ hc q=>pow_int_small hc.1 hc.2.1 hc.2.2 q
def unI{f:Value->Sem Value}{g:Int->Int}
  (rule:∀(i:Int) (t:Tok) (s:Shared) (Q:Value->Shared->Prop) (E:Value->Shared->Prop),Q (.int (g i) s.toks) {s with toks:=s.toks+1}->wpAny (model X.prog X.w) X.A (f (.int i t)) Q E s):
  VU X f (rU λi=>.int (g i)):=by
 intro ζ s σ H x v Q I rx h;have⟨i,rfl,q⟩:=h;have⟨t,rfl⟩:=rx;exact rule i t s _ _ ⟨.int (g i),H,I.tok _,⟨_,rfl⟩,q⟩
def Pr:VU X (unaryOp .USub) (rU λi=>.int (-i)):=unI λ_ _ _ _ _ q=>neg_int q
end
def U_:V->V->Bool
 | .bF,.bF=>true| .bF,.int _=>true| .int _,.bF=>true| .bF,.bl _=>true| .bl _,.bF=>true| .bF,.str _=>true| .str _,.bF=>true
 | .int _,.int _=>true| .bl _,.bl _=>true| .str _,.str _=>true| .Hs _,.Hs _=>true
 | .int _,.str _=>true| .str _,.int _=>true| .bl _,.str _=>true| .str _,.bl _=>true
 | _,_=>false
def rEq:R2:=λx y H Q=>U_ x y=true/\Q (.bl (decide (x=y))) H
def rNe:R2:=λx y H Q=>U_ x y=true/\Q (.bl (!decide (x=y))) H
def Eh{i j:Int}:decide (V.int i=V.int j)=(i==j):=by rw[acw];simp
def K1{i j:Bool}:decide (V.bl i=V.bl j)=(i==j):=by rw[acw];simp
def D0{i j:Str}:decide (V.str i=V.str j)=(i==j):=by rw[acw];simp
def DV{i j:Array UInt8}:decide (V.Hs i=V.Hs j)=(i.toList==j.toList):=by rw[acw];cases i;cases j;simp
section
variable{a b:Expr}{tb tc:TE}
def aO{H:Hp}{Q:VK}{k k':Bool}(I:Inv X ζ σ H s)(q:Q (.bl k) H)(e:k=k'):EP X ζ σ Q (.bool k') s:=by subst e;exact⟨.bl k,H,I,rfl,q⟩
def Oc:jS X (compareOp .Eq) rEq:=by
 intro ζ s σ H x y v u Q I rx ry h;have⟨hs,q⟩:=h;cases x with
 | bF=>
  cases rx;cases y with
  | bF=>cases ry;exact PySem.EqNone.eq_none_none (aO I q (by simp))
  | bl j=>cases ry;exact PySem.EqNone.eq_none_bool (aO I q (by simp))
  | int j=>have⟨t',rfl⟩:=ry;exact PySem.EqNone.eq_none_int (aO I q (by simp))
  | str j=>have⟨t',rfl⟩:=ry;exact PySem.EqNone.eq_none_str (aO I q (by simp))
  | _=>exact aaJ (show false=true from hs) aaD
 | bl i=>
  cases rx;cases y with
  | bF=>cases ry;exact PySem.EqNone.eq_bool_none (aO I q (by simp))
  | bl j=>cases ry;exact eq_bool (aO I q K1)
  | str j=>have⟨t',rfl⟩:=ry;exact PySem.EqMixed.eq_bool_str (aO I q (by simp))
  | _=>exact aaJ (show false=true from hs) aaD
 | int i=>
  have⟨t,rfl⟩:=rx;cases y with
  | bF=>cases ry;exact PySem.EqNone.eq_int_none (aO I q (by simp))
  | int j=>have⟨t',rfl⟩:=ry;exact eq_int (aO I q Eh)
  | str j=>have⟨t',rfl⟩:=ry;exact PySem.EqMixed.eq_int_str (aO I q (by simp))
  | _=>exact aaJ (show false=true from hs) aaD
 | str i=>
  have⟨t,rfl⟩:=rx;cases y with
  | bF=>cases ry;exact PySem.EqNone.eq_str_none (aO I q (by simp))
  | bl j=>cases ry;exact PySem.EqMixed.eq_str_bool (aO I q (by simp))
  | int j=>have⟨t',rfl⟩:=ry;exact PySem.EqMixed.eq_str_int (aO I q (by simp))
  | str j=>have⟨t',rfl⟩:=ry;exact eq_str (aO I q D0)
  | _=>exact aaJ (show false=true from hs) aaD
 | Hs i=>
  have⟨t,rfl⟩:=rx;cases y with
  | Hs j=>have⟨t',rfl⟩:=ry;exact PySem.W.eq_bytes (aO I q DV)
  | _=>exact aaJ (show false=true from hs) aaD
 | _=>cases y <;> exact aaJ (show false=true from hs) aaD
def Tn:jS X (compareOp .NotEq) rNe:=by
 intro ζ s σ H x y v u Q I rx ry h;have⟨hs,q⟩:=h;cases x with
 | bF=>
  cases rx;cases y with
  | bF=>cases ry;exact PySem.EqNone.ne_none_none (aO I q (by simp))
  | bl j=>cases ry;exact PySem.EqNone.ne_none_bool (aO I q (by simp))
  | int j=>have⟨t',rfl⟩:=ry;exact PySem.EqNone.ne_none_int (aO I q (by simp))
  | str j=>have⟨t',rfl⟩:=ry;exact PySem.EqNone.ne_none_str (aO I q (by simp))
  | _=>exact aaJ (show false=true from hs) aaD
 | bl i=>
  cases rx;cases y with
  | bF=>cases ry;exact PySem.EqNone.ne_bool_none (aO I q (by simp))
  | bl j=>cases ry;exact ne_bool (aO I q (aaX not K1))
  | str j=>have⟨t',rfl⟩:=ry;exact PySem.EqMixed.ne_bool_str (aO I q (by simp))
  | _=>exact aaJ (show false=true from hs) aaD
 | int i=>
  have⟨t,rfl⟩:=rx;cases y with
  | bF=>cases ry;exact PySem.EqNone.ne_int_none (aO I q (by simp))
  | int j=>have⟨t',rfl⟩:=ry;exact ne_int (aO I q (aaX not Eh))
  | str j=>have⟨t',rfl⟩:=ry;exact PySem.EqMixed.ne_int_str (aO I q (by simp))
  | _=>exact aaJ (show false=true from hs) aaD
 | str i=>
  have⟨t,rfl⟩:=rx;cases y with
  | bF=>cases ry;exact PySem.EqNone.ne_str_none (aO I q (by simp))
  | bl j=>cases ry;exact PySem.EqMixed.ne_str_bool (aO I q (by simp))
  | int j=>have⟨t',rfl⟩:=ry;exact PySem.EqMixed.ne_str_int (aO I q (by simp))
  | str j=>have⟨t',rfl⟩:=ry;exact ne_str (aO I q (aaX not D0))
  | _=>exact aaJ (show false=true from hs) aaD
 | Hs i=>
  have⟨t,rfl⟩:=rx;cases y with
  | Hs j=>have⟨t',rfl⟩:=ry;exact PySem.W.ne_bytes (aO I q (aaX not DV))
  | _=>exact aaJ (show false=true from hs) aaD
 | _=>cases y <;> exact aaJ (show false=true from hs) aaD
def Ox:jS X (compareOp .Lt) (Hi λi j=>.bl (decide (i < j))):=Nt λ_ _ _ _ _ _ _ q=>lt_int q
def R3:jS X (compareOp .LtE) (Hi λi j=>.bl (decide (i<=j))):=Nt λ_ _ _ _ _ _ _ q=>le_int q
def Sh:jS X (compareOp .Gt) (Hi λi j=>.bl (decide (j < i))):=Nt λ_ _ _ _ _ _ _ q=>gt_int q
def UJ:jS X (compareOp .GtE) (Hi λi j=>.bl (decide (j<=i))):=Nt λ_ _ _ _ _ _ _ q=>ge_int q
def QC:jS X (compareOp .Is) (λx y H Q=>y= .bF/\Q (.bl (decide (x= .bF))) H):=by
 intro ζ s σ H x y v u Q I rx ry h;have⟨rfl,q⟩:=h;cases ry;refine is_none_gen (aO I q ?_)
 cases x <;> first
  | (cases rx;rfl)
  | (have⟨t,rfl⟩:=rx;rfl)
def jS.or{r r':R2}(h:jS X f r)(h':jS X f r'):jS X f (λx y H Q=>r x y H Q\/r' x y H Q):=by
 intro ζ s σ H x y v u Q I rx ry q;rcases q with q| q
 ·exact h ζ s σ H x y v u Q I rx ry q
 ·exact h' ζ s σ H x y v u Q I rx ry q
def jK(b:Expr)(h:op≠ .In:=by decide)(h2:op≠ .NotIn:=by decide):behindInMarks op b=false:=by
 have e1:(op==CmpOp.In)=false:=by cases op <;> first| rfl| exact aaJ rfl h
 have e2:(op==CmpOp.NotIn)=false:=by cases op <;> first| rfl| exact aaJ rfl h2
 cases b <;> simp[behindInMarks,e1,e2]
def Mf{r:R2}(ho:jS X (compareOp op) r)(ha:PE X a ta)(hb:PE X b tb)(hm:behindInMarks op b=false):PE X (.Compare a [op] [b] pos) (SH r ta tb):=by intro ζ s σ H Q I h;exact wpAny_Compare1 (O1 ha hb I h λv u s2 x y H2 I2 rx ry q=>ho ζ s2 σ H2 x y v u Q I2 rx ry q) hm
def Vl(t:TE):TT:=λσ H Q=>t σ H λx H'=>∃k,x= .bl k/\Q k H'
def Lw{r:R2}(ho:jS X (compareOp op) r)(ha:PE X a ta)(hb:PE X b tb)(hm:behindInMarks op b=false):PT X (.Compare a [op] [b] pos) (Vl (SH r ta tb)):=by
 intro ζ s σ H Q I h
 refine wpAny_isTrue_Compare1 (bH (ha ζ s σ H _ I h) fun v s1 ⟨x,H1,I1,r1,q1⟩=>bH (hb ζ s1 σ H1 _ I1 q1) fun u s2 ⟨y,H2,I2,r2,q2⟩=>
  bH (ho ζ s2 σ H2 x y v u _ I2 r1 r2 q2) fun c s3 ⟨z,H3,I3,r3,k,e,q3⟩=>?_) hm
 subst e;cases r3;exact wpAny_truthy_bool ⟨H3,I3,q3⟩
def pV:(sizeLine:Nat) < 2 ^ 63:=by rw[sizeLine_eq];decide
def C8:jS X (binaryOp .Add) (λx y H Q=>∃i j,x= .str i/\y= .str j/\i.length+j.length<=sizeLine/\Q (.str (i++j)) H):=by intro ζ s σ H x y v u Q I rx ry h;have⟨i,j,rfl,rfl,hz,q⟩:=h;have⟨t,rfl⟩:=rx;have⟨t',rfl⟩:=ry;exact add_str (λt' tk=>⟨.str (i++j),H,I.tok _,⟨_,rfl⟩,q⟩) hz
def lu{x:V}(r:aC [x] us):∃u,us=[u]/\aF x u:=by
 cases r with
 | cons r1 r2=>cases r2;exact⟨_,rfl,r1⟩
def ON{x y:V}(r:aC [x,y] us):∃u w',us=[u,w']/\aF x u/\aF y w':=by
 cases r with
 | cons r1 r2=>
  cases r2 with
  | cons r3 r4=>cases r4;exact⟨_,_,rfl,r1,r3⟩
def Ia:dI X (.builtin "abs") (λxs H Q=>∃i,xs=[.int i]/\Q (.int (if i < 0 then -i else i)) H):=by intro ζ s σ H xs us Q I r h;have⟨i,rfl,q⟩:=h;have⟨u,rfl,t,rfl⟩:=lu r;exact call_abs_int λu tk=>⟨.int (if i < 0 then -i else i),H,I.tok _,⟨_,rfl⟩,q⟩
def Fw(hc:X.calm=true):dI X (.builtin "min") (λxs H Q=>∃i j,xs=[.int i,.int j]/\Q (.int (if j < i then j else i)) H):=by
 intro ζ s σ H xs us Q I r h;have⟨i,j,rfl,q⟩:=h;have⟨u,w',rfl,⟨t,rfl⟩,⟨t',rfl⟩⟩:=ON r;refine min_two_ints (I.ok.hd hc) λh' tk k=>⟨_,H,I.kept k,?_,q⟩;by_cases hj:j < i
 ·rw[aaw hj,aaw hj];exact⟨_,rfl⟩
 ·rw[aav hj,aav hj];exact⟨_,rfl⟩
def GR:dI X (.type "int") (λxs H Q=>(∃i,xs=[.int i]/\Q (.int i) H)\/∃k,xs=[.bl k]/\Q (.int (if k then 1 else 0)) H):=by
 intro ζ s σ H xs us Q I r h;rcases h with ⟨i,rfl,q⟩| ⟨k,rfl,q⟩
 ·have⟨u,rfl,t,rfl⟩:=lu r;exact call_int_int ⟨.int i,H,I,⟨_,rfl⟩,q⟩
 ·have⟨u,rfl,r1⟩:=lu r;cases r1;exact call_int_bool ⟨.int (if k then 1 else 0),H,I.tok _,⟨_,rfl⟩,q⟩
end
structure C3(h:Heap)(x dx C:Addr)(mA:Str->Option Value):Prop where
 obj:h.get? x=some (PySem.W.instObj C dx)
 ns:h.Ns1 dx mA
 ne:dx≠x
def GU(n:h.Ns1 dx mA):∃od,h.get? dx=some od/\∀name,PySem.W.lookIn name od=some (mA name):=by
 have⟨o,es,ep,ho,hd,hk,_,hm⟩:=n;refine⟨o,ho,λname=>?_⟩;have e:=hm name;unfold nsFind findBy at e;rw[<-Array.find?_toList]at e;unfold PySem.W.lookIn;rw[hd];dsimp only;split
 ·rename_i y q;rw[q]at e;exact aaX some e
 ·rename_i q;rw[q]at e;have a:es.toList.any (·.refKey)=false:=by rw[List.any_eq_false];intro y hy;have⟨z,t,Wx⟩:=hk y (Array.mem_toList_iff.mp hy);simp[DictEntry.refKey,Wx]
  have a':¬es.toList.any (·.refKey)=true:=by rw[a];exact aaD
  rw[aav a'];exact aaX some e
def C3.look{x:Addr}(I:C3 h x dx C mA):∃od,PySem.W.InstAt h x (PySem.W.instObj C dx) C (some od)/\∀name,PySem.W.lookIn name od=some (mA name):=
 let ⟨od,ho,hl⟩:=GU I.ns
 ⟨od,⟨I.obj,rfl,rfl,ho⟩,hl⟩
section
variable{K:fI}{x f:Addr}{name:Str}{v:Value}
def rB{expr:Bool}(X:K.In s.heap)(I:C3 s.heap x dx C mA)(hg:PySem.W.plainGet K C name=true)(hh:PySem.W.hasDictIn K C=true)
  (ha:PySem.W.findIn K (.ref C) name=some none) (hv:mA name=some v) (hv':PySem.W.handedIn v=true) (h:Q v {s with toks:=s.toks+1}):
  wpAny (model prog w) A (getAttr (.ref x) name expr) Q E s:=by
 have⟨od,J,hl⟩:=I.look;exact PySem.W.get_value X J (PySem.W.plainGet_of hg).1 (PySem.W.findObj_own hh ha rfl (by rw[hl,hv])) hv' h
def KA{pl:Sem Bool}{Q:Value×List Value->Shared->Prop}(X:K.In s.heap)(I:C3 s.heap x dx C mA)(hg:PySem.W.plainGet K C name=true)
  (hf:PySem.W.findIn K (.ref C) name=some (some (.ref f))) (ht:PySem.W.isFn K (.ref f)=true) (hv:mA name=none) (h:Q (.ref f,[.ref x]) s):
  wpAny (model prog w) A (getMethod (.ref x) name pl) Q E s:=by
 have⟨od,J,hl⟩:=I.look;exact PySem.W.method_fn X J (PySem.W.plainGet_of hg).1 (PySem.W.plainGet_of hg).2 hf (abw.mp ht) (by show(PySem.W.lookIn name od).map (·.isSome)=some false;rw[hl,hv];rfl) h
def NI{ns:List Str}{Q:Unit->Shared->Prop}(X:K.In s.heap)(I:C3 s.heap x dx C mA)
  (hs:PySem.W.findIn K (.ref C) "__setattr__"=some (some (.builtin "object.__setattr__"))) (hp:PySem.W.plainOver K C=true) (ht:PySem.W.takerIn K C name=some none) (hh:PySem.W.hasDictIn K C=true)
  (hw:PySem.Within mA ns) (hsz:ns.length<=sizeLine)
  (h:∀h',C3 h' x dx C (λy=>if y=name then some v else mA y)->Heap.SameBut dx s.heap h'->Q Unit.unit {s with heap:=h',toks:=s.toks+2}):
  wpAny (model prog w) A (setAttr (.ref x) name v) Q E s:=by
 have⟨od,J,hl⟩:=I.look;refine PySem.W.set_plain X J hs (PySem.W.osa_open (s:={s with toks:=s.toks+1}) (r:=none) X J hp ht λb=>?_);have⟨cd,hc,MV⟩:=PySem.W.any_some hh;have hx:s.heap.get? x=some ⟨.ref C,some dx,.plain,#[]⟩:=I.obj;refine aaH (aba (aaH (aaH (wpAny_loadPart hx (aaH (PySem.W.Looks.here (s:={s with toks:=s.toks+1}) (PySem.W.looks_clsIn X hc) ?_))))));rw[MV];refine aba (a:=some dx) (aaH (aba (aaH ?_)));refine wpAny_nsSet1 (s:={s with toks:=s.toks+1}) I.ns λh' VD Pu=>?_;have⟨oD,esD,epD,hoD,hdD,hcD⟩:=VD.count (PySem.Within.cons name v hw);refine aaH (wpAny_lookBehind hoD (by rw[hdD];exact pastItsLine_dict (aas hcD (by rw[aay];omega))) ?_);exact aba (h _ ⟨(Pu.2 _ (Ne.symm I.ne)).trans I.obj,VD,I.ne⟩ Pu)
def J7{R:Result->Shared->Prop}{vs:List Value}(X:K.In s.heap)(hm:PySem.W.makesIn K C=true)
  (hi:PySem.W.findIn K (.ref C) "__init__"=some (some (.ref f))) (hf:PySem.W.typeIn K (.ref f)=some (.type "function"))
  (h:codeAny (model prog w) (A.under (.builtin "type.__call__" ⟨.ref C::vs,kw⟩)) (.call (.ref f) ⟨.ref (s.heap.objs.size+1)::vs,kw⟩) (PySem.W.InitBack (s.heap.objs.size+1) R)
   {s with heap:=(s.heap.push PySem.W.emptyDict).push (PySem.W.instObj C s.heap.objs.size)}):
  codeAny (model prog w) A (.call (.ref C) ⟨vs,kw⟩) R s:=by
 have⟨hh,g,d,t,os⟩:=s;exact PySem.W.make_core (PySem.W.makes_of X hm) (PySem.W.looks_findIn X hi) (λself=>PySem.W.bind_fn X self hf) (.inl rfl) h
end
def jY(f:Str)(v:V):List (Str×V)->List (Str×V)
 | []=>[(f,v)]
 | (g,x)::r=>if g=f then (g,v)::r else (g,x)::jY f v r
def qo(f g:Str)(v:V):∀fs:List (Str×V),(jY f v fs).lookup g=if g=f then some v else fs.lookup g
 | []=>by
  show List.lookup g [(f,v)]=_;by_cases h:g=f
  ·have hb:(g==f)=true:=abw.mpr h;simp only[List.lookup,hb,if_pos h]
  ·have hb:(g==f)=false:=beq_eq_false_iff_ne.mpr h;simp only[List.lookup,hb,if_neg h]
 | (k,x)::r=>by
  have ih:=qo f g v r;rw[show jY f v ((k,x)::r)=(if k=f then (k,v)::r else (k,x)::jY f v r) from rfl];by_cases hk:k=f
  ·rw[aaw hk];by_cases h:g=k
   ·have hb:(g==k)=true:=abw.mpr h;simp only[List.lookup,hb,if_pos (h.trans hk)]
   ·have hb:(g==k)=false:=beq_eq_false_iff_ne.mpr h;simp only[List.lookup,hb,if_neg (λe:g=f=>h (e.trans hk.symm))]
  ·rw[aav hk];by_cases h:g=k
   ·have hb:(g==k)=true:=abw.mpr h;simp only[List.lookup,hb,if_neg (λe:g=f=>hk (h.symm.trans e))]
   ·have hb:(g==k)=false:=beq_eq_false_iff_ne.mpr h;simp only[List.lookup,hb];exact ih
def pM(f:Str)(v:V):∀fs:List (Str×V),f∈(jY f v fs).map (·.1)/\∀g,g∈fs.map (·.1)->g∈(jY f v fs).map (·.1)
 | []=>⟨by simp[jY],λg h=>by simp at h⟩
 | (k,x)::r=>by
  have⟨i1,i2⟩:=pM f v r;rw[show jY f v ((k,x)::r)=(if k=f then (k,v)::r else (k,x)::jY f v r) from rfl];by_cases hk:k=f
  ·rw[aaw hk];subst hk;exact⟨by simp,λg h=>by simpa using h⟩
  ·rw[aav hk];refine⟨?_,λg h=>?_⟩
   ·rw[aaM];exact aad _ i1
   ·rw[aaM]at h⊢;rcases aaC.mp h with e| e
    ·exact aaC.mpr (.inl e)
    ·exact aad _ (i2 g e)
def qt(f:Str)(v:V):∀fs:List (Str×V),(jY f v fs).length<=fs.length+1
 | []=>by simp[jY]
 | (k,x)::r=>by
  have ih:=qt f v r;rw[show jY f v ((k,x)::r)=(if k=f then (k,v)::r else (k,x)::jY f v r) from rfl];by_cases hk:k=f
  ·rw[aaw hk,aay,aay];omega
  ·rw[aav hk,aay,aay];omega
def kI.some_of{o:Option Value}(r:kI (some v) o):∃u,o=some u/\aF v u:=by
 cases o with
 | none=>exact(show False from r).elim
 | some u=>exact⟨u,rfl,r⟩
def kI.none_of{o:Option Value}(r:kI none o):o=none:=by
 cases o with
 | none=>rfl
 | some u=>exact(show False from r).elim
def FD(r:aF v u):PySem.W.handedIn u=true:=by
 cases v with
 | bF=>cases(show u=Value.none from r);rfl
 | bl b=>cases(show u=Value.bool b from r);rfl
 | int i=>have⟨t,e⟩:=(show∃t,u=Value.int i t from r);cases e;rfl
 | str x=>have⟨t,e⟩:=(show∃t,u=Value.str x t from r);cases e;rfl
 | Hs b=>have⟨t,e⟩:=(show∃t,u=Value.bytes b t from r);cases e;rfl
 | Ru b=>have⟨t,e⟩:=(show∃t,u=Value.float b t from r);cases e;rfl
 | ref a=>cases(show u=Value.ref a from r);rfl
 | ty n=>cases(show u=Value.type n from r);rfl
section
variable{H H':Hp}{fs ZG:List (Str×V)}
def rj(bb:lR P w H h)(e:H a=some (.ins C dx fs)):∃mA,C3 h a dx C mA/\(∀f,kI (fs.lookup f) (mA f))/\PySem.Within mA (fs.map (·.1))/\fs.length<=1000/\H dx=some (.own a):=by have⟨d,z,ne,ob,mA,n,r,q⟩:=(show b8 P w H h a (.ins C dx fs) from bb a _ e);exact⟨mA,⟨ob,n,ne⟩,r,q,z,d⟩
end
structure Eg(K:fI)(C:Addr):Prop where
 pg:PySem.W.plainGet K C Str.empty=true
 hd:PySem.W.hasDictIn K C=true
 po:PySem.W.plainOver K C=true
 sa:PySem.W.findIn K (.ref C) "__setattr__"=some (some (.builtin "object.__setattr__"))
def Eg.get{K:fI}{C:Addr}(c:Eg K C)(f:Str):PySem.W.plainGet K C f=true:=c.pg
def iH(K:fI)(C:Addr)(f:Str):Prop:=PySem.W.findIn K (.ref C) f=some none
def iH.Tg{K:fI}{f:Str}(n:iH K C f):PySem.W.takerIn K C f=some none:=by unfold PySem.W.takerIn;rw[show PySem.W.findIn K (.ref C) f=some none from n];rfl
structure NS(K:fI)(C:Addr)(m:Str)(f:Addr):Prop where
 at_:PySem.W.findIn K (.ref C) m=some (some (.ref f))
 fn:PySem.W.isFn K (.ref f)=true
 kp:PySem.W.keepIn K (.ref f)=true
section
variable{H:Hp}{fs:List (Str×V)}{f:Str}
def B4{b:Bool}(I:Inv X ζ σ H s)(e:H a=some (.ins C dx fs))(c:Eg X.K C)(n:iH X.K C f)(l:fs.lookup f=some v)
  (h:∀u s',Inv X ζ σ H s'->aF v u->Q u s'):wpAny (model X.prog X.w) A (getAttr (.ref a) f b) Q E s:=by
 have⟨mA,O,r,_,_,_⟩:=rj I.bb e;have⟨u,hu,ru⟩:=kI.some_of (v:=v) (o:=mA f) (by rw[<-l];exact r f);exact rB I.qy O (c.get f) c.hd n hu (FD ru) (h u _ (I.tok _) ru)
def sM{m:Str}{g:Addr}{pl:Sem Bool}{Q:Value×List Value->Shared->Prop}(I:Inv X ζ σ H s)(e:H a=some (.ins C dx fs))(c:Eg X.K C)(k:NS X.K C m g)(l:fs.lookup m=none)
  (h:Q (.ref g,[.ref a]) s):wpAny (model X.prog X.w) A (getMethod (.ref a) m pl) Q E s:=by
 have⟨mA,O,r,_,_,_⟩:=rj I.bb e;have hn:mA m=none:=kI.none_of (by rw[<-l];exact r m);exact KA I.qy O (c.get m) k.at_ k.fn hn h
def Ct{y:V}{Q:Unit->Shared->Prop}(I:Inv X ζ σ H s)(e:H a=some (.ins C dx fs))(c:Eg X.K C)(n:iH X.K C f)(hl:fs.length < 1000)(ry:aF y u)
  (h:∀s',Inv X ζ σ (upd H a (.ins C dx (jY f y fs))) s'->Q Unit.unit s'):wpAny (model X.prog X.w) A (setAttr (.ref a) f u) Q E s:=by
 have⟨mA,O,r,wi,_,ho⟩:=rj I.bb e;have hz:(fs.map (·.1)).length<=sizeLine:=by rw[aac,sizeLine_eq];omega
 refine NI I.qy O c.sa c.po n.Tg c.hd wi hz λh' O' sb=>h _ ?_;have hd:∃o,h'.get? dx=some o:=let ⟨o,_,_,e',_⟩:=O'.ns;⟨o,e'⟩
 refine I.write (x:=a) (e:=dx) (by rw[e];exact True.intro) (.inr ho) (λb q hb z=>(sb.2 b hb).trans z) hd ?_;refine⟨by rw[Θ O.ne];exact ho,?_,O.ne,O'.obj,_,O'.ns,λg=>?_,λg hg=>?_⟩
 ·have:=qt f y fs;omega
 ·show kI ((jY f y fs).lookup g) (if g=f then some u else mA g);rw[qo];by_cases q:g=f
  ·rw[aaw q,aaw q];exact ry
  ·rw[aav q,aav q];exact r g
 ·by_cases q:g=f
  ·rw[q];exact(pM f y fs).1
  ·refine(pM f y fs).2 g (wi g λz=>hg ?_);show(if g=f then some u else mA g)=none;rw[aav q];exact z
def Inv.made(I:Inv X ζ σ H s):Inv X ζ σ (upd (upd H s.heap.objs.size (.own (s.heap.objs.size+1))) (s.heap.objs.size+1) (.ins C s.heap.objs.size []))
  {s with heap:=(s.heap.push PySem.W.emptyDict).push (PySem.W.instObj C s.heap.objs.size)}:=by
 have e1:(s.heap.push PySem.W.emptyDict).get? s.heap.objs.size=some PySem.W.emptyDict:=aaS s.heap rfl;have e2:((s.heap.push PySem.W.emptyDict).push (PySem.W.instObj C s.heap.objs.size)).get? (s.heap.objs.size+1)=some (PySem.W.instObj C s.heap.objs.size):=by have:=aaS (s.heap.push PySem.W.emptyDict) (o:=PySem.W.instObj C s.heap.objs.size) rfl;rwa[Heap.size_push]at this
 have e3:(s.heap.push PySem.W.emptyDict).Ns s.heap.objs.size (λ_=>none):=⟨PySem.W.emptyDict,#[],_,e1,rfl,(λe he=>absurd he (by simp)),λ_=>rfl⟩;have I1:=I.laid (a:=s.heap.objs.size) (o:=.own (s.heap.objs.size+1)) (h':=s.heap.push PySem.W.emptyDict) (t':=s.toks) (λb u q=>aak _ q) (aai _) ⟨_,e1⟩;refine I1.laid (a:=s.heap.objs.size+1) (o:=.ins C s.heap.objs.size []) (t':=s.toks) (λb u q=>aak _ q) (Nat.le_of_eq (Heap.size_push _ _)) ?_;have ne:s.heap.objs.size≠s.heap.objs.size+1:=aaY (abv _);refine⟨by rw[Θ ne,af],ab9 _,ne,e2,λ_=>none,(Heap.Ns1.of_empty e3).at λo q=>aak _ q,λ_=>True.intro,λy hy=>aaJ rfl hy⟩
def Na{env:Env}{f:Str}(hb:attributeBase e f env (eval e env)=eval e env)
  (h:wpAny (model prog w) A (eval e env) (λo s₁=>wpAny (model prog w) A (getAttr o f true) Q E s₁) E s):wpAny (model prog w) A (eval (.Attribute e f pos) env) Q E s:=
 Attribute_any_ h (by rw[arm_eval_Attribute,hb])
end
def V_(K:fI)(ta:TE)(f:Str):TE:=λσ H Q=>ta σ H λx H1=>∃a C dx fs v,x= .ref a/\H1 a=some (.ins C dx fs)/\Eg K C/\iH K C f/\fs.lookup f=some v/\Q v H1
def YS(K:fI)(ta tv:TE)(f:Str):TS:=λD σ H=>tv σ H λy H1=>ta σ H1 λx H2=>∃a C dx fs,x= .ref a/\H2 a=some (.ins C dx fs)/\Eg K C/\iH K C f/\fs.length < 1000/\
 D.nx σ (upd H2 a (.ins C dx (jY f y fs)))
section
variable{o value:Expr}{f:Str}{pos' uI:Pos}{tv:TE}
def Rb(he:PE X e ta)(hb:attributeBase e f X.env (eval e X.env)=eval e X.env):PE X (.Attribute e f pos) (V_ X.K ta f):=by intro ζ s σ H Q I h;refine Na hb (bH (he ζ s σ H _ I h) λu s1 xz=>?_);have⟨x,H1,I1,rx,a,C,dx,fs,v,ex,ea,c,n,l,q⟩:=xz;subst ex;obtain rfl:u=Value.ref a:=rx;exact B4 I1 ea c n l λu' s2 I2 ru=>⟨v,H1,I2,ru,q⟩
def QB(ha:PE X o ta)(hv:PE X value tv)(hs:swapsWith value (some (.Attribute o f pos')) pos.line X.env=pure false):PS X (.Assign [.Attribute o f pos'] value pos) (YS X.K ta tv f):=by intro ζ s σ H D I h;refine plainObj_wpAny_Assign_Attribute (bH (hv ζ s σ H _ I h) fun u s1 ⟨y,H1,I1,ry,q⟩=>bH (ha ζ s1 σ H1 _ I1 q) λov s2 xz=>?_) hs;have⟨x,H2,I2,rx,a,C,dx,fs,ex,ea,c,n,l,q2⟩:=xz;subst ex;obtain rfl:ov=Value.ref a:=rx;exact Ct I2 ea c n l ry λs3 I3=>⟨σ,_,I3,q2⟩
end
section
variable{H:Hp}{c:Value}{b:Bool}
inductive lP(K:fI)(H:Hp):V->Value->Prop where
 | bF:lP K H .bF (.type "NoneType")
 | bl (x:Bool):lP K H (.bl x) (.type "bool")
 | int (i:Int):lP K H (.int i) (.type "int")
 | str (x:Str):lP K H (.str x) (.type "str")
 | Ru (x:UInt64):lP K H (.Ru x) (.type "float")
 | lst {a:Addr} {xs:List V} (e:H a=some (.lst xs)):lP K H (.ref a) (.type "list")
 | yS {a:Addr} {o:Obj} {xs:List V} (e:H a=some (.yS o (.lst xs))):lP K H (.ref a) (.type "list")
 | tup {a:Addr} {xs:List V} (e:H a=some (.tup xs)):lP K H (.ref a) (.type "tuple")
 | dK {a:Addr} {Ν:List (Key×V)} (e:H a=some (.dK Ν)):lP K H (.ref a) (.type "dict")
 | dT {a:Addr} {Ν:List (List Key×V)} (e:H a=some (.dT Ν)):lP K H (.ref a) (.type "dict")
 | ins {a C dx:Addr} {fs:List (Str×V)} (e:H a=some (.ins C dx fs)) (cl:Eg K C) (ha:PySem.W.findIn K (.ref C) "__class__"=some (some (.builtin "object.__class__")))
   (hn:PySem.W.specialIn K (.builtin "object.__class__") "__get__"=some (some (.builtin "getset_descriptor.__get__"))) (htk:PySem.W.takesIn K (.builtin "object.__class__")=some true)
   (hm:PySem.W.mroIn K C (.type "object")=some true):lP K H (.ref a) (.ref C)
def Fj{x:V}{t:Value}(I:Inv X ζ σ H s)(rx:aF x u)(ty:lP X.K H x t)(e:PySem.W.kitOne X.K t c=some b)(h:∀tk,Q (.bool b) {s with toks:=tk}):
  wpAny (model X.prog X.w) A (call (.builtin "isinstance") [u,c]) Q E s:=by
 cases ty with
 | bF=>cases(show u=Value.none from rx);exact PySem.W.kia_one PySem.W.kitx_none I.qy True.intro e (λz=>nomatch z) h
 | bl y=>cases(show u=Value.bool y from rx);exact PySem.W.kia_one PySem.W.kitx_bool I.qy True.intro e (λz=>nomatch z) h
 | int i=>have⟨t,q⟩:=(show∃t,u=Value.int i t from rx);cases q;exact PySem.W.kia_one PySem.W.kitx_int I.qy True.intro e (λz=>nomatch z) h
 | str y=>have⟨t,q⟩:=(show∃t,u=Value.str y t from rx);cases q;exact PySem.W.kia_one PySem.W.kitx_str I.qy True.intro e (λz=>nomatch z) h
 | Ru y=>have⟨t,q⟩:=(show∃t,u=Value.float y t from rx);cases q;exact PySem.W.kia_one PySem.W.kitx_float I.qy True.intro e (λz=>nomatch z) h
 | @lst a xs ea=>
  cases(show u=Value.ref a from rx);have⟨_,_,n,_,h1⟩:=(show b8 X.prog X.w H s.heap a (.lst xs) from I.bb a _ ea);exact PySem.W.kia_one PySem.W.kitx_list I.qy ⟨_,h1,rfl⟩ e (λz=>nomatch z) h
 | @yS a ob xs ea=>
  cases(show u=Value.ref a from rx);have⟨_,_,_,n,_,h1⟩:=(show b8 X.prog X.w H s.heap a (.yS ob (.lst xs)) from I.bb a _ ea);exact PySem.W.kia_one PySem.W.kitx_list I.qy ⟨_,h1,rfl⟩ e (λz=>nomatch z) h
 | @tup a xs ea=>
  cases(show u=Value.ref a from rx);have⟨_,_,_,p⟩:=(show b8 X.prog X.w H s.heap a (.tup xs) from I.bb a _ ea);have⟨o,h1,h2,_⟩:=p;exact PySem.W.kia_one PySem.W.kitx_tuple I.qy ⟨o,h1,h2⟩ e (λz=>nomatch z) h
 | @dK a Ν ea=>
  cases(show u=Value.ref a from rx);have⟨_,_,vs,_,p⟩:=(show b8 X.prog X.w H s.heap a (.dK Ν) from I.bb a _ ea);have⟨o,es,ep,h1,h2,_⟩:=p;exact PySem.W.kia_one PySem.W.kitx_dict I.qy ⟨o,h1,h2.1⟩ e (λz=>nomatch z) h
 | @dT a Ν ea=>
  cases(show u=Value.ref a from rx);have⟨_,_,xs,_,o,es,ep,h1,h2,_⟩:=(show b8 X.prog X.w H s.heap a (.dT Ν) from I.bb a _ ea);exact PySem.W.kia_one PySem.W.kitx_dict I.qy ⟨o,h1,h2.1⟩ e (λz=>nomatch z) h
 | @ins a C dx fs ea cl ha hn htk hm=>
  cases(show u=Value.ref a from rx);have⟨mA,O,_⟩:=rj I.bb ea;have⟨od,J,_⟩:=O.look;exact PySem.W.kia_one (PySem.W.kitx_own (cl.get _) cl.hd ha hn htk hm) I.qy J e (λz=>nomatch z) h
end
structure bT(k:Nat)(A:Around):Prop where
 hd:A.handled=none
 dp:A.depth+3 * k+5 < recursionLimit
 un:A.units+16 * k+200 < cLine
def bT.mono{j k:Nat}(r:bT k A)(h:j<=k):bT j A:=⟨r.hd,by have:=r.dp;omega,by have:=r.un;omega⟩
def bT.deeper{k:Nat}(r:bT (k+1) A)(env:Env):bT k (A.deeper env):=
 ⟨r.hd,by have:=r.dp;show A.depth+1+3 * k+5 < _;omega,by have:=r.un;show A.units+3+16 * k+200 < _;omega⟩
def BP:(A.under (.builtin "type.__call__" ⟨.ref C::us,kw⟩)).depth=A.depth+1:=by
 first| rfl| simp[Around.under,Code.weight,Code.isCreation,Code.isGuard,Code.isCaller,Code.frames,Code.isFrame,guardIds]
def CG:(A.under (.builtin "type.__call__" ⟨.ref C::us,kw⟩)).units=A.units+1:=by
 first| rfl| simp[Around.under,Code.cUnits,Code.frames,Code.isFrame]
def bT.make{k:Nat}(r:bT (k+1) A)(C:Addr)(us:List Value)(kw:List (Str×Value)):bT k (A.under (.builtin "type.__call__" ⟨.ref C::us,kw⟩)):=
 ⟨r.hd,by have:=r.dp;rw[BP];omega,by have:=r.un;rw[CG];omega⟩
def bT.depth{k:Nat}(r:bT k A):A.depth < recursionLimit:=by have:=r.dp;omega
def bT.units{k:Nat}(r:bT k A):A.units+64 < cLine:=by have:=r.un;omega
def bT.CN{k:Nat}(r:bT k A):A.units < cLine:=by have:=r.un;omega
def US:TA:=λ_ H Q=>Q [] H
def UD(ta:TE)(tr:TA):TA:=λσ H Q=>ta σ H λx H1=>tr σ H1 λxs H2=>Q (x::xs) H2
section
variable{t:TA}
def QG:PA X [] US:=λ_ _ _ _ H Q I h=>Calls.spliced_nil ⟨[],H,I,.nil,h⟩
def Mv(ha:PE X e te)(hr:PA X es t)(hs:starEach (e::es) X.env=(false,eval e X.env)::starEach es X.env:=by rfl):PA X (e::es) (UD te t):=by intro pos ζ s σ H Q I h;rw[hs];show wpAny _ _ (spliced ((false,eval e X.env)::backTo pos (starEach es X.env))) _ _ s;refine Calls.spliced_cons (bH (ha ζ s σ H _ I h) λu s1 xz=>?_);have⟨x,H1,I1,r1,q1⟩:=xz;exact bH (hr pos ζ s1 σ H1 _ I1 q1) λus s2 ⟨xs,H2,I2,r2,q2⟩=>⟨x::xs,H2,I2,.cons r1 r2,q2⟩
def XS(t:TA):TE:=λσ H Q=>t σ H λxs H1=>xs.length<=sizeLine/\∀p,H1 p=none->Q (.ref p) (upd H1 p (.tup xs))
def WE(t:TA):TE:=λσ H Q=>t σ H λxs H1=>xs.length<=sizeLine/\∀p,H1 p=none->Q (.ref p) (upd H1 p (.lst xs))
def QI{x1}(h:PA X es t):PE X (.Tuple es x1 pos) (XS t):=by intro ζ s σ H Q I hq;refine wpAny_Tuple_spliced (bH (h pos ζ s σ H _ I hq) fun us s1 ⟨xs,H1,I1,r,z,q⟩=>⟨by rw[<-r.length];exact z,?_⟩);have hf:H1 s1.heap.objs.size=none:=I1.bb.fresh (aai _);refine⟨.ref s1.heap.objs.size,upd H1 s1.heap.objs.size (.tup xs),I1.laid (t':=s1.toks) (λb u e=>aak _ e) (aai _) ?_,rfl,q _ hf⟩;exact⟨z,us,r,⟨_,aaS _ rfl,rfl,_,rfl⟩⟩
def Ka(h:PA X es t):PE X (.List es pos) (WE t):=by intro ζ s σ H Q I hq;refine wpAny_List_spliced (bH (h pos ζ s σ H _ I hq) fun us s1 ⟨xs,H1,I1,r,z,q⟩=>⟨by rw[<-r.length];exact z,?_⟩);have hf:H1 s1.heap.objs.size=none:=I1.bb.fresh (aai _);refine⟨.ref s1.heap.objs.size,upd H1 s1.heap.objs.size (.lst xs),I1.laid (t':=s1.toks) (λb u e=>aak _ e) (aai _) ?_,rfl,q _ hf⟩;exact⟨z,us,0,r,aaS _ rfl⟩
end
abbrev Sp:=List V->Hp->VK->XK->Prop
abbrev Bf:=List Env->Hp->Shared->XK->Value->Shared->Prop
structure Ci(P:Program)(w:World)(K:fI)(mg:Str->Option Value)(base:Heap)(A:Around)(outer:List Env)(s:Shared)(H:Hp):Prop where
 frames:A.frames=some outer
 mod:Mod K mg base
 bs:∀b o,base.get? b=some o->s.heap.get? b=some o/\H b=none
 pX:base.objs.size<=s.heap.objs.size
 vc:s.heap.FunFrames base outer
 UA:∀b∈qF outer,H b=none
 bb:lR P w H s.heap
 bare:AllBare s.gens
def CE(outer:List Env)(P:Program)(w:World)(H:Hp)(s:Shared)(Q:VK)(u:Value)(s':Shared):Prop:=
 ∃v H',s'.os=s.os/\AllBare s'.gens/\Un (qF outer) [] H H' s.heap s'.heap/\lR P w H' s'.heap/\aF v u/\Q v H'
def CR(CX:Bf)(outer:List Env)(P:Program)(w:World)(H:Hp)(s:Shared)(Q:VK)(E:XK)(r:Result)(s':Shared):Prop:=
 match r with
 | .ok (.ret u)=>CE outer P w H s Q u s'
 | .ok _=>False
 | .error e=>CX outer H s E e s'
structure av(P:Program)(w:World)(K:fI)(mg:Str->Option Value)(base:Heap)(CX:Bf)(k:Nat)(f:Addr)(fd:FuncData)(ps:List Str)(sp:Sp):Prop where
 len:∀vs H Q E,sp vs H Q E->vs.length=ps.length
 run:∀(A:Around) (outer:List Env) (s:Shared) (H:Hp) (args:Args) (us:List Value) (vs:List V) (Q:VK) (E:XK),bT k A->Ci P w K mg base A outer s H->BindsTo s fd args (ps.zip us)->aC vs us->sp vs H Q E->
  codeAny (model P w) A (.call (.ref f) args) (CR CX outer P w H s Q E) s
def Ci.make{K:fI}{H:Hp}(e:Ci P w K mg base A outer s H)(C:Addr)(us:List Value)(kw:List (Str×Value)):
  Ci P w K mg base (A.under (.builtin "type.__call__" ⟨.ref C::us,kw⟩)) outer s H:=⟨by first| exact e.frames| (simpa [Around.under,Code.envs,Code.isFrame,pushEnvs] using e.frames),e.mod,e.bs,e.pX,e.vc,e.UA,e.bb,e.bare⟩
section
variable{H:Hp}{s':Shared}
def Inv.S'(I:Inv X ζ σ H s):Ci X.prog X.w X.K X.mg X.base X.A X.stack s H:=
 ⟨I.ok.frames,I.ok.mod,I.bs,aas I.ok.pX I.sz,I.stack,I.xI,I.bb,I.bare⟩
def Inv.after{Q:VK}(I:Inv X ζ σ H s)(h:CE X.stack X.prog X.w H s Q u s'):EP X ζ σ Q u s':=by have⟨v,H',os,bare,un,bb,r,q⟩:=h;have⟨hh,g,d,t,VZ⟩:=s';obtain rfl:VZ=s.os:=os;exact⟨v,H',I.call (h':=hh) (g':=g) (d':=d) (t':=t) (ch:=[]) un bb bare (λb z=>absurd z (by simp)),r,q⟩
end
def iq(K:fI)(fd:FuncData)(ps:List Str)(ds:List Value):Prop:=
 ∀(s:Shared) (us:List Value),K.In s.heap->(us++ds).length=ps.length->BindsTo s fd ⟨us,[]⟩ (ps.zip (us++ds))
def iq.all{K:fI}{fd:FuncData}(h:∀us:List Value,us.length=ps.length->bindArgs fd ⟨us,[]⟩=pure (ps.zip us)):iq K fd ps []:=λs us _ hl=>by rw[aa1]at hl⊢;exact .of_eq (h us hl)
section
variable{CX:Bf}{k:Nat}{f:Addr}{fd:FuncData}{sp:Sp}{oy:List V}{ds:List Value}{E:XK}{m:Str}{p apos:Pos}{o:Expr}{t:TA}
structure Mk(K:fI)(C f:Addr):Prop where
 makes:PySem.W.makesIn K C=true
 init:PySem.W.findIn K (.ref C) "__init__"=some (some (.ref f))
 fn:PySem.W.isFn K (.ref f)=true
 kp:PySem.W.keepIn K (.ref C)=true
end
structure Ε(N P:List Str)(sc:Scope):Prop where
 kind:sc.kind= .function
 co:sc.isCoroutine=false
 gen:sc.isGenerator=false
 nd:N.Nodup
 pre:N.take P.length=P
 par:∀x∈P,sc.names.lookup x=some .local\/sc.names.lookup x=some .cell
 Pb:∀y∈sc.names,y.2≠ .free
def vS{kindOf:Str->Option NameKind}{x:Str}:∀{binds:List (Str×Value)} {m:Str->Option Value},(∀v,(x,v)∉binds)->bindL kindOf binds m x=m x
 | [],_,_=>rfl
 | (n,v)::r,m,h=>by
  unfold bindL;rw[vS λw hw=>h w (aad _ hw)];split
  ·have:x≠n:=by rintro rfl;exact h v aae
   simp[this]
  ·rfl
def vJ{kindOf:Str->Option NameKind}{x:Str}:∀{binds:List (Str×Value)} {m:Str->Option Value},(∀v,(x,v)∉binds)->bindC kindOf binds m x=m x
 | [],_,_=>rfl
 | (n,v)::r,m,h=>by
  unfold bindC;rw[vJ λw hw=>h w (aad _ hw)];split
  ·rfl
  ·have:x≠n:=by rintro rfl;exact h v aae
   simp[this]
def vA{kindOf:Str->Option NameKind}{x:Str}{v:Value}:∀{P:List Str} {vs:List Value} {i:Nat} {m:Str->Option Value},P.Nodup->P[i]? =some x->vs[i]? =some v->kindOf x=some .local->
  bindL kindOf (P.zip vs) m x=some v
 | [],_,_,_,_,h,_,_=>by simp at h
 | _::_,[],_,_,_,_,h,_=>by simp at h
 | p::P,w::vs,0,m,nd,h1,h2,hk=>by simp at h1 h2;subst h1;subst h2;show bindL kindOf ((p,w)::P.zip vs) m p=_;unfold bindL;rw[vS λv hv=>(abQ.mp nd).1 (abH hv).1,aaw hk];simp
 | p::P,w::vs,i+1,m,nd,h1,h2,hk=>by show bindL kindOf ((p,w)::P.zip vs) m x=_;unfold bindL;exact vA (i:=i) (List.nodup_cons.mp nd).2 (by simpa using h1) (by simpa using h2) hk
def vx{kindOf:Str->Option NameKind}{x:Str}{v:Value}:∀{P:List Str} {vs:List Value} {i:Nat} {m:Str->Option Value},P.Nodup->P[i]? =some x->vs[i]? =some v->kindOf x≠some .local->
  bindC kindOf (P.zip vs) m x=some v
 | [],_,_,_,_,h,_,_=>by simp at h
 | _::_,[],_,_,_,_,h,_=>by simp at h
 | p::P,w::vs,0,m,nd,h1,h2,hk=>by simp at h1 h2;subst h1;subst h2;show bindC kindOf ((p,w)::P.zip vs) m p=_;unfold bindC;rw[vJ λv hv=>(abQ.mp nd).1 (abH hv).1,aav hk];simp
 | p::P,w::vs,i+1,m,nd,h1,h2,hk=>by show bindC kindOf ((p,w)::P.zip vs) m x=_;unfold bindC;exact vx (i:=i) (List.nodup_cons.mp nd).2 (by simpa using h1) (by simpa using h2) hk
def start(N:List Str)(vs:List V):St:=vs.map some++List.replicate (N.length - vs.length) none
def uV(CX:Bf)(P:Program)(w:World)(K:fI)(mg:Str->Option Value)(base:Heap)(N:List Str)(qual:Str)(scope:Scope)(f:Addr)(cd:Value)(A:Around)(outer:List Env)(s:Shared)(H:Hp)(E:XK):Cx where
 prog:=P
 w:=w
 K:=K
 mg:=mg
 base:=base
 A:=A.deeper (envOfC qual scope s.heap.objs.size f cd)
 N:=N
 s₀:=s
 H₀:=H
 env:=envOfC qual scope s.heap.objs.size f cd
 outer:=outer
 stack:=envOfC qual scope s.heap.objs.size f cd::outer
 ex:=[]
 calm:=true
 fn:=λ_=>true
 pn:=[]
 xe:=λe s'=>wpAny (model P w) (A.deeper (envOfC qual scope s.heap.objs.size f cd)) (leaving (envOfC qual scope s.heap.objs.size f cd) e) (λ_ YA=>CX outer H s E e YA) (λe' YA=>CX outer H s E e' YA) s'
def zp{sc:Scope}{n:Nat}(h:sc.names.lookup x=some .cell):∃c,(cellsFrom n sc.names []).lookup x=some c:=by have q:=PySem.W.cellsFrom_some sc.names n [] (.inl h);exact abm.mp q
def F_{CX:Bf}{K:fI}{N:List Str}{qual:Str}{scope:Scope}{f:Addr}{cd:Value}{s1:Shared}{H:Hp}{E:XK}{vs:List V}
  (S:Ε N ps scope) (hd:A.handled=none) (e0:Ci P w K mg base A outer s H) (hl:vs.length=ps.length) (r:aC vs us)
  (x:InCallC s s.heap.objs.size (bindL (envOfC qual scope s.heap.objs.size f cd).kindOf (ps.zip us) λ_=>none) (cellsFrom (s.heap.objs.size+1) scope.names []) (bindC (envOfC qual scope s.heap.objs.size f cd).kindOf (ps.zip us) λ_=>none) s1):
  Inv (uV CX P w K mg base N qual scope f cd A outer s H E) [] (start N vs) H s1:=by
 have gy:ps.length<=N.length:=by have:=aaX List.length S.pre;rw[ab6]at this;omega
 have⟨h1,tk,rfl,hk⟩:=x.done;have SF:∀b:Addr,b∉(uV CX P w K mg base N qual scope f cd A outer s H E).ex:=λb z=>absurd (show b∈([]:List Addr) from z) (by simp)
 refine⟨⟨e0.mod,S.kind,rfl,rfl,aai _,λy z c h1 h2=>?_,λy hy=>?_,λy c _ h=>?_,λ_=>hd,Around.frames_deeper e0.frames,.inr ⟨rfl,rfl⟩,λb z=>aaJ z (SF b),e0.bs,e0.pX,λb _ _=>SF b,λb z=>aaJ z (SF b),e0.vc,e0.UA⟩,
  rfl,e0.bare,Un.kept hk,⟨_,x.toInCall.ns,λi y v h1 h2 h3=>?_⟩,λy c h=>⟨_,x.cell y c h⟩,e0.bb.fresh (Nat.le_refl _),λy c h=>?_,λp hp=>absurd (show p∈([]:List (Addr×Obj)) from hp) (by simp),e0.bb.kept hk,?_⟩
 ·exact name_of_addr x.apart (PySem.mem_of_lookup h1) (PySem.mem_of_lookup h2)
 ·have hy:scope.names.lookup y=some .cell\/scope.names.lookup y=some .free:=hy;rcases hy with hy| hy
  ·exact zp hy
  ·exact aaJ rfl (S.Pb _ (PySem.mem_of_lookup hy))
 ·exact Nat.le_of_lt (x.above y c (PySem.mem_of_lookup h))
 ·have hi:i < vs.length:=by
   unfold start at h2;by_cases hi:i < vs.length
   ·exact hi
   ·rw[List.getElem?_append_right (by simpa using hi)]at h2;rw[ab0]at h2;split at h2 <;> cases h2
  have ha:vs[i]? =some v:=by
   unfold start at h2;rw[List.getElem?_append_left (by simpa using hi),List.getElem?_map]at h2;cases e:vs[i]? with
   | none=>rw[e]at h2;cases h2
   | some a=>rw[e]at h2;cases h2;rfl
  have⟨u,hu,rv⟩:=r.get ha;have hp:ps[i]? =some y:=by rw[<-S.pre,acp ()];exact h1
  have ndP:ps.Nodup:=by rw[<-S.pre];exact S.nd.sublist (List.take_sublist _ _)
  refine⟨u,rv,?_⟩;rcases S.par y (aam hp) with k| k
  ·exact .inl ⟨k,vA ndP hp hu k⟩
  ·have⟨c,e⟩:=zp (n:=s.heap.objs.size+1) k;refine .inr ⟨.inl k,c,e,?_⟩;have q:=x.cell y c e;rw[vx ndP hp hu (by show scope.names.lookup y≠_;rw[k];decide)]at q;exact q
 ·exact e0.bb.fresh (Nat.le_of_lt (x.above y c (PySem.mem_of_lookup h)))
 ·unfold start;show _=N.length;rw[aag,aac,aa6];omega
def OC{CX:Bf}{K:fI}{k:Nat}{f:Addr}{name qual:Str}{params:Arguments}{scope:Scope}{dV kV doc pm aX ct oc:Value}{an od:Option Addr}
  {Be:Array (Option Value)} {N:List Str} {sp:Sp} (lk:K.lookup f=some ⟨oc,od,.func (PySem.W.fnOf name qual params body scope dV kV doc pm an aX ct),Be⟩) (Dv:PySem.W.codeIn K aX qual=true) (S:Ε N ps scope)
  (len:∀vs H Q E,sp vs H Q E->vs.length=ps.length)
  (sV:∀(A:Around) (outer:List Env) (s:Shared) (H:Hp) (vs:List V) (Q:VK) (E:XK),bT k (A.deeper (envOfC qual scope s.heap.objs.size f aX))->sp vs H Q E->
   ∃t,Hr (uV CX P w K mg base N qual scope f aX A outer s H E) body t/\t {nx:=λ_ H'=>Q .bF H',rt:=Q} (start N vs) H):
  av P w K mg base CX (k+1) f (PySem.W.fnOf name qual params body scope dV kV doc pm an aX ct) ps sp:=by
 refine⟨len,λA outer s H args us vs Q E hr e0 hb r N6=>?_⟩;have hl:=len _ _ _ _ N6;have KX:K.In s.heap:=e0.mod.TZ.keeps λb o e=>(e0.bs b o e).1;have lim:s.heap.NoLimit:=e0.mod.nolimit.keeps λb o e=>(e0.bs b o e).1;have Km:∀y∈ps.zip us,scope.names.lookup y.1=some .local\/(scope.names.lookup y.1=some .cell/\((cellsFrom (s.heap.objs.size+1) scope.names []).lookup y.1).isSome=true):=λ⟨n,v⟩ hy=>by
  rcases S.par n (abH hy).1 with q| q
  ·exact .inl q
  ·exact .inr ⟨q,PySem.W.cellsFrom_some _ _ _ (.inl q)⟩
 refine codeAny_call_function hr.depth (KX _ _ lk) rfl S.co S.gen rfl (PySem.W.codeRec_of KX Dv) (hb _ _ _ _ ?_);refine wpAny_newFunctionEnv_cells S.kind Km λenv he s1 x=>?_;subst he;refine⟨lim.keeps x.toInCall.keep,codeAny_func ?_⟩;have⟨t,ht,hq⟩:=sV A outer s H vs Q E (hr.deeper _) N6;have I:Inv (uV CX P w K mg base N qual scope f aX A outer s H E) [] (start N vs) H s1:=F_ S hr.hd e0 hl r x;refine acd (ht [] s1 (start N vs) H _ I hq) (λfl s' hs=>?_) λe s' hs=>hs
 have fin:∀{σ':St} {H':Hp} {v:V} {u:Value},Inv (uV CX P w K mg base N qual scope f aX A outer s H E) [] σ' H' s'->aF v u->Q v H'->CE outer P w H s Q u s':=
  λ{σ' H' v u} J rv q=>⟨v,H',J.os,J.bare,J.base,J.bb,rv,q⟩
 cases fl with
 | ret u=>
  have⟨v,σ',H',J,rv,q⟩:=hs;exact fin J rv q
 | next=>
  have⟨σ',H',J,q⟩:=hs;exact fin (v:=V.bF) (u:=Value.none) J rfl q
 | brk=>
  have⟨_,_,_,q⟩:=hs;exact False.elim q
 | cont=>
  have⟨_,_,_,q⟩:=hs;exact False.elim q
section
variable{p:Pos}{t:TA}{id T:String}{r:List V->Hp->VK->Prop}
def Wz(r:List V->Hp->VK->Prop)(t:TA):TE:=λσ H Q=>t σ H λvs H1=>r vs H1 Q
def HJ(hc:dI X (.builtin id) r)(hg:Gl X x)(hm:X.mg x=none)(hv:bootBuiltins x=some (.builtin id))(ha:PA X (e::es) t)(hn:x≠"__name__":=by decide)(uR:(x==("__debug__":Str))=false:=by decide)
  (he:starEach (e::es) X.env=(false,eval e X.env)::starEach es X.env:=by rfl) (gy:(backTo pos (starEach es X.env)).any (·.1)=false:=by rfl):PE X (.Call (.Name x p) (e::es) [] pos) (Wz r t):=by
 intro ζ s σ H Q I h;refine wpAny_Call_Name_kw (mL I hg hm hv ?_ hn uR);exact PyProof.Rows.callWith_builtin1 (bH (ha pos ζ s σ H _ I h) λus s1 ⟨vs,H1,I1,r1,q1⟩=>hc ζ s1 σ H1 vs us Q I1 r1 q1) he gy
def G7(hc:dI X (.type T) r)(hg:Gl X x)(hm:X.mg x=none)(hv:bootBuiltins x=some (.type T))(ha:PA X (e::es) t)(hn:x≠"__name__":=by decide)(uR:(x==("__debug__":Str))=false:=by decide)
  (he:starEach (e::es) X.env=(false,eval e X.env)::starEach es X.env:=by rfl) (gy:(backTo pos (starEach es X.env)).any (·.1)=false:=by rfl):PE X (.Call (.Name x p) (e::es) [] pos) (Wz r t):=by
 intro ζ s σ H Q I h;refine wpAny_Call_Name_kw (mL I hg hm hv ?_ hn uR);exact PyProof.Rows.callWith_type1 (bH (ha pos ζ s σ H _ I h) λus s1 ⟨vs,H1,I1,r1,q1⟩=>hc ζ s1 σ H1 vs us Q I1 r1 q1) he gy
end
end L2
namespace HT
open PySem PyProof.Rows
section
variable{prog:Program}{w:World}{A:Around}{E:Value->Shared->Prop}{s:Shared}
def MT{t b:Addr}{vs ws:List Value}{Q:Value->Shared->Prop}(ht:IsTup s.heap t vs.toArray)(hb:IsTup s.heap b ws.toArray)(hv:vs≠[])
  (h1:ws=[]->Q (.ref t) s) (h2:ws≠[]->Q (.ref s.heap.objs.size) {s with heap:=s.heap.push {cls:=.type "tuple",data:=.seq (vs++ws).toArray}})
  (hsz:vs.length+ws.length<=sizeLine):wpAny (model prog w) A (binaryOp .Add (.ref t) (.ref b)) Q E s:=by
 have⟨⟨cls,dd,data,sl⟩,ho,hc,n,hd⟩:=id ht;have⟨⟨agF,VM,data2,Vz⟩,VC,Z7,n2,hd2⟩:=id hb;simp only at hc hd Z7 hd2;subst hc hd Z7 hd2;have e:vs.toArray++ws.toArray=(vs++ws).toArray:=by simp
 by_cases hw:ws=[]
 ·exact concat_meets ⟨_,ho,rfl⟩ ⟨_,VC,rfl⟩ noFill_tuple_add seq_tuple_add PySem.F.slot_tuple_add PySem.F.entry_tuple_add (PySem.F.args_tuple_add_2 _ _)
   (tuple_addW1 t b vs.toArray ws.toArray n n2 dd VM sl Vz (by simpa using hv) (by simp[hw])) ⟨ho,VC,h1 hw⟩
 ·refine concat_meets ⟨_,ho,rfl⟩ ⟨_,VC,rfl⟩ noFill_tuple_add seq_tuple_add PySem.F.slot_tuple_add PySem.F.entry_tuple_add (PySem.F.args_tuple_add_2 _ _)
   (tuple_addW2 t b vs.toArray ws.toArray n n2 dd VM sl Vz (by simpa using hv) (by simpa using hw) (by rw[List.size_toArray,List.size_toArray];exact hsz)) ⟨ho,VC,?_⟩
  rw[e];exact h2 hw
def za(n d:Nat):Option Int->Nat
 | none=>d
 | some v=>if v < 0 then (v+(n:Int)).toNat else min v.toNat n
def A0(n d:Nat):za n d none=d:=rfl
def rf(n d k:Nat):za n d (some (k:Int))=min k n:=by show(if (k:Int) < 0 then ((k:Int)+(n:Int)).toNat else min (k:Int).toNat n)=min k n;rw[aav (),abP]
end
end HT
namespace L2
open PySem PySem.Spec PyProof.Rows
variable{X:Cx}{n:Nat}{ζ:List (Addr×Obj)}{s:Shared}{its:List Value}
abbrev TO:=St->Hp->(Option Int->Hp->Prop)->Prop
def PO(X:Cx)(e:Option Expr)(t:TO):Prop:=
 ∀(ζ:List (Addr×Obj)) (s:Shared) (σ:St) (H:Hp) (Q:Option Int->Hp->Prop),Inv X ζ σ H s->t σ H Q->
  wpAny (model X.prog X.w) X.A (evalPart e X.env) (λu s'=>∃o H',Inv X ζ σ H' s'/\IsPart u o/\Q o H') X.xe s
def Mj:TO:=λ_ H Q=>Q none H
def Uy(t:TE):TO:=λσ H Q=>t σ H λx H1=>∃i,x= .int i/\Q (some i) H1
section
variable{e:Expr}{te:TE}{lo hi:Option Expr}{tl th:TO}{pos p2:Pos}
def DD:PO X none Mj:=by intro ζ s σ H Q I h;rw[evalPart_none];exact aba ⟨none,H,I,.none,h⟩
def lN(h:PE X e te):PO X (some e) (Uy te):=by intro ζ s σ H Q I hw;rw[evalPart_some];refine bH (h ζ s σ H _ I hw) λu s1 xz=>?_;have⟨x,H1,I1,r1,q1⟩:=xz;have⟨i,rfl,q⟩:=q1;have⟨t,rfl⟩:=r1;exact⟨some i,H1,I1,.int i t,q⟩
def SlR(X:Cx)(r:V->Option Int->Option Int->Hp->VK->Prop):Prop:=
 ∀(ζ:List (Addr×Obj)) (s:Shared) (σ:St) (H:Hp) (x:V) (v vl vu:Value) (lo hi:Option Int) (sl:Addr) (Q:VK),Inv X ζ σ H s->aF x v->s.heap.IsSliceOf sl vl vu .none->IsPart vl lo->IsPart vu hi->r x lo hi H Q->
  ∃T id,typeLookup (.type T) "__getitem__"=pure (some (.builtin id))/\s.TypeIs v T/\wpAny (model X.prog X.w) X.A (getItem v (.ref sl)) (EP X ζ σ Q) X.xe s
def tSl(r:V->Option Int->Option Int->Hp->VK->Prop)(te:TE)(tl th:TO):TE:=λσ H Q=>te σ H λx H1=>tl σ H1 λl H2=>th σ H2 λu H3=>r x l u H3 Q
def t_{r:V->Option Int->Option Int->Hp->VK->Prop}(hr:SlR X r)(he:PE X e te)(hl:PO X lo tl)(hu:PO X hi th):PE X (.Subscript e (.Slice lo hi none p2) pos) (tSl r te tl th):=by intro ζ s σ H Q I h;refine Subscript_ (bH (he ζ s σ H _ I h) λv s1 xz=>?_);have⟨x,H1,I1,r1,q1⟩:=xz;refine wpAny_Slice (bH (hl ζ s1 σ H1 _ I1 q1) fun vl s2 ⟨l,H2,I2,pl,q2⟩=>bH (hu ζ s2 σ H2 _ I2 q2) λvu s3 xz=>?_);have⟨u,H3,I3,pu,q3⟩:=xz;rw[evalPart_none];refine aba ?_;have I4:Inv X ζ σ H3 {s3 with heap:=s3.heap.push {cls:=.type "slice",data:=.fields #[vl,vu,.none]}}:=I3.kept (t':=s3.toks) λb ob q=>aak _ q;have⟨T,id,hT,ht,hg⟩:=hr ζ {s3 with heap:=s3.heap.push {cls:=.type "slice",data:=.fields #[vl,vu,.none]}} σ H3 x v vl vu l u s3.heap.objs.size Q I4 r1 (Heap.IsSliceOf.new ..) pl pu q3;show wpAny (model X.prog X.w) X.A (subscriptTail e (.Slice lo hi none p2) v (.ref s3.heap.objs.size)) (EP X ζ σ Q) X.xe {s3 with heap:=s3.heap.push {cls:=.type "slice",data:=.fields #[vl,vu,.none]}};exact tail_any (ops:=[.ref s3.heap.objs.size,v]) ht hT hg (by with_unfolding_all rfl)
def vh(xs:List V)(lo hi:Option Int):List V:=(xs.drop (HT.za xs.length 0 lo)).take (HT.za xs.length xs.length hi - HT.za xs.length 0 lo)
def yW(xs:List V)(lo hi:Option Int):(vh xs lo hi).length<=xs.length:=by unfold vh;rw[ab6,abL];omega
def Oe(K:fI):R2:=λx y H Q=>∃a b xs ys,x= .ref a/\y= .ref b/\nv K H a xs/\nv K H b ys/\xs≠[]/\xs.length+ys.length<=sizeLine/\
 (ys=[]->Q (.ref a) H)/\(ys≠[]->∀p,H p=none->Q (.ref p) (upd H p (.tup (xs++ys))))
def aC.yf{xs:List V}{us:List Value}(r:aC xs us):us=[]↔xs=[]:=by
 cases r with
 | nil=>simp
 | cons _ _=>simp
def MI:jS X (binaryOp .Add) (Oe X.K):=by intro ζ s σ H x y v u Q I rx ry h;have⟨a,b,xs,ys,rfl,rfl,ha,hb,hx,hz,q1,q2⟩:=h;cases rx;cases ry;have⟨its,r1,p1,_⟩:=I.tuple ha;have⟨HX,r2,p2,_⟩:=I.tuple hb;refine HT.MT p1 p2 (λz=>hx (r1.yf.mp z)) (λz=>⟨.ref a,H,I,rfl,q1 (r2.yf.mp z)⟩) (λz=>?_) (by rw[<-r1.length,<-r2.length];exact hz);refine⟨.ref s.heap.objs.size,_,I.laid (t':=s.toks) (o:=.tup (xs++ys)) (λb ob q=>aak _ q) (aai _) ?_,rfl,q2 (λw=>z (r2.yf.mpr w)) _ (I.bb.fresh (aai _))⟩;exact⟨by rw[aag];exact hz,_,r1.append r2,IsTup.new _ _⟩
end
def Hq(n:Nat)(i:Int):Option Nat:=if 0<=i then (if i < n then some i.toNat else none) else if -(n:Int)<=i then some (i+n).toNat else none
def nJ{α:Type}(xs:List α)(i:Int):Option α:=(Hq xs.length i).bind λj=>xs[j]?
def EB{i:Int}{j:Nat}(h:Hq n i=some j):seqIndex? i n=some j/\j < n/\ -(n:Int)<=i/\i < n:=by
 unfold Hq at h;by_cases h0:0<=i
 ·rw[aaw h0]at h;by_cases h1:i < n
  ·rw[aaw h1]at h;have e:i.toNat=j:=aax h;exact⟨by rw[seqIndex_of h0 h1,e],(),(),h1⟩
  ·rw[aav h1]at h;cases h
 ·rw[aav h0]at h;by_cases h1: -(n:Int)<=i
  ·rw[aaw h1]at h;have e:(i+n).toNat=j:=aax h;exact⟨by rw[seqIndex_neg () h1,e],(),h1,()⟩
  ·rw[aav h1]at h;cases h
def yp{α:Type}{xs:List α}{i:Int}{v:α}(h:nJ xs i=some v):∃j,seqIndex? i xs.length=some j/\xs[j]? =some v/\j < xs.length/\ -(xs.length:Int)<=i/\i < xs.length:=by
 unfold nJ at h;cases e:Hq xs.length i with
 | none=>rw[e]at h;cases h
 | some j=>
  rw[e]at h;have⟨h1,h2,h3,h4⟩:=EB e;exact⟨j,h1,h,h2,h3,h4⟩
def Ο{α:Type}{xs:List α}{j:Nat}{v:α}(h:xs[j]? =some v):nJ xs (j:Int)=some v:=by
 have hj:j < xs.length:=(aaf.mp h).1;have e:Hq xs.length (j:Int)=some j:=by unfold Hq;rw[if_pos (),if_pos ()];simp
 unfold nJ;rw[e];exact h
def yv(b:Expr):Prop:=∀o i,subscripted b false o i=operate [o,i] (getItem o i)
def Lp(X:Cx)(r:R2):Prop:=
 ∀(value slice:Expr) (ζ:List (Addr×Obj)) (s:Shared) (σ:St) (H:Hp) (x y:V) (v u:Value) (Q:VK),Inv X ζ σ H s->aF x v->aF y u->r x y H Q->
  subscripted slice false v u=operate [v,u] (getItem v u)->wpAny (model X.prog X.w) X.A (subscriptTail value slice v u) (EP X ζ σ Q) X.xe s
def Z2(X:Cx)(id:String)(r:V->List V->Hp->VK->Prop):Prop:=
 ∀(ζ:List (Addr×Obj)) (s:Shared) (σ:St) (H:Hp) (x:V) (xs:List V) (v:Value) (us:List Value) (Q:VK),Inv X ζ σ H s->aF x v->aC xs us->r x xs H Q->
  wpAny (model X.prog X.w) X.A (call (.builtin id) (v::us)) (EP X ζ σ Q) X.xe s
section
variable{a b:Expr}{ta tb:TE}{pos:Pos}
def Lp.or{r r':R2}(h:Lp X r)(h':Lp X r'):Lp X (λx y H Q=>r x y H Q\/r' x y H Q):=by
 intro value slice ζ s σ H x y v u Q I rx ry q hs;rcases q with q| q
 ·exact h value slice ζ s σ H x y v u Q I rx ry q hs
 ·exact h' value slice ζ s σ H x y v u Q I rx ry q hs
def TL{r:R2}(hr:Lp X r)(ha:PE X a ta)(hb:PE X b tb)(hs:yv b):PE X (.Subscript a b pos) (SH r ta tb):=by intro ζ s σ H Q I h;exact Subscript_ (O1 ha hb I h λv u s2 x y H2 I2 rx ry q=>hr a b ζ s2 σ H2 x y v u Q I2 rx ry q (hs _ _))
def UW(K:fI):R2:=λx y H Q=>∃p xs i v,x= .ref p/\y= .int i/\gC K H p xs/\nJ xs i=some v/\Q v H
def UT(K:fI):R2:=λx y H Q=>∃p xs i v,x= .ref p/\y= .int i/\nv K H p xs/\nJ xs i=some v/\Q v H
def R6:R2:=λx y H Q=>∃z i c,x= .str z/\y= .int i/\z.length<=sizeLine/\nJ z.cps.toList i=some c/\Q (.str ⟨#[c]⟩) H
def Nw:Lp X (UW X.K):=by
 intro value slice ζ s σ H x y v u Q I rx ry h hs;have⟨p,xs,i,z,rfl,rfl,hq,he,q⟩:=h;cases rx;have⟨t,rfl⟩:=ry;have⟨its,r,pl,hz⟩:=I.list hq;have⟨j,h1,h2,h3,h4,h5⟩:=yp he;have⟨w,ew,Fm⟩:=r.get h2;have hl:=r.length;have hn:=pV;have fin:EP X ζ σ Q w s:=⟨z,H,I,Fm,q⟩;by_cases h0:0<=i
 ·have hj:i.toNat=j:=by rw[seqIndex_of h0 h5]at h1;exact aax h1
  exact item_listR pl.isList h0 () (by rw[hj];simpa using ew) fin hs
 ·have hj:(i+(its.toArray.size:Int)).toNat=j:=by rw[seqIndex_neg () h4]at h1;rw[aaI,<-hl];exact aax h1
  exact subscriptTail_builtinR (x:=w) pl.isList.typeIs slot_list_getitem.lookup
   (wpAny_getItem_list_neg (Q:=λr s'=>r=w/\EP X ζ σ Q r s') pl.isList () (by rw[List.size_toArray] <;> omega) () (by rw[hj];simpa using ew) ⟨rfl,fin⟩) hs
def QE:Lp X (UT X.K):=by
 intro value slice ζ s σ H x y v u Q I rx ry h hs;have⟨p,xs,i,z,rfl,rfl,hq,he,q⟩:=h;cases rx;have⟨t,rfl⟩:=ry;have⟨its,r,pl,hz⟩:=I.tuple hq;have⟨j,h1,h2,h3,h4,h5⟩:=yp he;have⟨w,ew,Fm⟩:=r.get h2;have hl:=r.length;have hn:=pV;have fin:EP X ζ σ Q w s:=⟨z,H,I,Fm,q⟩
 exact subscriptTail_builtinR (x:=w) pl.typeIs slot_tuple_getitem.lookup
  (getItem_tuple (j:=j) (Q:=λr s'=>r=w/\EP X ζ σ Q r s') pl () () (by rw[List.size_toArray,<-hl];exact h1) (by simpa using ew) ⟨rfl,fin⟩) hs
def PY:Lp X R6:=by
 intro value slice ζ s σ H x y v u Q I rx ry h hs;have⟨z,i,c,rfl,rfl,hz,he,q⟩:=h;have⟨t,rfl⟩:=rx;have⟨t',rfl⟩:=ry;have⟨j,h1,h2,h3,h4,h5⟩:=yp he;have hl:z.cps.toList.length=z.length:=by simp[Str.length]
 rw[hl]at h1 h4 h5;have hn:=pV
 exact tail_any (typeIs_str s z t) slot_str_getitem.lookup (getItem_str (c:=c) (by
  have e1:decide (i < -(2 ^ 63:Int))=false:=aaG ();have e2:decide (i ≥ 2 ^ 63)=false:=aaG ()
  rw[e1,e2,Bool.or_false]) (by rw[h1];simpa using h2) ⟨.str ⟨#[c]⟩,H,I.tok _,⟨_,rfl⟩,q⟩) hs
def rIx(K:fI):R2:=λx y H Q=>UW K x y H Q\/UT K x y H Q\/R6 x y H Q
def Rh:Lp X (rIx X.K):=Nw.or (QE.or PY)
def Cb(its:List Value)(n j:Nat)(u:Value):Obj.mapSeq (·.setIfInBounds j u) {cls:=.type "list",data:=.seq its.toArray n}={cls:=.type "list",data:=.seq (its.set j u).toArray n}:=by simp[Obj.mapSeq]
def Inv.lst{ζ:List (Addr×Obj)}{σ:St}{H:Hp}{s:Shared}{p:Addr}{xs:List V}(I:Inv X ζ σ H s)(h:H p=some (.lst xs)):
  ∃(its:List Value) (n:Nat),aC xs its/\s.heap.get? p=some {cls:=.type "list",data:=.seq its.toArray n}/\xs.length<=sizeLine:=by
 have⟨z,its,n,r,e⟩:=I.bb p _ h;exact⟨its,n,r,e,z⟩
def Inv.OZ{σ:St}{H:Hp}{p:Addr}{xs ys:List V}{its':List Value}{n':Nat}{f:Obj->Obj}(I:Inv X ζ σ H s)(h:H p=some (.lst xs))
  (ho:s.heap.get? p=some {cls:=.type "list",data:=.seq its.toArray n}) (hf:f {cls:=.type "list",data:=.seq its.toArray n}={cls:=.type "list",data:=.seq its'.toArray n'}) (r:aC ys its') (hz:ys.length<=sizeLine) (t:Nat):
  Inv X ζ σ (upd H p (.lst ys)) {s with heap:=s.heap.update p f,toks:=t}:=by
 have e:(s.heap.update p f).get? p=some {cls:=.type "list",data:=.seq its'.toArray n'}:=by rw[Heap.get?_update_self f ho (by rw[hf] <;> rfl),hf]
 refine I.write (x:=p) (e:=p) (by rw[h];trivial) (.inl rfl) (λb u hb q=>(Heap.get?_update_other _ _ (Ne.symm hb)).trans q) ⟨_,e⟩ ?_;exact⟨hz,its',n',r,e⟩
def NZ:V->V->V->Hp->(Hp->Prop)->Prop:=λo i v H Q=>∃p xs k j,o= .ref p/\i= .int k/\H p=some (.lst xs)/\Hq xs.length k=some j/\Q (upd H p (.lst (xs.set j v)))
def Lh:Ta X NZ:=by
 intro ζ s σ H o i v ov iv u Q I ro ri rv h;have⟨p,xs,k,j,rfl,rfl,hp,hj,q⟩:=h;cases ro;have⟨t,rfl⟩:=ri;have⟨its,n,r,ho,hz⟩:=I.lst hp;have⟨h1,h2,h3,h4⟩:=EB hj;have hl:=r.length;have hn:=pV
 have I':Inv X ζ σ (upd H p (.lst (xs.set j v))) {s with heap:=s.heap.update p (Obj.mapSeq (·.setIfInBounds j u))}:=
  I.OZ hp ho (Cb its n j u) (r.set rv j) (by rw[abh];exact hz) s.toks
 by_cases h0:0<=k
 ·have hk:k.toNat=j:=by rw[seqIndex_of h0 h4]at h1;exact aax h1
  exact PySem.W.ki_setAt ho h0 () (by rw[aaI,<-hl];exact h4) (by rw[hk];exact⟨_,I',q⟩)
 ·have hk:(k+(its.toArray.size:Int)).toNat=j:=by rw[seqIndex_neg () h3]at h1;rw[aaI,<-hl];exact aax h1
  exact PySem.W.ki_setBack ho () (by rw[aaI,<-hl];exact h3) () (by rw[hk];exact⟨_,I',q⟩)
def xC(lo hi:Option Int)(n:Nat):(sliceBounds lo hi none n).1=((HT.za n 0 lo:Nat):Int)/\(sliceBounds lo hi none n).2.1=((HT.za n n hi:Nat):Int)/\(sliceBounds lo hi none n).2.2=1:=by
 refine⟨?_,?_,rfl⟩
 ·cases lo with
  | none=>simp[sliceBounds,HT.za]
  | some i=>
   simp only[sliceBounds,HT.za,Option.getD_none,show(1:Int) > 0 by decide,if_true];by_cases h:i < 0
   ·simp only[h,if_true] <;> omega
   ·simp only[h,if_false] <;> omega
 ·cases hi with
  | none=>simp[sliceBounds,HT.za]
  | some i=>
   simp only[sliceBounds,HT.za,Option.getD_none,show(1:Int) > 0 by decide,if_true];by_cases h:i < 0
   ·simp only[h,if_true] <;> omega
   ·simp only[h,if_false] <;> omega
def uY(its:List Value)(lo hi:Option Int):slicePick its.toArray lo hi none=((its.drop (HT.za its.length 0 lo)).take (HT.za its.length its.length hi - HT.za its.length 0 lo)).toArray:=by have⟨h1,h2,h3⟩:=xC lo hi its.toArray.size;unfold slicePick;rw[h1,h2,h3];simp only[sliceRange_one,pick_run,List.size_toArray] <;> rfl
def Yj(K:fI):V->Option Int->Option Int->Hp->VK->Prop:=λx lo hi H Q=>∃a xs,x= .ref a/\gC K H a xs/\∀p,H p=none->Q (.ref p) (upd H p (.lst (vh xs lo hi)))
def yk:SlR X (Yj X.K):=by intro ζ s σ H x v vl vu lo hi sl Q I rx hs pl pu h;have⟨a,xs,rfl,hx,q⟩:=h;cases rx;have⟨its,r,ht,hz⟩:=I.list hx;have hlen:=r.length;refine⟨"list",_,slot_list_getitem.lookup,ht.isList.typeIs,?_⟩;refine wpAny_getItem_list_slice ht.isList hs pl pu .none (by simp) ?_ (by rw[List.size_toArray] <;> omega);rw[uY,<-hlen];refine⟨.ref s.heap.objs.size,_,I.laid (t':=s.toks) (o:=.lst (vh xs lo hi)) (λb ob q=>aak _ q) (aai _) ?_,rfl,q _ (I.bb.fresh (aai _))⟩;exact⟨aas (yW xs lo hi) hz,_,0,(r.drop (HT.za xs.length 0 lo)).take (HT.za xs.length xs.length hi - HT.za xs.length 0 lo),aaS _ rfl⟩
def eQ:V->Bool
 | .bF=>true
 | .bl _=>true
 | .int _=>true
 | .str _=>true
 | _=>false
def qL:V->V->Bool
 | .bF,.bF=>true
 | .bl a,.bl b=>a==b
 | .bl a,.int b=>(if a then 1 else 0)==b
 | .int a,.bl b=>a==(if b then 1 else 0)
 | .int a,.int b=>a==b
 | .str a,.str b=>a==b
 | _,_=>false
def xT{A:Around}{y x:V}{u v:Value}(ry:aF y u)(rx:aF x v)(fy:eQ y=true)(fx:eQ x=true):SeqAt.EqAt A s u v (qL y x):=by
 cases y with
 | bF=>
  cases ry;cases x with
  | bF=>cases rx;exact SeqAt.EqAt.same _
  | bl b=>cases rx;exact SeqAt.EqAt.none_bool b
  | int b=>have⟨t,rfl⟩:=rx;exact SeqAt.EqAt.none_int b t
  | str b=>have⟨t,rfl⟩:=rx;exact SeqAt.EqAt.none_str b t
  | _=>exact aaJ (show false=true from fx) aaD
 | bl a=>
  cases ry;cases x with
  | bF=>cases rx;exact SeqAt.EqAt.bool_none a
  | bl b=>cases rx;exact SeqAt.EqAt.bool_bool a b
  | int b=>have⟨t,rfl⟩:=rx;exact SeqAt.EqAt.bool_int a b t
  | str b=>have⟨t,rfl⟩:=rx;exact SeqAt.EqAt.bool_str a b t
  | _=>exact aaJ (show false=true from fx) aaD
 | int a=>
  have⟨t',rfl⟩:=ry;cases x with
  | bF=>cases rx;exact SeqAt.EqAt.int_none a t'
  | bl b=>cases rx;exact SeqAt.EqAt.int_bool a t' b
  | int b=>have⟨t,rfl⟩:=rx;exact SeqAt.EqAt.int_int a t' b t
  | str b=>have⟨t,rfl⟩:=rx;exact SeqAt.EqAt.int_str a t' b t
  | _=>exact aaJ (show false=true from fx) aaD
 | str a=>
  have⟨t',rfl⟩:=ry;cases x with
  | bF=>cases rx;exact SeqAt.EqAt.str_none a t'
  | bl b=>cases rx;exact SeqAt.EqAt.str_bool a t' b
  | int b=>have⟨t,rfl⟩:=rx;exact SeqAt.EqAt.str_int a t' b t
  | str b=>have⟨t,rfl⟩:=rx;exact SeqAt.EqAt.str_str a t' b t
  | _=>exact aaJ (show false=true from fx) aaD
 | _=>exact aaJ (show false=true from fy) aaD
def BC(x:V)(u:Value):Bool:=match u with
 | .none=>qL .bF x
 | .bool b=>qL (.bl b) x
 | .int i _=>qL (.int i) x
 | .str z _=>qL (.str z) x
 | _=>false
def JU{x y:V}{u:Value}(r:aF y u)(f:eQ y=true):BC x u=qL y x:=by
 cases y with
 | bF=>cases r;rfl
 | bl b=>cases r;rfl
 | int i=>have⟨t,rfl⟩:=r;rfl
 | str z=>have⟨t,rfl⟩:=r;rfl
 | _=>exact aaJ (show false=true from f) aaD
def nI{x:V}:∀{xs:List V} {us:List Value},aC xs us->xs.all eQ=true->us.any (BC x)=xs.any λy=>qL y x
 | _,_,.nil,_=>rfl
 | y::xs,u::us,.cons r t,f=>by rw[ab1,aaz]at f;rw[ab2,ab2,JU r f.1,nI t f.2]
def kW{A:Around}{s:Shared}{x:V}{v:Value}(rx:aF x v)(fx:eQ x=true):∀{xs:List V} {us:List Value},aC xs us->xs.all eQ=true->∀u∈us,SeqAt.EqAt A s u v (BC x u)
 | _,_,.nil,_=>λu hu=>by cases hu
 | y::xs,u::us,.cons r t,f=>λu' hu=>by
  rw[ab1,aaz]at f;rcases aaC.mp hu with rfl| hu
  ·rw[JU r f.1];exact xT r rx f.1 fx
  ·exact kW rx fx t f.2 u' hu
def Q8(x:V)(xs:List V):Bool:=xs.any λy=>qL y x
def V0(K:fI)(neg:Bool):R2:=λx y H Q=>∃p xs,y= .ref p/\(gC K H p xs\/nv K H p xs)/\eQ x=true/\xs.all eQ=true/\Q (.bl (if neg then !Q8 x xs else Q8 x xs)) H
def GO:jS X (compareOp .In) (V0 X.K false):=by
 intro ζ s σ H x y v u Q I rx ry h;have⟨p,xs,rfl,hq,fx,fs,q⟩:=h;cases ry;rcases hq with hq| hq
 ·have⟨its,r,pl,hz⟩:=I.list hq;refine SeqAt.in_listAt (BC x) pl.isList (λw hw=>kW rx fx r fs w (by simpa using hw)) ⟨.bl _,H,I,rfl,?_⟩;rw[show its.toArray.any (BC x)=its.any (BC x) by simp,nI r fs];exact q
 ·have⟨its,r,pl,hz⟩:=I.tuple hq;refine SeqAt.in_tupleAt (BC x) pl (λw hw=>kW rx fx r fs w (by simpa using hw)) ⟨.bl _,H,I,rfl,?_⟩;rw[show its.toArray.any (BC x)=its.any (BC x) by simp,nI r fs];exact q
def yB:jS X (compareOp .NotIn) (V0 X.K true):=by
 intro ζ s σ H x y v u Q I rx ry h;have⟨p,xs,rfl,hq,fx,fs,q⟩:=h;cases ry;rcases hq with hq| hq
 ·have⟨its,r,pl,hz⟩:=I.list hq;refine SeqAt.notIn_listAt (BC x) pl.isList (λw hw=>kW rx fx r fs w (by simpa using hw)) ⟨.bl _,H,I,rfl,?_⟩;rw[show its.toArray.any (BC x)=its.any (BC x) by simp,nI r fs];exact q
 ·have⟨its,r,pl,hz⟩:=I.tuple hq;refine SeqAt.notIn_tupleAt (BC x) pl (λw hw=>kW rx fx r fs w (by simpa using hw)) ⟨.bl _,H,I,rfl,?_⟩;rw[show its.toArray.any (BC x)=its.any (BC x) by simp,nI r fs];exact q
def xN:dI X (.builtin "len") (λxs H Q=>∃p ys,xs=[.ref p]/\(gC X.K H p ys\/nv X.K H p ys)/\Q (.int ys.length) H):=by
 intro ζ s σ H xs us Q I r h;have⟨p,ys,rfl,hq,q⟩:=h;have⟨u,rfl,rx⟩:=lu r;cases rx;have hn:=pV;rcases hq with hq| hq
 ·have⟨its,r',pl,hz⟩:=I.list hq;have hlen:=r'.length;exact Calls.call_len_list pl.isList (by simp only[List.size_toArray] <;> omega) ⟨.int ys.length,H,I.tok _,⟨s.toks+1,by rw[List.size_toArray,hlen]⟩,q⟩
 ·have⟨its,r',pl,hz⟩:=I.tuple hq;have hlen:=r'.length;exact len_tuple pl (by simp only[List.size_toArray] <;> omega) ⟨.int ys.length,H,I.tok _,⟨s.toks+1,by rw[List.size_toArray,hlen]⟩,q⟩
def xQ:dI X (.builtin "len") (λxs H Q=>∃z,xs=[.str z]/\z.length<=sizeLine/\Q (.int z.length) H):=by intro ζ s σ H xs us Q I r h;have⟨z,rfl,hz,q⟩:=h;have⟨u,rfl,t,rfl⟩:=lu r;have hn:=pV;exact len_str () ⟨.int z.length,H,I.tok _,⟨_,rfl⟩,q⟩
def dI.or{f:Value}{r r':List V->Hp->VK->Prop}(h:dI X f r)(h':dI X f r'):dI X f (λxs H Q=>r xs H Q\/r' xs H Q):=by
 intro ζ s σ H xs us Q I rs q;rcases q with q| q
 ·exact h ζ s σ H xs us Q I rs q
 ·exact h' ζ s σ H xs us Q I rs q
def yA:dI X (.type "list") (λxs H Q=>∃p ys,xs=[.ref p]/\(gC X.K H p ys\/nv X.K H p ys)/\∀l,H l=none->Q (.ref l) (upd H l (.lst ys))):=by
 intro ζ s σ H xs us Q I r h;have⟨p,ys,rfl,hq,q⟩:=h;have⟨u,rfl,rx⟩:=lu r;cases rx
 have fin:∀(its:List Value),aC ys its->ys.length<=sizeLine->∀(h':Heap) (c':Nat),(∀b o',s.heap.get? b=some o'->h'.get? b=some o')->
   h'.get? s.heap.objs.size=some {cls:=.type "list",dict:=none,data:=.seq its.toArray c',slots:= #[]}->EP X ζ σ Q (.ref s.heap.objs.size) {s with heap:=h'}:=λits r' hz h' c' kp e=>
  ⟨.ref s.heap.objs.size,_,I.laid (t':=s.toks) kp (aai _) (show b8 X.prog X.w _ h' _ (.lst ys) from⟨hz,its,c',r',e⟩),rfl,q _ (I.bb.fresh (aai _))⟩
 rcases hq with hq| hq
 ·have⟨its,r',pl,hz⟩:=I.list hq;have hlen:=r'.length;have⟨o,ho,hc,n,hd⟩:=pl.isList;exact call_list_seq p (.inl rfl) ho hc hd (λh' c' kp e=>fin its r' hz h' c' kp e) (by simp only[List.size_toArray] <;> omega)
 ·have⟨its,r',pl,hz⟩:=I.tuple hq;have hlen:=r'.length;have⟨o,ho,hc,n,hd⟩:=pl;exact call_list_seq p (.inr rfl) ho hc hd (λh' c' kp e=>fin its r' hz h' c' kp e) (by simp only[List.size_toArray] <;> omega)
def tyV(K:fI)(T:String)(x:V)(H:Hp):Prop:=match x with
 | .str _=>T="str"
 | .int _=>T="int"
 | .ref p=>(T="list"/\∃xs,gC K H p xs)\/(T="tuple"/\∃o,K.lookup p=some o/\o.cls= .type "tuple"/\o.dict=none)\/
   (T="dict"/\((∃Ν,H p=some (.dK Ν))\/∃Ν,H p=some (.dT Ν)))\/(T="set"/\∃S n,H p=some (.set S n))
 | _=>False
def Rx{σ:St}{H:Hp}{T:String}{x:V}{v:Value}(I:Inv X ζ σ H s)(r:aF x v)(ty:tyV X.K T x H):
  s.TypeIs v T/\∀a,v= .ref a->∃ob,s.heap.get? a=some ob/\ob.dict=none:=by
 cases x with
 | str z=>
  have⟨t,rfl⟩:=r;cases(show T="str" from ty);exact⟨typeIs_str s z t,λ_ e=>nomatch e⟩
 | int i=>
  have⟨t,rfl⟩:=r;cases(show T="int" from ty);exact⟨typeIs_int s i t,λ_ e=>nomatch e⟩
 | ref p=>
  cases r;rcases ty with ⟨rfl,xs,hq⟩| ⟨rfl,o,hk,hc,hd⟩| ⟨rfl,hk⟩| ⟨rfl,S,n,hk⟩
  ·have⟨its,_,pl,_⟩:=I.list hq;refine⟨pl.isList.typeIs,λa e=>?_⟩;cases e;have⟨o,n,e,c,hd,_⟩:=pl;exact⟨o,e,hd⟩
  ·refine⟨⟨o,I.qy p o hk,hc⟩,λa e=>?_⟩;cases e;exact⟨o,I.qy _ o hk,hd⟩
  ·have z:∃o,s.heap.get? p=some o/\o.ExactDict:=by
    rcases hk with ⟨Ν,hk⟩| ⟨Ν,hk⟩
    ·have⟨_,_,_,_,o,_,_,e,ex,_⟩:=I.bb p _ hk;exact⟨o,e,ex⟩
    ·have⟨_,_,_,_,o,_,_,e,ex,_⟩:=I.bb p _ hk;exact⟨o,e,ex⟩
   have⟨o,e,ex⟩:=z;refine⟨⟨o,e,ex.1⟩,λa e2=>?_⟩;cases e2;exact⟨o,e,ex.2.1⟩
  ·have⟨o,_,_,_,e,ex,_⟩:=I.bb p _ hk;refine⟨⟨o,e,ex.1⟩,λa e2=>?_⟩;cases e2;exact⟨o,e,ex.2.1⟩
 | _=>exact False.elim ty
def tBM(K:fI)(T:String)(r:V->List V->Hp->VK->Prop)(to:TE)(t:TA):TE:=λσ H Q=>to σ H λx H1=>tyV K T x H1/\t σ H1 λxs H2=>r x xs H2 Q
variable{o e:Expr}{es:List Expr}{to:TE}{t:TA}{name:Str}{apos cZ:Pos}{T id:String}{r:V->List V->Hp->VK->Prop}
def UX(pa:PlainAttrs T)(slot:Slot T name id)(hty:typeOf (.builtin id)=pure (.type "method_descriptor"))(hm:Z2 X id r)(ho:PE X o to)(ha:PA X (e::es) t)
  (Ko:attributeBase o name X.env (eval o X.env)=eval o X.env:=by rfl)
  (Pe:((backTo cZ (starEach (e::es) X.env)).all (λx=> !x.1)&&(backToKw cZ (keywordEach [] X.env)).all (λx=>x.1.isSome)
   &&decide ((e::es).length+([]:List Keyword).length+(if ([]:List Keyword).isEmpty then 0 else 1) < 30))=true:=by rfl)
  (JX:(apos.endLine==cZ.line)=true:=by rfl) (hs:starEach (e::es) X.env=(false,eval e X.env)::starEach es X.env:=by rfl) (Bt:(backTo cZ (starEach es X.env)).any (·.1)=false:=by rfl):
  PE X (.Call (.Attribute o name apos) (e::es) [] cZ) (tBM X.K T r to t):=by
 intro ζ s σ H Q I h;refine wpAny_Call_method_late Ko Pe JX rfl (bH (ho ζ s σ H _ I h) λv s1 xz=>?_);have⟨x,H1,I1,r1,ty,q1⟩:=xz;have⟨h1,h2⟩:=Rx I1 r1 ty;refine⟨T,id,pa,slot,hty,h1,h2,?_⟩;have hA:=ha cZ ζ s1 σ H1 _ I1 q1;rw[hs]at hA⊢;refine Calls.callWith_builtin (by show(false|| (backTo cZ (starEach es X.env)).any (·.1))=false;rw[Bt] <;> rfl) (Calls.evalArgs_plain ?_);exact bH hA λus s2 ⟨vs,H2,I2,r2,q2⟩=>hm ζ s2 σ H2 x vs v us Q I2 r1 r2 q2
end
def MtM(X:Cx)(id:String)(r:V->List V->Hp->VK->Prop):Prop:=
 ∀(ζ:List (Addr×Obj)) (s:Shared) (σ:St) (H:Hp) (x:V) (xs:List V) (v:Value) (us:List Value) (Q:VK),Inv X ζ σ H s->aF x v->aC xs us->r x xs H Q->
  wpAny (model X.prog X.w) X.A (call (.builtin id) (v::us)) (EP X ζ σ Q) X.xe s
def aC.one:∀{x:V} {us:List Value},aC [x] us->∃u,us=[u]/\aF x u
 | _,_,.cons r .nil=>⟨_,rfl,r⟩
def aC.rep{xs:List V}{us:List Value}(h:aC xs us):∀k:Nat,aC (List.replicate k xs).flatten (List.replicate k us).flatten
 | 0=>.nil
 | k+1=>by rw[abn,abn,abF,abF];exact aC.append h (aC.rep h k)
def wq(its:List Value):∀(k:Nat) (Η:List Value),
  List.foldl (λx1 x2=>x1++x2) Η.toArray (List.replicate k its.toArray)=(Η++(List.replicate k its).flatten).toArray
 | 0,Η=>by simp
 | k+1,Η=>by
  have e:Η.toArray++its.toArray=(Η++its).toArray:=by simp
  have e2:(Η++its)++(List.replicate k its).flatten=Η++(List.replicate (k+1) its).flatten:=by rw[abn,abF,aaO]
  rw[<-e2,<-wq its k (Η++its),<-e,abn,abI]
section
variable{σ:St}{H:Hp}{l b:Addr}{xs ys zs:List V}
def Inv.Zg{its':List Value}{f:Array Value->Array Value}{t':Nat}(I:Inv X ζ σ H s)(hH:H l=some (.lst xs))
  (e:s.heap.get? l=some {cls:=.type "list",data:=.seq its.toArray n}) (hf:f its.toArray=its'.toArray) (hv:aC ys its') (hz:ys.length<=sizeLine):
  Inv X ζ σ (upd H l (.lst ys)) {s with heap:=s.heap.update l (Obj.mapSeq f),toks:=t'}:=by
 have q:=PySem.IsL.update e f;rw[hf]at q;refine I.write (x:=l) (e:=l) (by rw[hH];exact trivial) (.inl rfl) (λb' u hb hu=>(Heap.get?_update_other s.heap (Obj.mapSeq f) (Ne.symm hb)).trans hu) ⟨_,q⟩ ?_;exact⟨hz,its',_,hv,q⟩
def Inv.Qi{t':Nat}(I:Inv X ζ σ H s)(hv:aC ys its)(hz:ys.length<=sizeLine):
  Inv X ζ σ (upd H s.heap.objs.size (.lst ys)) {s with heap:=s.heap.push {cls:=.type "list",data:=.seq its.toArray},toks:=t'}:=
 I.laid (λ_ _ q=>aak _ q) (aai _) ⟨hz,its,0,hv,aaS _ rfl⟩
def Inv.fresh(I:Inv X ζ σ H s):H s.heap.objs.size=none:=I.bb.fresh (aai _)
def Inv.Mw(I:Inv X ζ σ H s)(hH:H l=some (.lst xs)):xs.length<=sizeLine/\∃(its:List Value) (n:Nat),aC xs its/\xs.length=its.length/\s.heap.get? l=some {cls:=.type "list",data:=.seq its.toArray n}:=by have⟨z,its,n,r,e⟩:=I.bb l _ hH;exact⟨z,its,n,r,r.length,e⟩
def HU(h:n<=sizeLine):Builtin.List.listTooLong n=false:=by unfold Builtin.List.listTooLong;exact aaG ()
end
section
def D':V->List V->Hp->VK->Prop:=λx vs H Q=>∃l xs y,x= .ref l/\vs=[y]/\H l=some (.lst xs)/\xs.length < sizeLine/\Q .bF (upd H l (.lst (xs++[y])))
def vM:MtM X "list.append" D':=by intro ζ s σ H x vs v us Q I rx rv h;have⟨l,xs,y,rfl,rfl,hH,hz,q⟩:=h;cases rx;have⟨u,rfl,ru⟩:=rv.one;have⟨z,its,n,r,hl,e⟩:=I.Mw hH;refine call_meets F.slot_list_append ⟨_,e,rfl⟩ F.entry_list_append (F.args_list_append_2 _ _) (PySem.list_append l its.toArray n u (by rw[aaI];omega)) ⟨e,?_⟩;refine⟨.bF,_,I.Zg (its':=its++[u]) hH e (by simp) (r.append (.cons ru .nil)) ?_,rfl,q⟩;rw[aag,List.length_singleton];omega
def O3:R2:=λx y H Q=>∃l b xs zs,x= .ref l/\y= .ref b/\H l=some (.lst xs)/\H b=some (.lst zs)/\xs.length+zs.length<=sizeLine/\∀p,H p=none->Q (.ref p) (upd H p (.lst (xs++zs)))
def IX:jS X (binaryOp .Add) O3:=by
 intro ζ s σ H x y v u Q I rx ry h;have⟨l,b,xs,zs,rfl,rfl,hH,hB,hz,q⟩:=h;cases rx;cases ry;have⟨z,its,n,r,hl,e⟩:=I.Mw hH;have⟨z2,HX,n2,r2,Gb,e2⟩:=I.Mw hB;refine PySem.P.add_list e e2 ?_ (by rw[aaI,aaI];omega);have ea:its.toArray++HX.toArray=(its++HX).toArray:=by simp
 rw[ea];exact⟨.ref _,_,I.Qi (t':=s.toks) (r.append r2) (by rw[aag];omega),rfl,q _ I.fresh⟩
def Pw:R2:=λx y H Q=>∃l k xs,x= .ref l/\y= .int k/\H l=some (.lst xs)/\ -(2 ^ 63)<=k/\k < 2 ^ 63/\xs.length * k.toNat<=sizeLine/\
 ∀p,H p=none->Q (.ref p) (upd H p (.lst (List.replicate k.toNat xs).flatten))
def NT{α:Type}(xs:List α)(k:Nat):(List.replicate k xs).flatten.length=k * xs.length:=by
 induction k with
 | zero=>simp
 | succ k ih=>rw[abn,abF,aag,ih,Nat.succ_mul,Nat.add_comm]
def IM:jS X (binaryOp .Mult) Pw:=by
 intro ζ s σ H x y v u Q I rx ry h;have⟨l,k,xs,rfl,rfl,hH,h1,h2,hz,q⟩:=h;cases rx;have⟨t,rfl⟩:=ry;have⟨z,its,n,r,hl,e⟩:=I.Mw hH;have hlen:its.toArray.size * k.toNat<=sizeLine:=by rw[aaI,<-hl];exact hz
 have Zo:¬its.toArray.size * k.toNat > (2 ^ 63 - 1) / 8:=by
  have:(sizeLine:Nat)<=(2 ^ 63 - 1) / 8:=@_
  omega
 have L9:¬(!Builtin.List.listFitsIndex k)=true:=by rw[fitsIndex_both h1 h2];exact aaD
 have TK:¬Builtin.List.listTooLong (its.toArray.size * k.toNat)=true:=by rw[HU hlen];exact aaD
 have XQ:List.foldl (λx1 x2=>x1++x2) #[] (List.replicate (if its.toArray.isEmpty=true then 0 else k.toNat) its.toArray)=(List.replicate k.toNat its).flatten.toArray:=by
  have f0:∀m:Nat,List.foldl (λx1 x2=>x1++x2) #[] (List.replicate m its.toArray)=(List.replicate m its).flatten.toArray:=λm=>by have:=wq its m [];rw[aaQ]at this;exact this
  rw[f0];cases its with
  | nil=>simp
  | cons a r'=>rw[if_neg (by simp)]
 refine wpAny_binaryOp_repeat_ref (T:="list") (U:="int") @_ ⟨_,e,rfl⟩ (λs'=>typeIs_int s' k t) noFill_list_mul F.fills_int_mul F.slot_int_rmul repeat_list F.slot_int_index.lookup
  (call_meets F.slot_int_rmul (typeIs_int s k t) F.entry_int_rmul (F.args_int_rmul_2 _ _) (int___rmul___int_list k t l its.toArray n)
   ⟨e,rfl,⟨_,e,rfl⟩,call_meets F.slot_list_mul ⟨_,e,rfl⟩ F.entry_list_mul (F.args_list_mul_2 _ _) (AutoListH.list___mul___list_int_3 l its.toArray n k t L9 Zo TK) ⟨e,?_⟩⟩)
 rw[XQ];exact⟨.ref _,_,I.Qi (t':=s.toks) (r.rep k.toNat) (by rw[NT,Nat.mul_comm];exact hz),rfl,q _ I.fresh⟩
end
end L2
namespace Att
open PySem PySem.W PySem.Calls PyProof.Rows
def qM{P:Params}{h:Heap}:∀(ns:List Int) (vs:List Value),WellAll P h vs (ns.map WData.int)->IntsAre vs ns:=by
 intro ns
 induction ns with
 | nil=>
  intro vs w;rw[acJ]at w;cases w;exact .nil
 | cons n ns ih=>
  intro vs w;rw[aaM]at w;cases w with
  | cons a b=>
   cases a;exact .cons _ _ (ih _ b)
def GZ{l:OpenLaw}{n:Nat}(hn:l.most=some n){P:Params}{h:Heap}{args:List WData}{vals:List Value}
  (MH:l.row.toRowW.claim.pre args=true) (Xq:WellAll P h vals args):
  ∃a vs ns,vals=[Value.ref a]/\args=[WData.list (ns.map WData.int)]/\h.get? a=some {cls:=.type "list",data:=.seq vs.toArray}/\IntsAre vs ns/\ns.length<=n:=by
 have hsh:WShape.hasAll [] args [.list .int]=true:=(pre_splitW MH).1;have hc:l.pre.holds [] {args:=args}=true:=(pre_splitW MH).2;have⟨d,r,rfl,h1,h2⟩:=hasAllW_cons hsh;obtain rfl:=hasAllW_nil h2;have⟨xs,rfl,h3⟩:=hasW_list h1;have⟨ns,rfl⟩:=items_int h3;have hlen:ns.length<=n:=by
  unfold OpenLaw.pre at hc;have h4:(WTm.not (.lt (.lit (.int (n:Int))) (.len (.arg 0)))).holds [] {args:=[.list (ns.map .int)]}=true:=by have h4:=(holds_andW hc).1;rw[hn]at h4;exact h4
  have h5:=condW_of h4 (w_not (w_lt w_lit (w_len_list (w_arg rfl))));rw[aac]at h5;refine Nat.le_of_not_lt λq=>?_;have q':(n:Int) < ((ns.length:Nat):Int):=()
  first
   | (rw[aaB q']at h5;exact aaJ h5 @_)
   | (simp at h5;omega)
 cases Xq with
 | cons w1 w2=>
  cases w2;cases w1 with
  | list ho OO=>exact⟨_,_,ns,rfl,rfl,ho,qM ns _ OO,hlen⟩
def FY(l:OpenLaw)(args:List WData):l.row.toRowW.claim.post args (.bool true) args=true:=
 postW_of (r:=l.row.toRowW) (X:=(true==true))
  (show WShape.has [] (.bool true) .bool=true by first| rfl| decide| simp[WShape.has,WShape.arms,WShape.armsAll])
  (show(WTm.eq .res (.lit (.bool true))).value [] {args:=args,res:=some (.bool true),after:=args}=some (.bool (true==true)) from w_eq_bool (w_res rfl) w_lit) rfl
def AZ{l:OpenLaw}{n:Nat}{q:Program}{loose:List Str}{XP:(Str->Option Value)->Heap->Prop}{YP:World->Heap->Prop}{d:DefRec}
  (hn:l.most=some n) (Vi:d.params.defaults=[])
  (call:∀(w:World) (s₀ s₁:Shared) (mg mb:Str->Option Value) (fa:Addr) (o:Obj) (pm cd doc:Value) (a:Addr) (vs:List Value) (ns:List Int),
   Ground q loose [] XP w s₀ mg mb s₁.heap->YP w s₁.heap->
   s₁.heap.get? fa=some o->o.data= .func (docDef d.name d.params d.body d.scope pm cd doc)->s₁.heap.CodeRec cd d.name->mg d.name=some (.ref fa)->
   s₁.heap.get? a=some {cls:=.type "list",data:=.seq vs.toArray}->IntsAre vs ns->ns.length<=n->s₁.gens= #[]->
   codeAny (model l.prog w) callerA (.call (.ref fa) ⟨[.ref a],[]⟩) (λr s'=>r= .ok (.ret (.bool true))/\OldK s₁.heap s'.heap/\s'.os=s₁.os/\AllBare s'.gens) s₁):
  WalkO q loose XP YP l.row.toRowW d [] (λf vs=>PySem.call f vs):=by
 intro w s₀ s₁ mg mb G Y fa o pm cd doc dV kV ho hd Dv hD Mp hg args vals as MH aff hrd Xq hlo;obtain rfl:dV= .none:=Dflts.none hD Vi;obtain rfl:kV= .none:=Dflts.noKw hD;have⟨a,vs,ns,rfl,rfl,RB,hints,hlen⟩:=GZ hn MH Xq;refine enter_call (codeAny_mono (call w s₀ s₁ mg mb fa o pm cd doc a vs ns G Y ho (fd_plain hd) Dv Mp RB hints hlen hg) λr s' hq=>?_);have⟨rfl,h2,h3,h4⟩:=hq;exact⟨.inl ⟨.bool true,.bool true,[],rfl,λ_=>rfl,.bool true,FY l _,λ_=>⟨List.Pairwise.nil,λ_ hm=>(nomatch hm)⟩⟩,h2,h3,h4⟩
end Att
namespace L2
open PySem PySem.Spec PyProof.Rows
def v8:∀{vs:List Value} {ns:List Int},IntsAre vs ns->aC (ns.map V.int) vs
 | _,_,.nil=>.nil
 | _,_,.cons n t h=>.cons ⟨t,rfl⟩ (v8 h)
def Pf(H:Hp):Prop:=∀b,H b=none\/∃o xs,H b=some (.yS o (.lst xs))
def KI{P:Program}{w:World}{K:fI}{mg mb:Str->Option Value}{CX:Bf}{k:Nat}{fa a:Addr}{fd:FuncData}{x:Str}{sp:Sp}{s₁:Shared}{vs:List Value}{ns:List Int}
  (KX:K.In s₁.heap) (hns:s₁.heap.Ns mainGlobals mg) (hb:s₁.heap.Ns builtinsNs mb) (hbb:∀x:Str,x≠"__name__"->mb x=bootBuiltins x) (Yy:s₁.heap.NoLimit) (hg:s₁.gens= #[])
  (ha:s₁.heap.get? a=some {cls:=.type "list",data:=.seq vs.toArray}) (hi:IntsAre vs ns) (hl:ns.length<=sizeLine) (hr:bT k callerA)
  (F:∀base:Heap,K.In base->base.Ns mainGlobals mg->av P w K mg base CX k fa fd [x] sp) (Tf:∀(s:Shared) (u:Value),BindsTo s fd ⟨[u],[]⟩ [(x,u)])
  (N6:∀H:Hp,Pf H->gC K H a (ns.map V.int)->sp [.ref a] H (λv _=>v= .bl true) λ_ _ _=>False)
  (Xw:∀H e s',CX [] H s₁ (λ_ _ _=>False) e s'->False):
  codeAny (model P w) callerA (.call (.ref fa) ⟨[.ref a],[]⟩) (λr s'=>r= .ok (.ret (.bool true))/\OldK s₁.heap s'.heap/\s'.os=s₁.os/\AllBare s'.gens) s₁:=by
 have rv:=v8 hi;have WT:=hi.length
 have core:∀H:Hp,Pf H->gC K H a (ns.map V.int)->lR P w H s₁.heap->(∀b,H b≠none->b=a)->(H a≠none->K.lookup a=none)->
   codeAny (model P w) callerA (.call (.ref fa) ⟨[.ref a],[]⟩) (λr s'=>r= .ok (.ret (.bool true))/\OldK s₁.heap s'.heap/\s'.os=s₁.os/\AllBare s'.gens) s₁:=by
  intro H hO hS bb hA hK;have Dp:∀{b:Addr} {o:Obj},s₁.heap.get? b=some o->H b=none->(yG s₁.heap H).get? b=some o:=λe n=>K' e n;have SF:∀{b:Addr} {o:Obj} {es:Array DictEntry} {ep:Nat},s₁.heap.get? b=some o->o.data= .dict es ep->H b=none:=λ{b o es ep} e d=>by
   cases q:H b with
   | none=>rfl
   | some u=>
    have e':b=a:=hA b (by rw[q];simp);subst e';rw[ha]at e;cases e;have d':Data.seq vs.toArray _=Data.dict es ep:=d;cases d'
  have Vr:∀{b:Addr} {m:Str->Option Value},s₁.heap.Ns b m->(yG s₁.heap H).Ns b m:=λ{b m} ⟨o,es,ep,e,d,r⟩=>⟨o,es,ep,Dp e (SF e d),d,r⟩
  have hKb:K.In (yG s₁.heap H):=λb o e=>Dp (KX b o e) (by
   cases q:H b with
   | none=>rfl
   | some u=>
    have e':b=a:=hA b (by rw[q];simp);subst e'
    rw[hK (by rw[q];simp)]at e;cases e)
  have hM:Mod K mg (yG s₁.heap H):=⟨hKb,Vr hns,⟨mb,Vr hb,hbb⟩,let ⟨mc,h1,h2⟩:=Yy;⟨mc,Vr h1,h2⟩⟩;have e0:Ci P w K mg (yG s₁.heap H) callerA [] s₁ H:=⟨rfl,hM,λb o e=>MU e,Nat.le_of_eq (GN _ _),trivial,λb hb=>absurd (show b∈([]:List Addr) from hb) (by simp),bb,.of_eq hg⟩;refine codeAny_mono ((F _ hKb (Vr hns)).run callerA [] s₁ H ⟨[.ref a],[]⟩ [.ref a] [.ref a] _ _ hr e0 (Tf s₁ (.ref a)) (.cons rfl .nil) (N6 H hO hS)) λr s' h=>?_;cases r with
  | error e=>exact(Xw H e s' h).elim
  | ok fl=>
   cases fl with
   | next=>exact False.elim h
   | brk=>exact False.elim h
   | cont=>exact False.elim h
   | ret u=>
    have⟨v,H',os,bare,un,W_,r',q⟩:=h;have q':v= .bl true:=q;subst q';obtain rfl:u=Value.bool true:=r';refine⟨rfl,OldK.of_keep λb o e=>?_,os,bare⟩;cases q:H b with
    | none=>exact un.keep b o e q (by intro z;exact absurd (show b∈([]:List Addr) from z) (by simp)) (by simp)
    | some u=>
     rcases hO b with z| ⟨ob,xs,z⟩
     ·rw[q]at z;cases z
     ·have z2:=un.qb b ob _ z;have⟨e1,_⟩:=bb b _ z;have⟨e2,_⟩:=W_ b _ z2;rw[e]at e1;cases e1;exact e2
 cases hk:K.lookup a with
 | some o=>
  have e:=KX a o hk;rw[ha]at e;cases e;refine core (λ_=>none) (λ_=>.inl rfl) (.inr ⟨_,vs.toArray,_,hk,rfl,rfl,rfl,by rw[List.size_toArray,WT];exact hl,by simpa using rv⟩) (λb u z=>by have z':(none:Option HO)=some u:=z;cases z') (λb z=>absurd rfl z) λz=>absurd rfl z
 | none=>
  refine core (λb=>if b=a then some (.yS {cls:=.type "list",data:=.seq vs.toArray} (.lst (ns.map V.int))) else none) (λb=>?_) (.inl (.inr ⟨{cls:=.type "list",data:=.seq vs.toArray},aaw rfl⟩)) (λb u z=>?_) (λb z=>?_) λ_=>hk
  ·by_cases hb:b=a
   ·exact .inr ⟨_,_,aaw hb⟩
   ·exact .inl (aav hb)
  ·by_cases hb:b=a
   ·have z':=(aaw hb).symm.trans z;cases z';subst hb;exact⟨ha,by rw[aac];exact hl,vs,_,rv,ha⟩
   ·have z':=(aav hb).symm.trans z;cases z'
  ·by_cases hb:b=a
   ·exact hb
   ·exact aaJ (aav hb) z
def yK{l:PySem.W.OpenLaw}{n k:Nat}{q:Program}{loose:List Str}{XP:(Str->Option Value)->Heap->Prop}{YP:World->Heap->Prop}{d:DefRec}{K:Params->fI}{CX:World->Bf}{sp:World->Sp}{x:Str}
  (hn:l.most=some n) (VD:n<=sizeLine) (Vi:d.params.defaults=[]) (hr:bT k callerA)
  (hY:∀(w:World) (h:Heap),YP w h->(K w.params).In h)
  (F:∀(w:World) (mg:Str->Option Value) (fa:Addr) (h:Heap),(K w.params).In h->h.Ns mainGlobals mg->mg d.name=some (.ref fa)->
   ∃fd:FuncData,(∀(s:Shared) (u:Value),BindsTo s fd ⟨[u],[]⟩ [(x,u)])/\
    ∀base:Heap,(K w.params).In base->base.Ns mainGlobals mg->av l.prog w (K w.params) mg base (CX w) k fa fd [x] (sp w))
  (N6:∀(w:World) (H:Hp) (a:Addr) (ns:List Int),ns.length<=n->Pf H->gC (K w.params) H a (ns.map V.int)->sp w [.ref a] H (λv _=>v= .bl true) λ_ _ _=>False)
  (Xw:∀(w:World) (H:Hp) (s:Shared) (e:Value) (s':Shared),CX w [] H s (λ_ _ _=>False) e s'->False):
  PySem.W.WalkO q loose XP YP l.row.toRowW d [] (λf vs=>PySem.call f vs):=by
 refine Att.AZ hn Vi λw s₀ s₁ mg mb fa o pm cd doc a vs ns G Y ho hd Dv Mp RB hints hlen hg=>?_;have KX:=hY w _ Y;have⟨fd,hb,hF⟩:=F w mg fa _ KX G.T.g Mp;exact KI KX G.T.g G.T.b G.T.builtins G.T.nolimit hg RB hints (aas hlen VD) hr hF hb (λH hO hS=>N6 w H a ns hlen hO hS) λH e s'=>Xw w H s₁ e s'
end L2
/- THE Wv LP (shape;LID,My.* are T5):
  My.Adr:a structure of NH addresses Xc Yw SS names (classes,FK);My.Txt K t:a structure (Prop) of NH equations qN K;
  My.CI:{K} {implicit addresses ..} (e1:nsIn K mainGlobals "law"=some (some (.ref f))) (e2:K.lookup f=some ⟨oc,od,.func (fnOf "law" "law" params body scope dV kV doc pm an aX ct),sl⟩) (e3:codeIn K aX "law"=true) .. :∃t,My.Txt K t
set_option maxRecDepth 100000 in
set_option maxHeartbeats 0 in
def PySem.Challenge.cw_LID_holds : PySem.Challenge.rw_LID.Holds := by
 w_on;o_law;k_head;(case hw=>w_witness2)
 k_fill
 refine L2.yK (l:=PySem.Challenge.rw_LID) (n:=63) (k:=40) (x:="script") (CX:=fun w=>..) (sp:=fun _=>My.Rn) rfl @_ rfl ⟨rfl,@_,@_⟩ (fun w h Y=>PySem.W.kIn_of Y) ?F ?S ?C
 case F=>
  intro w mg fa h KX G Mp;have T:∃t,My.Txt (L2.XJ KX) t:=by
   dsimp only[L2.XJ]
   refine' My.CI ?e1 ?e2 ?e3 ..
   (case e1=>PySem.W.k_is)
   (case e2=>PySem.W.k_is)
   ..
  have⟨t,T⟩:=T;have e0:=Mp.symm.trans (PySem.W.mg_of KX G T.law);cases e0;exact⟨_,λs u=>.of_eq rfl,λbase kb nb=>My.Cv T kb nb⟩
 case S=>exactλw H a ns hl hO hS=>..
 case C=>exact ..
(NH tactic k_is has no namespace:write k_is) -/
namespace L2
open PySem PySem.Spec PyProof.Rows
variable{P:Program}{w:World}{mg:Str->Option Value}{base:Heap}{x qual:Str}{st:Stmt}{f C:Addr}{fd:FuncData}{ps N xs ys:List Str}{A:Around}{E:Value->Shared->Prop}{s:Shared}{env:Env}{outer:List Env}{X:Cx}{ζ:List (Addr×Obj)}{scope sc:Scope}{Ω:List Nat}
def gz(s:Stmt):Arguments:=match s with
 | .FunctionDef _ a _ _ _ _ _ _ _ _=>a
 | _=>{posonlyargs:=[],args:=[],vararg:=none,kwonlyargs:=[],kw_defaults:=[],kwarg:=none,defaults:=[]}
def dY(s:Stmt):List Stmt:=match s with
 | .FunctionDef _ _ b _ _ _ _ _ _ _=>b
 | _=>[]
def τ(s:Stmt):Scope:=match s with
 | .FunctionDef _ _ _ _ _ _ sc _ _ _=>sc
 | _=>{kind:=.function,names:=[],isGenerator:=false,isCoroutine:=false}
abbrev VR:Bf:=λ_ _ _ _ _ _=>False
abbrev E0:XK:=λ_ _ _=>False
structure cX(K:fI)(x qual:Str)(st:Stmt)(f:Addr)(fd:FuncData):Prop where
 ex:∃(oc:Value) (od:Option Addr) (kV doc pm:Value) (an:Option Addr) (aX ct:Value) (Be:Array (Option Value)),
  fd=PySem.W.fnOf x qual (gz st) (dY st) (τ st) .none kV doc pm an aX ct/\K.lookup f=some ⟨oc,od,.func fd,Be⟩/\PySem.W.codeIn K aX qual=true
 kp:PySem.W.keepIn K (.ref f)=true
section
variable{K:fI}
def cX.binds(F:cX K x qual st f fd)
  (h:∀(kV doc pm:Value) (an:Option Addr) (aX ct:Value) (us:List Value),us.length=ps.length->bindArgs (PySem.W.fnOf x qual (gz st) (dY st) (τ st) .none kV doc pm an aX ct) ⟨us,[]⟩=pure (ps.zip us)):iq K fd ps []:=by
 have⟨oc,od,kV,doc,pm,an,aX,ct,Be,rfl,lk,Dv⟩:=F.ex;exact .all (h kV doc pm an aX ct)
def Kv{oc:Value}{od an:Option Addr}{Be:Array (Option Value)}{kV doc pm aX ct:Value}(l:K.lookup f=some ⟨oc,od,.func (PySem.W.fnOf x qual (gz st) (dY st) (τ st) .none kV doc pm an aX ct),Be⟩)
  (c:PySem.W.codeIn K aX qual=true) (k:PySem.W.keepIn K (.ref f)=true):cX K x qual st f (PySem.W.fnOf x qual (gz st) (dY st) (τ st) .none kV doc pm an aX ct):=⟨⟨oc,od,kV,doc,pm,an,aX,ct,Be,rfl,l,c⟩,k⟩
end
def DP{k:Nat}(hr:bT k A):A.units+1 < cLine:=aaV (Nat.add_le_add_left (by decide:1<=64) _) hr.units
def Hj{A B:Prop}(h:B):if false=true then A else B:=by rw[aav aaD];exact h
def Fx{A B:Prop}(h:A):if true=true then A else B:=by rw[aaw rfl];exact h
def ef(H H':Hp):Prop:=∀b o,H b=some o->H' b=some o
def ef.refl(H:Hp):ef H H:=λ_ _ h=>h
def ef.trans{H H1 H2:Hp}(a:ef H H1)(b:ef H1 H2):ef H H2:=λc o h=>b c o (a c o h)
def ef.free{H H':Hp}(e:ef H H'){l:Addr}(h:H' l=Option.none):H l=Option.none:=by
 cases q:H l with
 | none=>rfl
 | some o=>
  rw[e l o q]at h;cases h
def ef.seq{K:fI}{H H':Hp}{a:Addr}{xs:List V}(e:ef H H')(h:gC K H a xs):gC K H' a xs:=by
 rcases h with (h| ⟨o,h⟩)| h
 ·exact .inl (.inl (e _ _ h))
 ·exact .inl (.inr ⟨o,e _ _ h⟩)
 ·exact .inr h
section
def MW(B:Heap)(l:List Env)(x:Addr)(o:Obj)(fl:Value)(h:Heap):Prop:=
 B.StaysIn h/\B.get? x=none/\h.FunFrames B l/\∃(vs:Array Value) (T:Addr) (oT:Obj) (ts:Array Value),h.get? x=some {o with data:=.fields vs}/\vs[2]? =some .none/\vs[1]? =some (.ref T)/\
  B.get? T=none/\T≠x/\h.get? T=some oT/\oT.data= .fields ts/\ts[3]? =some fl
section
variable{M:Model}{B:Heap}{l:List Env}{L x:Addr}{o:Obj}{vs:Array Value}{Q:Unit->Shared->Prop}
def tO{h h':Heap}{T:Addr}{oT:Obj}{ts:Array Value}(hT:h.get? T=some oT)(hd:oT.data= .fields ts)(k:∀b,b≠T->h'.get? b=h.get? b):h.UpToSlots h':=λb ob e hn=>
 ⟨ob.slots,(k b λz=>by rw[z,hT]at e;cases e;exact hn _ hd).trans e⟩
def vw{h h':Heap}(hl:h.FunFrames B l)(u:h.UpToSlots h'):h'.FunFrames B l:=hl.of_keeps λb ob e hn=>by have⟨sl,q⟩:=u b ob e hn;exact⟨_,q,rfl⟩
def HQ{head:Value}{VX:Bool}(Wc:A.frames=some (env::outer))(hf:env.frame=some L)(hB:B.StaysIn s.heap)(hn:B.get? x=none)(hl:s.heap.FunFrames B (env::outer))(hx:s.heap.get? x=some {o with data:=.fields vs})(h1:1 < vs.size)(h2:vs[2]? =some .none)
  (h:∀h',MW B (env::outer) x o (rawInt L) h'->s.heap.UpToSlots h'->Q Unit.unit {s with heap:=h'}):
  wpAny M A (do let a<-frameOf env;let pl<-entryPlaceOf L VX;let n<-EntryCells.newEntry head a .none (rawInt L) .none pl;setField (.ref x) 1 n) Q E s:=by
 refine aaH (wpAny_frameOf_fun Wc hl hf λg1 S1=>aaH (wpAny_entryPlaceOf λpl gy=>?_));have nx:x∉(env::outer).filterMap (·.frame):=λz=>by have⟨_,ob,e,d⟩:=hl.mem z;rw[hx]at e;cases e;exact d _ rfl
 have hx1:g1.get? x=some {o with data:=.fields vs}:=(S1.2.1 x nx).trans hx;unfold EntryCells.newEntry newFields;refine aaH (wpAny_newObj_type ?_ (gy.sizeOk5 _ _ _ _ _));have hx2:=aak (h:=g1) {cls:=.type "traceback",dict:=none,data:=.fields ([head,.ref L,.none,rawInt L,.none]++(if pl.isEmpty then List.replicate 6 Value.none else pl)).toArray} hx1;refine wpAny_setField hx2 rfl h1 (h _ ?_ ?_)
 ·have up1:∀b ob,b≠x->g1.get? b=some ob->((g1.push {cls:=.type "traceback",dict:=none,data:=.fields ([head,.ref L,.none,rawInt L,.none]++(if pl.isEmpty then List.replicate 6 Value.none else pl)).toArray}).update x (Obj.mapFields (·.setIfInBounds 1 (Value.ref g1.objs.size)))).get? b=some ob:=λb ob nb e=>
   (Heap.get?_update_other _ _ (Ne.symm nb)).trans (aak _ e)
  have neT:g1.objs.size≠x:=acI (aar hx1)
  refine⟨λb ob e=>up1 b ob (λz=>by rw[z,hn]at e;cases e) ((S1.2.1 b λz=>by rw[(hl.mem z).1]at e;cases e).trans (hB b ob e)),hn,hl.of_keeps λb ob e d=>?_,vs.setIfInBounds 1 (.ref g1.objs.size),g1.objs.size,_,_,Heap.get?_update_self _ hx2 rfl,by rw[Array.getElem?_setIfInBounds_ne @_];exact h2,by simp[h1],?_,neT,
   (Heap.get?_update_other _ _ (Ne.symm neT)).trans (aaS g1 rfl),rfl,?_⟩
  ·have⟨sl,q⟩:=S1.2.2 b ob e;exact⟨_,up1 b _ (λz=>by rw[z,hx]at e;cases e;exact d _ rfl) q,rfl⟩
  ·cases q:B.get? g1.objs.size with
   | none=>rfl
   | some ob=>
    have:=aar (hB _ _ q);rw[<-S1.1]at this;exact aaJ this (abq _)
  ·first
    | (simp;done)
    | (rcases gy with rfl| ⟨_,_,_,_,_,_,_,rfl⟩ <;> simp)
 ·intro b ob e d;have⟨sl,q⟩:=S1.2.2 b ob e;refine⟨sl,?_⟩;rw[Heap.get?_update_other _ _ (λz:x=b=>by rw[<-z,hx]at e;cases e;exact d _ rfl)];exact aak _ q
def Uo(Wc:A.frames=some (env::outer))(hf:env.frame=some L)(R:MW B (env::outer) x o .none s.heap)
  (h:∀h',MW B (env::outer) x o (rawInt L) h'->s.heap.UpToSlots h'->Q Unit.unit {s with heap:=h'}):wpAny M A (noteFrame (.ref x) env) Q E s:=by
 have⟨hB,hn,hl,vs,T,oT,ts,hx,h2,h1,nT,VE,hT,dT,h3⟩:=R;unfold noteFrame;simp only[hf];refine aaH (wpAny_field hx rfl h1 ?_);rw[if_pos (show(Value.ref T != Value.none)=true by simp)];refine aaH (wpAny_field hT dT h3 ?_);rw[if_neg (show¬((Value.none==rawInt L)=true) by simp[rawInt])];refine aaH (wpAny_setField hT dT (acf.mp h3).1 ?_);have Lq:∀b,b≠T->(s.heap.update T (Obj.mapFields (·.setIfInBounds 3 Value.none))).get? b=s.heap.get? b:=λb nb=>Heap.get?_update_other _ _ (Ne.symm nb);have u:=tO hT dT Lq;exact HQ Wc hf (λb ob e=>(Lq b λz=>by rw[z,nT]at e;cases e).trans (hB b ob e)) hn (vw hl u) ((Lq x (Ne.symm VE)).trans hx) (acf.mp h1).1 h2 λh' F' u'=>h h' F' (u.trans u')
def Nn{fl:Value}(R:MW B l x o fl s.heap)(h:∀h',MW B l x o .none h'->s.heap.UpToSlots h'->Q Unit.unit {s with heap:=h'}):wpAny M A (setFlight (.ref x) none) Q E s:=by have⟨hB,hn,hl,vs,T,oT,ts,hx,h2,h1,nT,VE,hT,dT,h3⟩:=R;unfold setFlight;refine aaH (wpAny_field hx rfl h1 ?_);rw[if_pos (show(Value.ref T != Value.none)=true by simp)];have z3:=(acf.mp h3).1;have Lq:∀b,b≠T->(s.heap.update T (Obj.mapFields (·.setIfInBounds 3 ((none:Option Addr).elim Value.none λf=>rawInt f)))).get? b=s.heap.get? b:=λb nb=>Heap.get?_update_other _ _ (Ne.symm nb);have u:=tO hT dT Lq;refine wpAny_setField hT dT z3 (h _ ⟨λb ob e=>(Lq b λz=>by rw[z,nT]at e;cases e).trans (hB b ob e),hn,vw hl u,vs,T,_,_,(Lq x (Ne.symm VE)).trans hx,h2,h1,nT,VE,Heap.get?_update_self _ hT (Obj.isFreed_of_fields (Obj.data_mapFields dT _)),Obj.data_mapFields dT _,by simp[z3]⟩ u)
def QY{fl:Value}{h:Heap}(R:MW B (env::outer) x o fl h):MW B outer x o fl h:=by have⟨hB,hn,⟨_,_,hl⟩,r⟩:=R;exact⟨hB,hn,hl,r⟩
end
structure Vq(P:Program)(w:World)(l:List Env)(H H':Hp)(h h' B:Heap)(x:Addr)(o:Obj):Prop where
 un:Un (qF l) [] H H' h h'
 ok:lR P w H' B
 R8:MW B l x o .none h'
 Bg:∀b u,h.get? b=some u->H b=none->b∉qF l->B.get? b=some u
 U8:∀b u,h.get? b=some u->b∉qF l->∃u',B.get? b=some u'
variable{l:List Env}{H H':Hp}{h h' VA B:Heap}{x:Addr}{o:Obj}
end
def bY(P:Program)(w:World):Bf:=λouter H s E e s'=>
 ∃x o H' B,e= .ref x/\s'.os=s.os/\AllBare s'.gens/\Vq P w outer H H' s.heap s'.heap B x o/\E o.cls o.dict H'
section
variable{σ:St}{H H':Hp}{VA B:Heap}{x:Addr}{ox:Obj}
def Vq.leave(I:Inv X ζ σ H s)(hex:X.ex=[])(Rz:∀b∈qF X.outer,b∈qF X.stack)(ok:lR X.prog X.w H' B)(f:MW B X.outer x ox .none VA)(nx0:X.s₀.heap.get? x=none)
  (Bg:∀b o,b≠x->s.heap.get? b=some o->H b=none->b∉qF X.stack->B.get? b=some o)
  (U8:∀b o,b≠x->s.heap.get? b=some o->b∉qF X.stack->∃o',B.get? b=some o')
  (sl:∀b o,s.heap.get? b=some o->b∈qF X.stack->∃sl,VA.get? b=some {o with slots:=sl})
  (free:∀b o,s.heap.get? b=some o->H b=none->H' b=none)
  (qC:∀b xs,H b=some (.tup xs)->H' b=some (.tup xs)) (qb:∀b o u,H b=some (.yS o u)->H' b=some (.yS o u))
  (qG:∀b ps,H b=some (.LR ps)->∃more,H' b=some (.LR (ps++more))):Vq X.prog X.w X.outer X.H₀ H' X.s₀.heap VA B x ox:=by
 have nX:∀b o,X.s₀.heap.get? b=some o->b≠x:=λb o e z=>by rw[z,nx0]at e;cases e
 have lT:∀b:Addr,b∉X.ex:=λb z=>by rw[hex]at z;cases z
 have nS:∀b o,X.s₀.heap.get? b=some o->b∉qF X.outer->b∉qF X.stack:=λb o e hb z=>
  (aaC.mp (I.xv b z)).elim (λq=>aaY (aau (aar e) I.ok.above) q) hb
 refine⟨⟨λb o e n hb _=>?_,λb o e n hb _=>?_,λb o e n _=>?_,λb o e _=>?_,λb xs e=>qC b xs (I.base.qC b xs e),λb o u e=>qb b o u (I.base.qb b o u e),λb ps e=>?_⟩,ok,f,λb o e n hb=>?_,λb o e hb=>?_⟩
 ·exact f.1 b o (Bg b o (nX b o e) (I.base.keep b o e n hb (lT b)) (I.base.free b o e n (lT b)) (nS b o e hb))
 ·have⟨s1,e1⟩:=I.base.slot b o e n hb (lT b);have⟨s2,e2⟩:=sl b _ e1 (Rz b hb);exact⟨s2,e2⟩
 ·have⟨o',e1⟩:=I.base.there b o e (lT b);exact free b o' e1 (I.base.free b o e n (lT b))
 ·have⟨o',e1⟩:=I.base.there b o e (lT b);by_cases hb:b∈qF X.stack
  ·have⟨s2,e2⟩:=sl b _ e1 hb;exact⟨_,e2⟩
  ·have⟨o2,q⟩:=U8 b o' (nX b o e) e1 hb;exact⟨o2,f.1 _ _ q⟩
 ·have⟨m1,e1⟩:=I.base.qG b ps e;have⟨m2,e2⟩:=qG b _ e1;exact⟨m1++m2,by rw[e2,Array.append_assoc]⟩
 ·exact Bg b o (nX b o e) (I.base.keep b o e n hb (lT b)) (I.base.free b o e n (lT b)) (nS b o e hb)
 ·have⟨o',e1⟩:=I.base.there b o e (lT b);exact U8 b o' (nX b o e) e1 (nS b o e hb)
end
def df(CX:Bf)(X:Cx)(R:St->XK):Prop:=∀(ζ:List (Addr×Obj)) (σ:St) (H:Hp) (s:Shared) (e:Value) (s':Shared),Inv X ζ σ H s->CX X.stack H s (R σ) e s'->X.xe e s'
section
variable{K:fI}{cd:Value}{s₀:Shared}{H₀:Hp}{E:XK}
def LK:∀b∈qF outer,b∈qF (env::outer):=λb hb=>by have⟨en,he,hf⟩:=acv.mp hb;exact acv.mpr ⟨en,aad _ he,hf⟩
def ξ:df (bY P w) (uV (bY P w) P w K mg base N qual scope f cd A outer s₀ H₀ E) (λ_=>E):=by
 intro ζ σ H s e s' I hx;have⟨x,o,H',B,rfl,os,bare,F,hE⟩:=hx;show wpAny _ _ (do noteFrame (.ref x) _;setFlight (.ref x) none) _ _ s';refine aaH (Uo (B:=B) I.ok.frames rfl F.R8 λh4 f4 u4=>Nn f4 λh5 f5 u5=>?_);refine⟨x,o,H',B,rfl,os.trans I.os,bare,Vq.leave I rfl LK F.ok (QY f5) ?_ (λb o _=>F.Bg b o) (λb o _=>F.U8 b o) (λb o q hb=>?_) (λb o q n=>F.un.free b o q n (by simp)) F.un.qC F.un.qb F.un.qG,hE⟩
 ·show s₀.heap.get? x=none;cases q:s₀.heap.get? x with
  | none=>rfl
  | some u=>
   have⟨u',e1⟩:=I.base.there x u q (λz=>nomatch z);by_cases hb:x∈qF (uV (bY P w) P w K mg base N qual scope f cd A outer s₀ H₀ E).stack
   ·have⟨vs,_,_,_,hxx,_⟩:=F.R8.2.2.2;have⟨_,o',FP,hd⟩:=F.R8.2.2.1.mem hb;rw[hxx]at FP;cases FP;exact aaJ rfl (hd _)
   ·have⟨u2,e2⟩:=F.U8 x u' e1 hb;rw[F.R8.2.1]at e2;cases e2
 ·have⟨sl,e1⟩:=F.un.slot b o q (I.xI b hb) hb (by simp);have⟨_,o',FP,hd⟩:=F.R8.2.2.1.mem hb;rw[e1]at FP;cases FP;have⟨Vz,e2⟩:=(u4.trans u5) b _ e1 hd;exact⟨Vz,e2⟩
end
def Pa(sp:Sp)(oy:List V)(R:St->XK)(t:TA):TE:=λσ H Q=>t σ H λvs H1=>sp (vs++oy) H1 Q (R σ)
section
variable{CX:Bf}{k:Nat}{sp:Sp}{oy:List V}{ds:List Value}{R:St->XK}{p pos:Pos}{e:Expr}{es:List Expr}{t:TA}
def yy{σ:St}{H:Hp}{Q:VK}{us:List Value}{vs:List V}(F:av X.prog X.w X.K X.mg X.base CX k f fd ps sp)(hr:bT k X.A)(hb:iq X.K fd ps ds)(hd:aC oy ds)(hx:df CX X R)
  (I:Inv X ζ σ H s) (r:aC vs us) (h:sp (vs++oy) H Q (R σ)):wpAny (model X.prog X.w) X.A (call (.ref f) us) (EP X ζ σ Q) X.xe s:=by
 have r2:aC (vs++oy) (us++ds):=r.append hd;have hl:(us++ds).length=ps.length:=by rw[<-r2.length];exact F.len _ _ _ _ h
 refine wpAny_call (codeAny_mono (F.run X.A X.stack s H ⟨us,[]⟩ (us++ds) (vs++oy) Q (R σ) hr I.S' (hb s us I.qy hl) r2 h) λr s' hq=>?_);cases r with
 | error e=>exact hx ζ σ H s e s' I hq
 | ok fl=>
  cases fl with
  | ret u=>exact I.after hq
  | next=>exact False.elim hq
  | brk=>exact False.elim hq
  | cont=>exact False.elim hq
def zS(F:av X.prog X.w X.K X.mg X.base CX k f fd ps sp)(hr:bT k X.A)(hg:Gl X x)(hm:X.mg x=some (.ref f))(hk:PySem.W.keepIn X.K (.ref f)=true)(hb:iq X.K fd ps ds)(hd:aC oy ds)(hx:df CX X R)
  (ha:PA X (e::es) t) (uR:(x==("__debug__":Str))=false:=by decide) (he:starEach (e::es) X.env=(false,eval e X.env)::starEach es X.env:=by rfl) (gy:(backTo pos (starEach es X.env)).any (·.1)=false:=by rfl):
  PE X (.Call (.Name x p) (e::es) [] pos) (Pa sp oy R t):=by
 intro ζ s σ H Q I h;refine wpAny_Call_Name_kw (rA I hg hm ?_ uR);refine PySem.W.callWith_K (h₀:=X.base) I.ok.mod.TZ hk (bH (ha pos ζ s σ H _ I h) fun us s1 ⟨vs,H1,I1,r,q⟩=>⟨I1.qy,?_⟩) he gy;exact yy F hr hb hd hx I1 r q
end
def kD(env:Env):List (Str×NameKind)->List (Str×Addr)->List (Str×Addr)
 | [],Η=>Η
 | p::r,Η=>kD env r (if p.2== .free then (p.1,(env.cells.lookup p.1).getD 0)::Η else Η)
def uq(h:∀p∈scope.names,p.2= .free->(env.cells.lookup p.1).isSome=true):closureFor scope env=pure (kD env scope.names []):=by
 have key:∀(l:List (Str×NameKind)) (Η:List (Str×Addr)),(∀p∈l,p.2= .free->(env.cells.lookup p.1).isSome=true)->
   (forIn l Η (λ(p:Str×NameKind) (r:List (Str×Addr))=>(if p.2== .free then (do let c<-cellOf env p.1;pure (ForInStep.yield ((p.1,c)::r))) else pure (ForInStep.yield r):Sem (ForInStep (List (Str×Addr))))))=(pure (kD env l Η):Sem (List (Str×Addr))):=by
  intro l
  induction l with
  | nil=>intro Η _;rfl
  | cons p r ih=>
   intro Η hp;rw[List.forIn_cons];have ih':=λa=>ih a λq hq=>hp q (aad _ hq);have⟨n,k⟩:=p;by_cases hk:k= .free
   ·subst hk;have hs:=hp (n,.free) aae rfl;cases hl:env.cells.lookup n with
    | none=>rw[show env.cells.lookup (n,NameKind.free).1=none from hl]at hs;cases hs
    | some c=>
     have e1:kD env ((n,.free)::r) Η=kD env r ((n,c)::Η):=by show kD env r (if (NameKind.free==NameKind.free)=true then (n,(env.cells.lookup n).getD 0)::Η else Η)=_;rw[aaw @_,hl];rfl
     have e2:cellOf env n=pure c:=by unfold cellOf;rw[hl]
     rw[e1];have e3:(NameKind.free==NameKind.free)=true:=@_
     simp only[e3,if_true,e2,pure_bind];exact ih' _
   ·have hb:(k==NameKind.free)=false:=by simpa using hk
    have e1:kD env ((n,k)::r) Η=kD env r Η:=by show kD env r (if (k==NameKind.free)=true then (n,(env.cells.lookup n).getD 0)::Η else Η)=_;rw[hb,aav @_]
    rw[e1];simp only[hb,Bool.false_eq_true,if_false,pure_bind];exact ih' _
 have:=key scope.names [] h;unfold closureFor
 first
  | exact this
  | (simp only[bind_pure];exact this)
  | (rw[bind_pure];exact this)
def vK{env:Env}{y:Str}{c:Addr}:∀(l:List (Str×NameKind)) (Η:List (Str×Addr)),(∀p∈l,p.2= .free->(env.cells.lookup p.1).isSome=true)->
  (Η.lookup y=some c->env.cells.lookup y=some c)->(kD env l Η).lookup y=some c->env.cells.lookup y=some c
 | [],Η,_,ha,h=>ha h
 | (n,k)::r,Η,hp,ha,h=>by
  refine vK r _ (λq hq=>hp q (aad _ hq)) (λe=>?_) h;split at e
  ·rename_i hk;rw[abo]at e;cases q:(y==n) with
   | true=>
    rw[q]at e;have e':(env.cells.lookup n).getD 0=c:=aax e;have hn:y=n:=by simpa using q
    subst hn;have hs:=hp (y,k) List.mem_cons_self (by simpa using hk);cases z:env.cells.lookup y with
    | none=>rw[show env.cells.lookup (y,k).1=none from z]at hs;cases hs
    | some d=>rw[z]at e';rw[<-e'];rfl
   | false=>rw[q]at e;exact ha e
  ·exact ha e
def rP{env:Env}{y:Str}:∀(l:List (Str×NameKind)) (Η:List (Str×Addr)),((y,NameKind.free)∈l\/(Η.lookup y).isSome=true)->((kD env l Η).lookup y).isSome=true
 | [],Η,h=>by
  rcases h with h| h
  ·cases h
  ·exact h
 | (n,k)::r,Η,h=>by
  refine rP r _ ?_;by_cases hy:y=n
  ·subst hy;by_cases hk:k= .free
   ·subst hk;right;show(List.lookup y (if (NameKind.free==NameKind.free)=true then (y,(env.cells.lookup y).getD 0)::Η else Η)).isSome=true;rw[aaw @_,abo,ack];rfl
   ·rcases h with h| h
    ·rcases aaC.mp h with z| z
     ·exact aaJ (Prod.mk.inj z).2.symm hk
     ·exact .inl z
    ·right;rw[if_neg (by simpa using hk)];exact h
  ·rcases h with h| h
   ·rcases aaC.mp h with z| z
    ·exact aaJ (Prod.mk.inj z).1 hy
    ·exact .inl z
   ·right;split
    ·rw[List.lookup_cons,show(y==n)=false by simpa using hy];exact h
    ·exact h
def oF:∀(l:List (Str×NameKind)) (n:Nat) (Η:List (Str×Addr)),cellsFrom n l Η=cellsFrom n l []++Η
 | [],_,_=>rfl
 | (nm,k)::r,n,Η=>by
  unfold cellsFrom;split
  ·rw[oF r (n+1) ((nm,n)::Η),oF r (n+1) [(nm,n)],aaO];rfl
  ·exact oF r n Η
def CS:∀(l:List (Str×NameKind)) (n:Nat) (Η:List (Str×Addr)) (z:Str) (c:Addr),(z,c)∈cellsFrom n l Η->(z,NameKind.cell)∈l\/(z,c)∈Η
 | [],_,_,_,_,h=>.inr h
 | (nm,k)::r,n,Η,z,c,h=>by
  unfold cellsFrom at h;split at h
  ·rename_i hk;have hk:k= .cell:=by simpa using hk
   rcases CS r _ _ z c h with q| q
   ·exact .inl (aad _ q)
   ·rcases aaC.mp q with q| q
    ·cases q;subst hk;exact .inl aae
    ·exact .inr q
  ·rcases CS r _ _ z c h with q| q
   ·exact .inl (aad _ q)
   ·exact .inr q
def E8{z:Str}:∀{l:List (Str×Addr)} {c:Addr},(z,c)∈l->(l.lookup z).isSome=true
 | (n,d)::r,c,h=>by
  rw[abo];by_cases e:z=n
  ·subst e;rw[ack];rfl
  ·rw[show(z==n)=false by simpa using e];rcases aaC.mp h with q| q
   ·exact aaJ (Prod.mk.inj q).1 e
   ·exact E8 q
def C4:∀(l:List (Str×NameKind)) (n:Nat) (Η:List (Str×Addr)) (z:Str),((z,NameKind.cell)∈l\/∃c,(z,c)∈Η)->∃c,(z,c)∈cellsFrom n l Η
 | [],_,_,_,h=>by
  rcases h with h| h
  ·cases h
  ·exact h
 | (nm,k)::r,n,Η,z,h=>by
  unfold cellsFrom;split
  ·rename_i hk;refine C4 r _ _ z ?_;rcases h with h| ⟨c,h⟩
   ·rcases aaC.mp h with q| q
    ·cases q;exact .inr ⟨n,aae⟩
    ·exact .inl q
   ·exact .inr ⟨c,aad _ h⟩
  ·rename_i hk;refine C4 r _ _ z ?_;rcases h with h| h
   ·rcases aaC.mp h with q| q
    ·cases q;exact aaJ @_ hk
    ·exact .inl q
   ·exact .inr h
def dF{env:Env}:∀{names:List (Str×NameKind)} {x:Str},names.lookup x=some .cell->
  (names.map λ(n,k)=>if (k==NameKind.free&&env.scope.kind== .function&&env.kindOf n==some .cell) then (n,NameKind.cell) else (n,k)).lookup x=some .cell
 | [],_,h=>by simp at h
 | (n,k)::r,x,h=>by
  have ih:=@dF env r x;show List.lookup x ((if (k==NameKind.free&&env.scope.kind== .function&&env.kindOf n==some .cell)=true then (n,NameKind.cell) else (n,k))::_)=_;cases hx:x==n with
  | true=>
   simp only[List.lookup_cons,hx]at h;cases h;simp[List.lookup_cons,hx]
  | false=>
   simp only[List.lookup_cons,hx]at h;by_cases hc:(k==NameKind.free&&env.scope.kind== .function&&env.kindOf n==some .cell)=true
   ·rw[if_pos hc];simp only[List.lookup_cons,hx];exact ih h
   ·rw[if_neg hc];simp only[List.lookup_cons,hx];exact ih h
def DC{env:Env}{y:Str}:∀{l:List (Str×NameKind)},
  ((l.map λ(n,k)=>if (k==NameKind.free&&env.scope.kind== .function&&env.kindOf n==some .cell) then (n,NameKind.cell) else (n,k)).lookup y=some .cell\/
   (l.map λ(n,k)=>if (k==NameKind.free&&env.scope.kind== .function&&env.kindOf n==some .cell) then (n,NameKind.cell) else (n,k)).lookup y=some .free)->(y,NameKind.free)∈l\/(y,NameKind.cell)∈l
 | [],h=>by rcases h with h| h <;> cases h
 | (n,k)::r,h=>by
  have ih:=@DC env y r;rw[aaM]at h;have go:∀{p:Prop},((y,NameKind.free)∈r\/(y,NameKind.cell)∈r)->((y,NameKind.free)∈(n,k)::r\/(y,NameKind.cell)∈(n,k)::r):=λq=>q.elim (λq=>.inl (aad _ q)) λq=>.inr (aad _ q);by_cases q:(k==NameKind.free&&env.scope.kind== .function&&env.kindOf n==some .cell)=true
  ·have hk:k= .free:=by rw[aaz,aaz]at q;simpa using q.1.1
   subst hk;by_cases hy:y=n
   ·subst hy;exact .inl aae
   ·refine go (p:=True) (ih ?_);have hb:(y==n)=false:=by simpa using hy
    simp only[q,if_true,List.lookup_cons,hb]at h;exact h
  ·by_cases hy:y=n
   ·subst hy;have hb:(y==y)=true:=by simp
    simp only[q,Bool.false_eq_true,if_false,List.lookup_cons,hb]at h;rcases h with h| h
    ·rw[<-aax h];exact .inr aae
    ·rw[<-aax h];exact .inl aae
   ·refine go (p:=True) (ih ?_);have hb:(y==n)=false:=by simpa using hy
    simp only[q,Bool.false_eq_true,if_false,List.lookup_cons,hb]at h;exact h
def iT{M:Model}{globals:Addr}{closure:List (Str×Addr)}{func:Option Addr}{code:Value}{outer:Env}{builtins:Addr}{Q:Env->Shared->Prop}
  (hQ:Q (newEnv scope s.heap.objs.size globals (cellsFrom (s.heap.objs.size+1) scope.names closure) qual func code (some outer) builtins) {s with heap:=pushCells (s.heap.push {cls:=.type "dict",data:=.dict #[]}) scope.names}):
  wpAny M A (newFunctionEnv scope globals closure [] qual func code (some outer) builtins) Q E s:=by
 simp only[newFunctionEnv,Option.isSome_some,if_true];refine aaH (wpAny_alloc ?_);refine wpAny_bind (wpAny_layCells _ (λname kind cells=>by cases X2:kind==NameKind.cell <;> simp[X2]) _ _ _ _ ?_);rw[show({s with heap:=s.heap.push {cls:=.type "dict",data:=.dict #[]}}:Shared).heap.objs.size=s.heap.objs.size+1 from Heap.size_push ..];rw[List.forIn_nil];exact aaH (aba (aba hQ))
abbrev xR(X:Cx)(scope:Scope)(C:Addr):List (Str×Addr):=cellsFrom (C+1) scope.names (kD X.env scope.names [])
def Cx.comp(X:Cx)(Nc:List Str)(scope:Scope)(C:Addr)(s:Shared)(H:Hp)(fp:List Addr):Cx:={X with
 N:=Nc
 s₀:=s
 H₀:=H
 env:=compEnvC scope (xR X scope C) C X.env
 outer:=X.stack
 ex:=fp
 fn:=λz=>scope.names.lookup z==some .cell
 pn:=[]
 xe:=λ_ _=>False}
def Ε.of{P:List Str}(h:(sc.kind,sc.isCoroutine,sc.isGenerator)=(.function,false,false))(h2:N.Nodup/\N.take P.length=P/\(∀x∈P,sc.names.lookup x=some .local\/sc.names.lookup x=some .cell)/\(∀y∈sc.names,y.2≠ .free):=by decide+kernel):Ε N P sc:=by have⟨a,b,c,d⟩:=h2;exact⟨aaX (·.1) h,aaX (·.2.1) h,aaX (·.2.2) h,a,b,c,d⟩
structure Φ(X:Cx)(scope:Scope)(xs ys:List Str)(Ω:List Nat):Prop where
 kind:scope.kind= .function
 cells:∀p∈scope.names,p.2= .cell->scope.names.lookup p.1=some .cell
 names:∀p∈scope.names,p.2= .local->scope.names.lookup p.1=some .local
 own:∀x∈xs,scope.names.lookup x=some .local\/scope.names.lookup x=some .cell
 free:∀p∈scope.names,p.2= .free->X.env.scope.names.lookup p.1=some .cell
 nd:(xs++ys).Nodup
 cap:∀q∈ys.zip Ω,X.N[q.2]? =some q.1/\X.env.scope.names.lookup q.1=some .cell/\scope.names.lookup q.1=some .free
 len:ys.length=Ω.length
def Φ.of(_:Ε N ps sc)(hN:X.N=N)(hs:X.env.scope=sc)(k:scope.kind= .function)(h:(∀p∈scope.names,p.2= .cell->scope.names.lookup p.1=some .cell)/\(∀p∈scope.names,p.2= .local->scope.names.lookup p.1=some .local)/\(∀x∈xs,scope.names.lookup x=some .local\/scope.names.lookup x=some .cell)/\(∀p∈scope.names,p.2= .free->sc.names.lookup p.1=some .cell)/\(xs++ys).Nodup/\(∀q∈ys.zip Ω,N[q.2]? =some q.1/\sc.names.lookup q.1=some .cell/\scope.names.lookup q.1=some .free)/\ys.length=Ω.length:=by decide+kernel):Φ X scope xs ys Ω:=by subst hN hs;have⟨a,b,c,d,e,f,g⟩:=h;exact⟨k,a,b,c,d,e,f,g⟩
def rZ{env:Env}{y:Str}(hk:env.scope.kind= .function)(hy:env.kindOf y=some .cell):∀{l:List (Str×NameKind)},l.lookup y=some .free->
  (l.map λ(n,k)=>if (k==NameKind.free&&env.scope.kind== .function&&env.kindOf n==some .cell) then (n,NameKind.cell) else (n,k)).lookup y=some .cell
 | [],h=>by cases h
 | (n,k)::r,h=>by
  have ih:=@rZ env y hk hy r;rw[aaM];rw[abo]at h;by_cases e:y=n
  ·subst e;have hb:(y==y)=true:=by simp
   rw[hb]at h;have:k= .free:=aax h;subst this;have q:(NameKind.free==NameKind.free&&env.scope.kind== .function&&env.kindOf y==some .cell)=true:=by rw[hk,hy];rfl
   simp only[q,if_true,List.lookup_cons,hb]
  ·have hb:(y==n)=false:=by simpa using e
   rw[hb]at h;by_cases q:(k==NameKind.free&&env.scope.kind== .function&&env.kindOf n==some .cell)=true
   ·simp only[q,if_true,List.lookup_cons,hb];exact ih h
   ·simp only[q,Bool.false_eq_true,if_false,List.lookup_cons,hb];exact ih h
def Φ.has(S:Φ X scope xs ys Ω)(ok:X.Ok):∀p∈scope.names,p.2= .free->(X.env.cells.lookup p.1).isSome=true:=λp hp hf=>by have⟨c,e⟩:=ok.has p.1 (.inl (S.free p hp hf));rw[e];rfl
def Φ.look(S:Φ X scope xs ys Ω){z:Str}{c:Addr}(h:(xR X scope C).lookup z=some c):(z,c)∈cellsFrom (C+1) scope.names []\/(kD X.env scope.names []).lookup z=some c:=by
 unfold xR at h;rw[oF,List.lookup_append]at h;cases q:(cellsFrom (C+1) scope.names []).lookup z with
 | some d=>
  rw[q]at h;have:d=c:=aax h;subst this;exact .inl (PySem.mem_of_lookup q)
 | none=>rw[q]at h;exact .inr h
def Φ.other(S:Φ X scope xs ys Ω){z:Str}(h:scope.names.lookup z≠some .cell):(xR X scope C).lookup z=(kD X.env scope.names []).lookup z:=by
 unfold xR;rw[oF,List.lookup_append];cases q:(cellsFrom (C+1) scope.names []).lookup z with
 | some d=>
  rcases CS _ _ _ _ _ (PySem.mem_of_lookup q) with m| m
  ·exact aaJ (S.cells _ m rfl) h
  ·cases m
 | none=>rfl
def Φ.Vc(h:scope.names.lookup x=some .cell):∃c,(xR X scope C).lookup x=some c/\(x,c)∈cellsFrom (C+1) scope.names []:=by have⟨c,hc⟩:=C4 scope.names (C+1) [] x (.inl (PySem.mem_of_lookup h));have⟨d,hd⟩:=abm.mp (E8 hc);refine⟨d,?_,PySem.mem_of_lookup hd⟩;unfold xR;rw[oF,List.lookup_append,hd];rfl
def Φ.inner(S:Φ X scope xs ys Ω){H:Hp}{fp:List Addr}{zs VO:List Str}{KZ:List Nat}(hk:X.env.scope.kind= .function)(kind:sc.kind= .function)(h:(∀p∈sc.names,p.2= .cell->sc.names.lookup p.1=some .cell)/\(∀p∈sc.names,p.2= .local->sc.names.lookup p.1=some .local)/\(∀x∈zs,sc.names.lookup x=some .local\/sc.names.lookup x=some .cell)/\(∀p∈sc.names,p.2= .free->scope.names.lookup p.1=some .cell\/scope.names.lookup p.1=some .free)/\(zs++VO).Nodup/\(∀q∈VO.zip KZ,(xs++ys)[q.2]? =some q.1/\(scope.names.lookup q.1=some .cell\/scope.names.lookup q.1=some .free)/\sc.names.lookup q.1=some .free)/\VO.length=KZ.length:=by decide+kernel):Φ (Cx.comp X (xs++ys) scope C s H fp) sc zs VO KZ:=by
 have⟨a,b,c,d,e,f,g⟩:=h;have look:∀y:Str,(scope.names.lookup y=some .cell\/scope.names.lookup y=some .free)->(Cx.comp X (xs++ys) scope C s H fp).env.scope.names.lookup y=some .cell:=λy h=>by
  rcases h with h| h
  ·exact dF (env:=X.env) h
  ·exact rZ (env:=X.env) hk (S.free (y,.free) (PySem.mem_of_lookup h) rfl) h
 exact⟨kind,a,b,c,λp hp hf=>look _ (d p hp hf),e,λq hq=>⟨(f q hq).1,look _ (f q hq).2.1,(f q hq).2.2⟩,g⟩
def Ib{α β:Type}:∀{xs:List α} {ys:List β} {j:Nat} {x:α} {y:β},xs[j]? =some x->ys[j]? =some y->(x,y)∈xs.zip ys
 | x::xs,y::ys,0,_,_,h1,h2=>by cases h1;cases h2;exact aae
 | x::xs,y::ys,j+1,_,_,h1,h2=>aad _ (Ib (xs:=xs) (ys:=ys) (j:=j) h1 h2)
 | [],_,_,_,_,h1,_=>by simp at h1
 | _::_,[],_,_,_,_,h2=>by simp at h2
def oI(Ω:List Nat)(σ:St):St:=Ω.map λi=>(σ[i]?).join
def wu(n:Nat)(gg:TG):Prop:=∀v (os cs:St) H (Q:St->Hp->Prop),os.length=n->gg v (os++cs) H Q->gg v (os++cs) H λσ' H'=>(∃VZ:St,VZ.length=n/\σ'=VZ++cs)/\Q σ' H'
def C_(J:It)(n:Nat)(gg:TG)(tc:TT)(te:TE)(cs:St)(Q:VK)(H1:Hp)(D:Addr):Prop:=
 ∃W:Nat->Nat->List V->Hp->Prop,(∃m,W 0 m [] (upd H1 D (.lst [])))/\∀i m ys H2,W i m ys H2->H2 D=some (.lst ys)/\
  ((J.stop i H2/\Q (.ref D) H2)\/(J.go i H2/\∀x H3,J.U2 i H2 x H3->∀os:St,os.length=n->gg x (os++cs) H3 λσ' H3'=>tc σ' H3' λb H4=>match b with
   | true=>te σ' H4 λy H5=>H5 D=some (.lst ys)/\ys.length < sizeLine/\∃m',m' < m/\W (i+1) m' (ys++[y]) (upd H5 D (.lst (ys++[y])))
   | false=>∃m',m' < m/\W (i+1) m' ys H4))
def HB(wi:TI)(n:Nat)(gg:TG)(tc:TT)(te:TE)(Ω:List Nat):TE:=λσ H Q=>wi σ H λJ H1=>∀D,H1 D=none->C_ J n gg tc te (oI Ω σ) Q H1 D
def Ws(cs:List Expr)(env:Env):Sem Bool:=match cs with
 | []=>pure true
 | c::_=>isTrue c env (eval c env)
def VL(X:Cx)(cs:List Expr)(t:TT):Prop:=
 (cs=[]\/∃c,cs=[c])/\∀(ζ:List (Addr×Obj)) (s:Shared) (σ:St) (H:Hp) (Q:Bool->Hp->Prop),Inv X ζ σ H s->t σ H Q->wpAny (model X.prog X.w) X.A (Ws cs X.env) (TP X ζ σ Q) X.xe s
def vi{elt target iter:Expr}{cs:List Expr}{scope:Scope}{pos:Pos}{it Η:Value}{env:Env}(h:cs=[]\/∃c,cs=[c]):
  compTurn (.ListComp elt [⟨target,iter,cs,0⟩] scope pos) 0 it Η env=(standAt iter.pos >>= λ_=>pyNext it >>= λr=>match r with
   | none=>pure (.done .next)
   | some v=>letOwnedTupleGo target it v >>= λ_=>assign target env v >>= λ_=>Ws cs env >>= λok=>
    (if ok=true then (eval elt env >>= λx=>call (.builtin "list.append") [Η,x] >>= λ_=>pure Unit.unit) >>= λ_=>again (.compLoop (.ListComp elt [⟨target,iter,cs,0⟩] scope pos) 0 it Η env)
     else again (.compLoop (.ListComp elt [⟨target,iter,cs,0⟩] scope pos) 0 it Η env))):=by
 rcases h with rfl| ⟨c,rfl⟩ <;> (unfold compTurn Ws;dsimp only[List.getElem?_cons_zero,List.getElem?_cons_succ,List.getElem?_nil];simp only[List.forIn_cons,List.forIn_nil,bind_assoc,pure_bind,if_true];rfl)
section
variable{elt iter tg:Expr}{cs:List Expr}{pos:Pos}{wi:TI}{gg:TG}{tc:TT}{te:TE}
def wd(S:Φ X scope xs ys Ω)(hc:X.calm=true)(hg:∀C s H fp,PG (Cx.comp X (xs++ys) scope C s H fp) tg gg)(hk:wu xs.length gg)(ht:∀C s H fp,VL (Cx.comp X (xs++ys) scope C s H fp) cs tc)(he:∀C s H fp,PE (Cx.comp X (xs++ys) scope C s H fp) elt te)
   {σ:St} {H2:Hp} {s2:Shared} {it:Addr} {fp:List Addr} {tn:Nat->Heap->Prop} {J:It} {Q:V->Hp->Prop} {PQ:Value->Addr->Result->Shared->Prop} (I:Inv X ζ σ H2 s2) (T:Turn X.prog X.w X.K tg J fp it tn) (t0:tn 0 s2.heap) (f2:∀b∈fp,ui X ζ H2 b)
  (h:∀D,H2 D=none->C_ J xs.length gg tc te (oI Ω σ) Q H2 D)
  (hPQ:∀D C s' H',Inv X ζ σ H' s'->Q (.ref D) H'->(∃m,s'.heap.Ns C m)->H' C=none->X.s₀.heap.objs.size<=C->C≠X.env.locals->(∀z c,X.env.cells.lookup z=some c->c≠C)->(∀p∈X.pn++ζ,p.1≠C)->PQ (.ref D) C (.ok .next) s'):
  wpAny (model X.prog X.w) X.A (newList []) (λΗ s3=>wpAny (model X.prog X.w) X.A (newFunctionEnv scope X.env.globals (kD X.env scope.names []) [] X.env.qual none .none (some X.env)) (λTN s4=>
   codeAny (model X.prog X.w) X.A (.compStart (.ListComp elt [⟨tg,iter,cs,0⟩] scope pos) 0 (.ref it) Η {TN with scope:=relabel scope X.env}) (PQ Η TN.locals) s4) X.xe s3) X.xe s2:=by
 have hD:H2 s2.heap.objs.size=none:=I.fresh;have⟨W,⟨m0,w0⟩,step⟩:=h _ hD;refine wpAny_newObj_type ?_;have I3:Inv X ζ σ (upd H2 s2.heap.objs.size (.lst [])) {s2 with heap:=s2.heap.push {cls:=.type "list",data:=.seq ([]:List Value).toArray}}:=Inv.Qi (t':=s2.toks) I (ys:=[]) (its:=[]) .nil (ab9 _);generalize hH3:upd H2 s2.heap.objs.size (.lst [])=H3 at I3 w0;generalize hs3:({s2 with heap:=s2.heap.push {cls:=.type "list",data:=.seq ([]:List Value).toArray}}:Shared)=s3 at I3;have Y8:∀b∈fp,H3 b=none:=λb hb=>by have⟨o,e,_⟩:=T.obj _ _ t0 b hb;rw[<-hH3,Θ (aaY (aar e))];exact(f2 b hb).1
 have t3:tn 0 s3.heap:=T.keep _ _ _ t0 λb hb o e=>by rw[<-hs3];exact aak _ e
 refine iT ?_;have hC:H3 s3.heap.objs.size=none:=I3.fresh;have kp:∀b o,s3.heap.get? b=some o->(pushCells (s3.heap.push {cls:=.type "dict",data:=.dict #[]}) scope.names).get? b=some o:=λb o e=>pushCells_keeps _ _ b o (aak _ e);have ZW:=(Heap.Ns.new s3.heap (.type "dict")).keeps (pushCells_keeps scope.names _);have ck:=cellsFrom_ok scope.names (s3.heap.push {cls:=.type "dict",data:=.dict #[]}) (s3.heap.objs.size+1) [] ⟨λ_ _ hm=>(nomatch hm),List.Pairwise.nil⟩ (by rw[Heap.size_push];exact aai _);rw[Heap.size_push]at ck;generalize pushCells (s3.heap.push {cls:=.type "dict",data:=.dict #[]}) scope.names=h4 at kp ZW ck;generalize YV:({s3 with heap:=h4}:Shared)=s4;have e4:s4.heap=h4:=by rw[<-YV]
 have NG:∀z c,X.env.cells.lookup z=some c->c≠s3.heap.objs.size:=λz c e q=>by have⟨v,w⟩:=I3.cell z c e;exact abq _ (q▸w.lt)
 have tQ:∀z c,(kD X.env scope.names []).lookup z=some c->X.env.cells.lookup z=some c:=λz c e=>vK scope.names [] (S.has I.ok) (λq=>nomatch q) e;have Lne:s3.heap.objs.size≠X.env.locals:=acI I3.lt;have Oo:∀z c,(kD X.env scope.names []).lookup z=some c->c < s3.heap.objs.size:=λz c e=>by have⟨v,w⟩:=I3.cell z c (tQ z c e);exact w.lt
 have rN:∀z c,(z,c)∈cellsFrom (s3.heap.objs.size+1) scope.names []->s3.heap.objs.size < c:=λz c m=>(ck.empty z c m).2;have ok:(Cx.comp X (xs++ys) scope s3.heap.objs.size s3 H3 fp).Ok:=by
  refine⟨I3.ok.mod,S.kind,I3.ok.glob,I3.ok.blt,aai _,λz z' c e1 e2=>?_,λz hz=>?_,λz c hz e=>?_,I3.ok.hd,I3.ok.frames,.inl rfl,λb hb=>⟨?_,λz c e=>?_⟩,I3.bs,?_,λb o e hb=>?_,λb hb hf=>?_,I3.stack,I3.xI⟩
  ·rcases S.look e1 with m1| l1 <;> rcases S.look e2 with m2| l2
   ·exact name_of_addr ck.apart m1 m2
   ·exact aaJ (Nat.lt_trans (rN _ _ m1) (Oo _ _ l2)) (abq _)
   ·exact aaJ (Nat.lt_trans (rN _ _ m2) (Oo _ _ l1)) (abq _)
   ·exact I3.ok.inj z z' c (tQ z c l1) (tQ z' c l2)
  ·by_cases hx:scope.names.lookup z=some .cell
   ·have⟨c,e,_⟩:=Φ.Vc (X:=X) (C:=s3.heap.objs.size) hx;exact⟨c,e⟩
   ·rcases DC hz with hz| hz
    ·have⟨c,e⟩:=abm.mp (rP (env:=X.env) scope.names [] (.inl hz));exact⟨c,(S.other hx).trans e⟩
    ·exact aaJ (S.cells _ hz rfl) hx
  ·have⟨d,e',m⟩:=Φ.Vc (X:=X) (C:=s3.heap.objs.size) (x:=z) (by simpa using(show(scope.names.lookup z==some .cell)=true from hz));have e:(xR X scope s3.heap.objs.size).lookup z=some c:=e;rw[e']at e;cases e;exact Nat.le_of_lt (rN _ _ m)
  ·have⟨o,e,_⟩:=T.obj _ _ t3 b hb;exact aaY (aar e)
  ·rcases S.look e with m| l
   ·intro q;have⟨o,e,_⟩:=T.obj _ _ t3 b hb;exact aaJ (Nat.lt_trans (rN _ _ m) (q▸aar e)) (abq _)
   ·exact(f2 b hb).2.2.2.2.1 z c (tQ z c l)
  ·exact aas I3.ok.pX I3.sz
  ·have⟨_,_,_,hy,_⟩:=f2 b hb;have e0:=(I3.ok.bs b o e).1;rcases hy with hy| hy
   ·exact I3.ok.Qq b o e hy
   ·exact aaJ (aau (aar e0) hy) (abq _)
  ·have⟨_,hl,hfs,_⟩:=f2 b hb;exact(aaC.mp (I3.xv b hf)).elim hl hfs
 have hlen:((List.replicate xs.length (none:Option V))++oI Ω σ).length=(xs++ys).length:=by rw[aag,aag,aa6,S.len];unfold oI;rw[aac]
 have I4:Inv X ζ σ H3 s4:=by rw[<-YV];exact I3.kept kp
 have Ic:Inv (Cx.comp X (xs++ys) scope s3.heap.objs.size s3 H3 fp) [] ((List.replicate xs.length (none:Option V))++oI Ω σ) H3 s4:=by
  refine⟨ok,by rw[<-YV];rfl,I4.bare,Un.kept (by rw[e4];exact kp),⟨_,by rw[e4];exact ZW,λi z v e1 e2 e3=>?_⟩,λz c e=>?_,hC,λz c e=>?_,(λp hp=>nomatch hp),I4.bb,hlen⟩
  rotate_left
  ·rcases S.look e with m| l
   ·exact⟨none,by rw[e4];exact(ck.empty z c m).1⟩
   ·exact I4.cell z c (tQ z c l)
  ·rcases S.look e with m| l
   ·exact I3.bb.fresh (Nat.le_of_lt (rN _ _ m))
   ·exact I4.qu z c (tQ z c l)
  have e1:(xs++ys)[i]? =some z:=e1;by_cases hi:i < xs.length
  ·rw[aat (by rw[aa6];exact hi),ab0,aaw hi]at e2;cases e2
  ·obtain⟨j,rfl⟩:∃j,i=xs.length+j:=⟨i - xs.length,()⟩;have e1:ys[j]? =some z:=by rw[aan (),abz]at e1;exact e1
   have e2:(oI Ω σ)[j]? =some (some v):=by rw[aan (by rw[aa6];omega),aa6,abz]at e2;exact e2
   unfold oI at e2;rw[aal]at e2;cases hi:Ω[j]? with
   | none=>rw[hi]at e2;cases e2
   | some i=>
    rw[hi]at e2;have e2:(σ[i]?).join=some v:=aax e2;have e2:σ[i]? =some (some v):=by
     cases q:σ[i]? with
     | none=>rw[q]at e2;cases e2
     | some o=>rw[q]at e2;exact aaX some e2
    have⟨c1,c2,c3⟩:=S.cap (z,i) (Ib e1 hi);have c4:=rZ (env:=X.env) I.ok.kind c2 c3;have c5:=c3;have c3:(z,NameKind.free)∈scope.names:=PySem.mem_of_lookup c3;have⟨m,hn,hl⟩:=I4.loc;have⟨u,r,lk⟩:=hl i z v c1 e2 (.inr (.inl c2));refine⟨u,r,.inr ⟨.inl c4,?_⟩⟩;rcases lk with ⟨k,_⟩| ⟨_,c,zC,z'⟩
    ·exact aaJ ((show X.env.scope.names.lookup z=some .local from k).symm.trans c2) @_
    ·have⟨d,hd⟩:=abm.mp (rP (env:=X.env) scope.names [] (.inl c3));have:=tQ z d hd;rw[zC]at this;cases this;exact⟨c,(S.other (λq=>by rw[c5]at q;cases q)).trans hd,z'⟩
 have loop:codeAny (model X.prog X.w) X.A (.compLoop (.ListComp elt [⟨tg,iter,cs,0⟩] scope pos) 0 (.ref it) (.ref s2.heap.objs.size) (compEnvC scope (xR X scope s3.heap.objs.size) s3.heap.objs.size X.env)) (PQ (.ref s2.heap.objs.size) s3.heap.objs.size) s4:=by
  have Wj:∀{H':Hp},(∀b∈fp,H' b=none)->∀b∈fp,ui (Cx.comp X (xs++ys) scope s3.heap.objs.size s3 H3 fp) [] H' b:=λhn b hb=>
   ⟨hn b hb,(ok.exf b hb).1,ok.Pk b hb,.inl hb,(ok.exf b hb).2,(λp hp=>nomatch hp)⟩
  refine codeAny_loop rfl (λn s'=>∃(i:Nat) (zs:List V) (os:St) (H':Hp),os.length=xs.length/\Inv (Cx.comp X (xs++ys) scope s3.heap.objs.size s3 H3 fp) [] (os++oI Ω σ) H' s'/\tn i s'.heap/\(∀b∈fp,H' b=none)/\W i n zs H') (λn s5 z=>?_) m0 ⟨0,[],List.replicate xs.length none,H3,by rw[aa6],Ic,T.keep _ _ _ t3 (λb hb o e=>by rw[e4];exact kp b o e),Y8,w0⟩;have⟨i,zs,os,H5,l5,I5,t5,Vv,w5⟩:=z;show wpAny _ _ ((compTurn _ 0 (.ref it) _ _).onRaise _) _ _ s5;refine wpAny_noted ?_;rw[vi (ht s3.heap.objs.size s3 H3 fp).1];refine aaH (wpAny_standAt (aaH ?_));obtain⟨KY,stop| go⟩:=step i n zs H5 w5
  ·have⟨stop,q⟩:=stop;refine bH (T.done (Cx.comp X (xs++ys) scope s3.heap.objs.size s3 H3 fp) rfl rfl rfl hc i [] s5 _ H5 _ I5 (Wj Vv) t5 stop) λr s6 xz=>?_;have⟨hr,I6⟩:=xz;subst hr;refine aba (hPQ _ _ s6 H5 ?_ q ?_ I6.free ?_ Lne NG λp hp z=>?_)
   ·refine I3.UO I6.os I6.base I6.bb I6.bare λb hb=>?_;have⟨_,g1,_,g3,g4,g5⟩:=f2 b hb;exact⟨g3,g1,g4,g5⟩
   ·have⟨m,hn,_⟩:=I6.loc;exact⟨m,hn⟩
   ·exact I3.sz
   ·exact aaY (aar (I3.pin p hp).1) z
  ·have⟨go,turn⟩:=go;refine bH (T.item (Cx.comp X (xs++ys) scope s3.heap.objs.size s3 H3 fp) rfl rfl rfl hc i [] s5 _ H5 _ I5 (Wj Vv) t5 go) λr s6 xz=>?_;have⟨u,hr,h6⟩:=xz;subst hr;refine aaH (bH h6 λ_ s7 xz=>?_);have⟨y,H7,I7,r7,y7,t7,fr7⟩:=xz;have I7':=I7.pinned (Wj fr7) (T.obj _ _ t7);refine aaH (acd (hg _ _ _ _ _ s7 _ H7 y u _ I7' r7 (hk y os _ H7 _ l5 (turn y _ y7 os l5))) (λ_ s8 z8=>?_) λ_ _ f=>f.elim);have⟨σ8,H8,I8,⟨Z8,l8,e8⟩,q8⟩:=z8;subst e8;refine aaH (acd ((ht _ _ _ _).2 _ s8 _ _ _ I8 q8) (λb s9 z9=>?_) λ_ _ f=>f.elim);have⟨H9,I9,q9⟩:=z9;cases b with
   | false=>
    have⟨m9,hm9,w9⟩:=q9;refine aba ⟨rfl,m9,hm9,i+1,zs,Z8,_,l8,I9.kX,T.keep _ _ _ t7 λb hb o e=>(I9.pin (b,o) (aaE _ (aaE _ (fq hb e)))).1,λb hb=>?_,w9⟩;have⟨o,e,_⟩:=T.obj _ _ t7 b hb;exact(I9.pin (b,o) (aaE _ (aaE _ (fq hb e)))).2.1
   | true=>
    refine aaH (aaH (acd (he _ _ _ _ _ s9 _ _ _ I9 q9) (λu10 s10 z10=>?_) λ_ _ f=>f.elim));have⟨v10,H10,I10,r10,YI,l10,m10,XE,w10⟩:=z10;refine aaH (acd (vM (X:=Cx.comp X (xs++ys) scope s3.heap.objs.size s3 H3 fp) _ s10 _ H10 (.ref s2.heap.objs.size) [v10] _ [u10] (λ_ H'=>H'=upd H10 s2.heap.objs.size (.lst (zs++[v10]))) I10 rfl (.cons r10 .nil) ⟨_,zs,v10,rfl,rfl,YI,l10,rfl⟩) (λ_ s11 z11=>?_) λ_ _ f=>f.elim);have⟨_,H11,XW,_,e11⟩:=z11;subst e11;refine aba (aba ⟨rfl,m10,XE,i+1,zs++[v10],Z8,_,l8,XW.kX,T.keep _ _ _ t7 λb hb o e=>(XW.pin (b,o) (aaE _ (aaE _ (fq hb e)))).1,λb hb=>?_,w10⟩);have⟨o,e,_⟩:=T.obj _ _ t7 b hb;exact(XW.pin (b,o) (aaE _ (aaE _ (fq hb e)))).2.1
 exact codeAny_compStart_list loop (T.self X.A 0 _ _ _ (T.keep _ _ _ t3 (λb hb o e=>by rw[e4];exact kp b o e)) loop)
def Ke(S:Φ X scope xs ys Ω)(hc:X.calm=true)(hi:PI X tg iter wi)(hg:∀C s H fp,PG (Cx.comp X (xs++ys) scope C s H fp) tg gg)(hk:wu xs.length gg)(ht:∀C s H fp,VL (Cx.comp X (xs++ys) scope C s H fp) cs tc)(he:∀C s H fp,PE (Cx.comp X (xs++ys) scope C s H fp) elt te)(hs:∀x,foldedSetIterable iter X.env x=pure x:=by intro _;rfl):
  PE X (.ListComp elt [⟨tg,iter,cs,0⟩] scope pos) (HB wi xs.length gg tc te Ω):=by
 intro ζ s σ H Q I h;rw[eval_ListComp];refine wpAny_comprehension_free (use:=none) rfl hs (uq (S.has I.ok)) S.kind S.names (bH (hi ζ s σ H _ I h) λv s1 h1=>bH h1 λVH s2 h2=>?_);have⟨it,fp,tn,J,H2,rfl,I2,T,t0,f2,q⟩:=h2;refine wd S hc hg hk ht he (Q:=Q) I2 T t0 f2 q λD C s' H' I' q' n' hC hz hL PJ hp=>?_;have⟨m,n'⟩:=n';exact⟨m,n',λh' sb=>⟨.ref D,H',I'.turned (it:=C) (t':=s'.toks) (λb o hb e=>(sb.2 b hb).trans e) hC hL (.inr hz) PJ hp,rfl,q'⟩⟩
def zZ{i:Nat}{y:Str}{py A3:Pos}(hN:X.N.Nodup)(T2:X.N[i]? =some y)(hy:Loc X.env.scope y)(S:Φ X scope xs ys Ω)(hc:X.calm=true)(hi:PI X tg iter wi)(hg:∀C s H fp,PG (Cx.comp X (xs++ys) scope C s H fp) tg gg)(hk:wu xs.length gg)(ht:∀C s H fp,VL (Cx.comp X (xs++ys) scope C s H fp) cs tc)(he:∀C s H fp,PE (Cx.comp X (xs++ys) scope C s H fp) elt te)
  (Sl:swapsWith (.ListComp elt [⟨tg,iter,cs,0⟩] scope pos) (some (.Name y py)) A3.line X.env=pure true) (hs:∀x,foldedSetIterable iter X.env x=pure x)
  (hf:X.fn y=true\/X.env.scope.names.lookup y=some .local):
  PS X (.Assign [.Name y py] (.ListComp elt [⟨tg,iter,cs,0⟩] scope pos) A3) (λD σ H=>HB wi xs.length gg tc te Ω σ H λv H1=>D.nx (σ.set i (some v)) H1):=by
 intro ζ s σ H D I h;rw[exec_Assign_Name_used _ _ _ _ Sl];refine aaH (wpAny_standAt (aaH ?_));show wpAny _ _ (do let _<-comprehension (.ListComp elt [⟨tg,iter,cs,0⟩] scope pos) scope X.env _ (newList []) false (eval iter X.env) (some (assign (.Name y py) X.env))) _ _ s;refine aaH (acd (wpAny_comprehension_free (use:=some (assign (.Name y py) X.env)) (Q:=λ_ s'=>SP X ζ D .next s') rfl hs (uq (S.has I.ok)) S.kind S.names (bH (hi ζ s σ H _ I h) λv s1 h1=>bH h1 λVH s2 h2=>?_)) (λ_ s' hq=>aba (aba hq)) λ_ _ e=>e);have⟨it,fp,tn,J,H2,rfl,I2,T,t0,f2,q⟩:=h2;refine wd S hc hg hk ht he (Q:=λv H1=>D.nx (σ.set i (some v)) H1) I2 T t0 f2 q λDl C s' H' I' q' n' hC hz hL PJ hp=>?_;have⟨m,n'⟩:=n';show wpAny _ _ (assign (.Name y py) X.env (.ref Dl)) _ _ s';refine wpAny_assign_Name (we I' hN T2 hy (v:=.ref Dl) rfl (λs3 I3 Xh=>?_) hf);have⟨a,Xh,ha⟩:=Xh;have hCa:C≠a:=by
  rcases ha with rfl| ha
  ·exact hL
  ·exact(PJ _ _ ha).symm
 exact⟨m,n'.sameBut Xh hCa,λh' sb=>⟨_,H',I3.turned (it:=C) (t':=s3.toks) (λb o hb e=>(sb.2 b hb).trans e) hC hL (.inr hz) PJ hp,q'⟩⟩
end
section
variable{K:fI}
def cX.okX{k:Nat}{sp:Sp}(F:cX K x qual st f fd)(S:Ε N ps (τ st))(len:∀vs H Q E,sp vs H Q E->vs.length=ps.length)
  (sV:∀(aX:Value) (A:Around) (outer:List Env) (s:Shared) (H:Hp) (vs:List V) (Q:VK) (E:XK),bT k (A.deeper (envOfC qual (τ st) s.heap.objs.size f aX))->sp vs H Q E->
   ∃t,Hr (uV (bY P w) P w K mg base N qual (τ st) f aX A outer s H E) (dY st) t/\t {nx:=λ_ H'=>Q .bF H',rt:=Q} (start N vs) H):av P w K mg base (bY P w) (k+1) f fd ps sp:=by
 have⟨oc,od,kV,doc,pm,an,aX,ct,Be,rfl,lk,Dv⟩:=F.ex;exact OC lk Dv S len λA outer s H vs Q E hr N6=>sV aX A outer s H vs Q E hr N6
end
def fv:df (bY P w) X (λ_=>E0):=by intro ζ σ H s e s' _ hx;have⟨_,_,_,_,_,_,_,_,hE⟩:=hx;exact hE.elim
def log2_lt{n:Nat}{k:Nat}(h:n < 2 ^ k)(hk:0 < k):n.log2 < k:=by
 by_cases h0:n=0
 ·rw[h0,show Nat.log2 0=0 from rfl];exact hk
 ·exact(Nat.log2_lt h0).mpr h
def fY(i:Int):Prop:=i.natAbs < 2 ^ 8000
def FE{i j:Int}(hi:fY i)(hj:fY j):IntMulOk i j:=by
 have b:∀{i:Int},fY i->Builtin.Int.intBits i<=8000:=λ{i} h=>by
  unfold Builtin.Int.intBits;split
  ·exact ab9 _
  ·have:=log2_lt (k:=8000) h @_;omega
 have b1:=b hi;have b2:=b hj;have h3:Builtin.Int.intTooBig (Builtin.Int.intBits i+Builtin.Int.intBits j)=false:=by
  unfold Builtin.Int.intTooBig;refine aaG ?_;have:(bitsLine:Int)=134217728:=@_
  omega
 unfold IntMulOk;rw[h3,Bool.and_false];exact aaD
section
def MY:jS X (binaryOp .Mult) (rI (λi j=>fY i/\fY j) λi j=>.int (i * j)):=V7 λ_ _ _ _ _ _ _ hc q=>mul_int q (FE hc.1 hc.2)
def Ay:jS X (binaryOp .FloorDiv) (rI (λ_ j=>j≠0/\fY j) λi j=>.int (i.fdiv j)):=V7 λ_ _ _ _ _ _ _ hc q=>
 floordiv_int hc.1 q (.inl (PyProof.noPylong_of_log2 (aau (log2_lt (k:=8000) hc.2 @_) @_)))
end
def Ny:V->Option Value
 | .ty T=>some (.type T)
 | .ref C=>some (.ref C)
 | _=>none
def Nh{c:V}{u t:Value}(r:aF c u)(h:Ny c=some t):u=t:=by
 cases c with
 | ty T=>cases r;exact aax h
 | ref C=>cases r;exact aax h
 | _=>cases h
section
def zx:dI X (.builtin "isinstance") (λxs H Q=>∃x c t t' b,xs=[x,c]/\lP X.K H x t/\Ny c=some t'/\PySem.W.kitOne X.K t t'=some b/\Q (.bl b) H):=by intro ζ s σ H xs us Q I r h;have⟨x,c,t,t',b,rfl,ty,hc,hk,q⟩:=h;have⟨u,u',rfl,r1,r2⟩:=ON r;cases Nh r2 hc;exact Fj I r1 ty hk λtk=>⟨.bl b,H,I.tok tk,rfl,q⟩
end
def og:List V->List V->Bool
 | [],[]=>true
 | x::xs,y::ys=>qL x y&&og xs ys
 | _,_=>false
def m_:∀(xs ys:List V) (e:Nat->Bool),(∀j x y,xs[j]? =some x->ys[j]? =some y->e j=qL x y)->((List.range (min xs.length ys.length)).all e&&xs.length==ys.length)=og xs ys
 | [],[],e,_=>rfl
 | [],_::_,e,_=>by simp[og]
 | _::_,[],e,_=>by simp[og]
 | x::xs,y::ys,e,h=>by
  have ih:=m_ xs ys (λj=>e (j+1)) λj x y h1 h2=>h (j+1) x y h1 h2;have h0:e 0=qL x y:=h 0 x y rfl rfl;show _=(qL x y&&og xs ys);rw[<-ih,<-h0];have e1:min (x::xs).length (y::ys).length=min xs.length ys.length+1:=by simp only[List.length_cons];omega
  rw[e1,abR,ab1,List.all_map];have e2:((x::xs).length==(y::ys).length)=(xs.length==ys.length):=by simp only[List.length_cons];rw[Bool.eq_iff_iff];simp
  rw[e2,Bool.and_assoc];rfl
def Ut(K:fI):R2:=λx y H Q=>∃a b xs ys,x= .ref a/\y= .ref b/\nv K H a xs/\nv K H b ys/\xs.all eQ=true/\ys.all eQ=true/\Q (.bl (og xs ys)) H
def SV(K:fI):R2:=λx y H Q=>∃a b xs ys,x= .ref a/\y= .ref b/\nv K H a xs/\nv K H b ys/\xs.all eQ=true/\ys.all eQ=true/\Q (.bl (!og xs ys)) H
def nD:∀{xs:List V} {j:Nat} {x:V},xs.all eQ=true->xs[j]? =some x->eQ x=true
 | _::_,0,_,h,e=>by rw[ab1,aaz]at h;cases e;exact h.1
 | _::_,j+1,_,h,e=>by rw[ab1,aaz]at h;exact nD h.2 e
section
def Qg(hu:X.A.units < cLine):jS X (compareOp .NotEq) (SV X.K):=by
 intro ζ s σ H x y v u Q I rx ry h;have⟨a,b,xs,ys,rfl,rfl,h1,h2,f1,f2,q⟩:=h;cases rx;cases ry;have⟨i1,v1,t1,_⟩:=I.tuple h1;have⟨i2,v2,t2,_⟩:=I.tuple h2;have l1:=v1.length;have l2:=v2.length;refine SeqAt.RcNeAt.tuples (e:=λj=>match xs[j]?,ys[j]? with| some x,some y=>qL x y| _,_=>true) (show s.heap.IsTuple a i1.toArray from t1) (show s.heap.IsTuple b i2.toArray from t2) hu (λj h1 h2=>?_) _ _ _ _ ?_
 ·have b1:j < i1.length:=by simpa using h1
  have b2:j < i2.length:=by simpa using h2
  have e1:xs[j]? =some (xs[j]'()):=aaa _;have e2:ys[j]? =some (ys[j]'()):=aaa _;have⟨u1,g1,r1⟩:=v1.get e1;have⟨u2,g2,r2⟩:=v2.get e2;rw[aaa b1]at g1;rw[aaa b2]at g2;have w1:i1.toArray[j]=u1:=by simpa using Option.some.inj g1
  have w2:i2.toArray[j]=u2:=by simpa using Option.some.inj g2
  rw[w1,w2];simp only[e1,e2];exact xT r1 r2 (nD f1 e1) (nD f2 e2)
 ·rw[List.size_toArray,List.size_toArray,<-l1,<-l2,m_ xs ys _ (λj x y h1 h2=>by simp only[h1,h2])];exact⟨.bl (!og xs ys),H,I,rfl,q⟩
def KH(hu:X.A.units < cLine):jS X (compareOp .Eq) (Ut X.K):=by
 intro ζ s σ H x y v u Q I rx ry h;have⟨a,b,xs,ys,rfl,rfl,h1,h2,f1,f2,q⟩:=h;cases rx;cases ry;have⟨i1,v1,t1,_⟩:=I.tuple h1;have⟨i2,v2,t2,_⟩:=I.tuple h2;have l1:=v1.length;have l2:=v2.length;refine SeqAt.eq_tupleAt (e:=λj=>match xs[j]?,ys[j]? with| some x,some y=>qL x y| _,_=>true) (show s.heap.IsTuple a i1.toArray from t1) (show s.heap.IsTuple b i2.toArray from t2) hu (λj h1 h2=>?_) ?_
 ·have b1:j < i1.length:=by simpa using h1
  have b2:j < i2.length:=by simpa using h2
  have e1:xs[j]? =some (xs[j]'()):=aaa _;have e2:ys[j]? =some (ys[j]'()):=aaa _;have⟨u1,g1,r1⟩:=v1.get e1;have⟨u2,g2,r2⟩:=v2.get e2;rw[aaa b1]at g1;rw[aaa b2]at g2;have w1:i1.toArray[j]=u1:=by simpa using Option.some.inj g1
  have w2:i2.toArray[j]=u2:=by simpa using Option.some.inj g2
  rw[w1,w2];simp only[e1,e2];exact xT r1 r2 (nD f1 e1) (nD f2 e2)
 ·rw[List.size_toArray,List.size_toArray,<-l1,<-l2,m_ xs ys _ (λj x y h1 h2=>by simp only[h1,h2])];exact⟨.bl (og xs ys),H,I,rfl,q⟩
end
def Hl(bs:List Bool):(List.range bs.length).any (λi=>bs.getD i false)=bs.any id:=by
 induction bs with
 | nil=>rfl
 | cons b bs ih=>
  rw[aay,abR,ab2,List.any_map,ab2,<-ih];rfl
def xb:∀{bs:List Bool} {us:List Value},aC (bs.map V.bl) us->us=bs.map Value.bool
 | [],_,r=>by cases r;rfl
 | b::bs,_,r=>by
  cases r with
  | cons h t=>
   cases h;rw[xb t];rfl
def zo{prog:Program}{bs:List Bool}:TruthOf prog w A (λi v=>(bs.map Value.bool).toArray[i]? =some v) (λi=>bs.getD i false):=by
 intro i v s Q E h q;have h':(bs.map Value.bool)[i]? =some v:=by simpa using h
 rw[aal]at h';cases e:bs[i]? with
 | none=>rw[e]at h';cases h'
 | some b=>
  rw[e]at h';cases h';have q':Q b s:=by
   have eb:bs.getD i false=b:=by rw[aab,e];rfl
   exact eb▸q
  exact wpAny_truthy_bool q'
def Vg(K:fI):List V->Hp->VK->Prop:=λxs H Q=>∃(p:Addr) (bs:List Bool),xs=[.ref p]/\gC K H p (bs.map V.bl)/\Q (.bl (bs.any id)) H
section
def Kd (hc : X.calm = true) : dI X (.builtin "any") (Vg X.K) :=by
  intro ζ s σ H xs us Q I r h;obtain⟨p,bs,rfl,hq,q⟩ :=h;obtain⟨u,rfl,r1⟩ :=lu r;cases r1;obtain⟨its,rv,pl,hz⟩ :=I.list hq;have Qj :=xb rv;subst Qj;refine call_any_walk (wpAny_pyIter_list pl.isList ?_);have lp : p < s.heap.objs.size :=by obtain⟨o,e,_⟩ :=pl.isList;exact aar e
  refine⟨s.heap.objs.size,_,_,_,_,_,λi =>bs.getD i false,rfl,Walks.list (show X.A.in1.handled = none from I.ok.hd hc) s.heap.objs.size p (aaY lp) (bs.map Value.bool).toArray,⟨⟨_,aaS _ rfl,rfl,rfl⟩,pl.isList.at λo e =>aak _ e⟩,zo,λh' tk hk =>?_⟩;refine⟨.bl (bs.any id),H,I.kept λb o e =>hk b o (λz =>by have : b = s.heap.objs.size :=(by simpa using z);exact Nat.lt_irrefl _ (this ▸ Heap.lt_size e)) (Heap.get?_push_of_some _ e),?_,q⟩;rw[aaI,aac,Hl];rfl
end
end L2
namespace PySem
open Sem (wp)
end PySem
namespace PySem.W
open PySem PySem.Builtin PySem.Builtin.ObjectAttr
end PySem.W
namespace PySem
open Sem (wp)
end PySem
namespace L2
open PySem PySem.Spec PyProof.Rows
def xO(a C:Addr)(od:Option Addr):HO:=.ext λh=>∃ob vs,h.get? a=some ob/\ob.cls= .ref C/\ob.dict=od/\ob.data= .fields vs
inductive Dt where
 | bF
 | bl (b:Bool)
 | int (i:Int)
 | str (x:Str)
 | tup (xs:List Dt)
 | lst (xs:List Dt)
 | obj (C:Addr) (ns:List Str) (xs:List Dt)
 | loc (k:Nat)
 | ref (a:Addr)
 | ty (n:String)
 | jR (ns:List Int)
 | kt (xs:List Dt)
 | exc (C:Addr) (ns:List Str) (xs:List Dt)
 | Ux (x C:Addr) (od:Option Addr) (ns:List Str) (xs:List Dt)
inductive MO where
 | lst (xs:List Dt)
 | ins (C:Addr) (ns:List Str) (xs:List Dt)
 | eW (ks:List Key) (xs:List Dt)
 | raw (u:Addr->HO)
abbrev Ms:=List MO
abbrev En:=List (Option Dt)
mutual
def Den(K:fI)(G:Hp)(L:List Addr):Dt->V->Prop
 | .bF,v=>v= .bF
 | .bl b,v=>v= .bl b
 | .int i,v=>v= .int i
 | .str x,v=>v= .str x
 | .tup ds,v=>∃a vs,v= .ref a/\G a=some (.tup vs)/\Ψ K G L ds vs
 | .lst ds,v=>∃a vs,v= .ref a/\G a=some (.lst vs)/\Ψ K G L ds vs
 | .obj C ns ds,v=>∃a dx vs,v= .ref a/\G a=some (.ins C dx (ns.zip vs))/\ns.length=ds.length/\Ψ K G L ds vs
 | .loc k,v=>∃a,v= .ref a/\L[k]? =some a
 | .ref a,v=>v= .ref a
 | .ty n,v=>v= .ty n
 | .jR ns,v=>∃a,v= .ref a/\gC K G a (ns.map V.int)
 | .kt ds,v=>∃a vs,v= .ref a/\nv K G a vs/\Ψ K G L ds vs
 | .exc C ns ds,v=>∃a od vs,v= .ref a/\G a=some (xO a C od)/\((ns=[]/\od=none)\/∃dx,od=some dx/\G dx=some (.xd (ns.zip vs)))/\ns.length=ds.length/\Ψ K G L ds vs
 | .Ux x _ od ns ds,v=>∃vs,v= .ref x/\((ns=[]/\od=none)\/∃dx,od=some dx/\G dx=some (.xd (ns.zip vs)))/\ns.length=ds.length/\Ψ K G L ds vs
def Ψ(K:fI)(G:Hp)(L:List Addr):List Dt->List V->Prop
 | [],vs=>vs=[]
 | d::ds,vs=>∃v r,vs=v::r/\Den K G L d v/\Ψ K G L ds r
end
def Pre(L L':List Addr):Prop:=∃t,L'=L++t
def Pre.refl(L:List Addr):Pre L L:=⟨[],by simp⟩
def Pre.trans{a b c:List Addr}(h:Pre a b)(h':Pre b c):Pre a c:=by have⟨t,rfl⟩:=h;have⟨u,rfl⟩:=h';exact⟨t++u,by simp⟩
def Pre.get{a b:List Addr}(h:Pre a b){k:Nat}{x:Addr}(e:a[k]? =some x):b[k]? =some x:=by have⟨t,rfl⟩:=h;have hk:k < a.length:=(aaf.mp e).1;rw[aat hk];exact e
def ef.rd{H H':Hp}{a:Addr}{u:HO}(e:ef H H')(h:Rd H a u):Rd H' a u:=by
 rcases h with h| ⟨o,h⟩
 ·exact .inl (e _ _ h)
 ·exact .inr ⟨o,e _ _ h⟩
def ef.SN{K:fI}{H H':Hp}{a:Addr}{xs:List V}(e:ef H H')(h:nv K H a xs):nv K H' a xs:=by
 rcases h with h| h
 ·exact .inl (e.rd h)
 ·exact .inr h
section
variable{K:fI}{G G':Hp}{L L':List Addr}
mutual
def Den.mono(g:ef G G')(l:Pre L L'):∀(d:Dt) (v:V),Den K G L d v->Den K G' L' d v
 | .bF,_,h=>h
 | .bl _,_,h=>h
 | .int _,_,h=>h
 | .str _,_,h=>h
 | .tup ds,_,⟨a,vs,e,h1,h2⟩=>⟨a,vs,e,g _ _ h1,Ψ.mono g l ds vs h2⟩
 | .lst ds,_,⟨a,vs,e,h1,h2⟩=>⟨a,vs,e,g _ _ h1,Ψ.mono g l ds vs h2⟩
 | .obj C ns ds,_,⟨a,dx,vs,e,h1,hn,h2⟩=>⟨a,dx,vs,e,g _ _ h1,hn,Ψ.mono g l ds vs h2⟩
 | .loc k,_,⟨a,e,h1⟩=>⟨a,e,l.get h1⟩
 | .ref _,_,h=>h
 | .ty _,_,h=>h
 | .jR _,_,⟨a,e,h1⟩=>⟨a,e,g.seq h1⟩
 | .kt ds,_,⟨a,vs,e,h1,h2⟩=>⟨a,vs,e,g.SN h1,Ψ.mono g l ds vs h2⟩
 | .exc _ _ ds,_,⟨a,od,vs,e,h1,h2,h3,h4⟩=>⟨a,od,vs,e,g _ _ h1,h2.imp (λz=>z) (λ⟨dx,z1,z2⟩=>⟨dx,z1,g _ _ z2⟩),h3,Ψ.mono g l ds vs h4⟩
 | .Ux _ _ _ _ ds,_,⟨vs,e,h2,h3,h4⟩=>⟨vs,e,h2.imp (λz=>z) (λ⟨dx,z1,z2⟩=>⟨dx,z1,g _ _ z2⟩),h3,Ψ.mono g l ds vs h4⟩
def Ψ.mono(g:ef G G')(l:Pre L L'):∀(ds:List Dt) (vs:List V),Ψ K G L ds vs->Ψ K G' L' ds vs
 | [],_,h=>h
 | d::ds,_,⟨v,r,e,h1,h2⟩=>⟨v,r,e,Den.mono g l d v h1,Ψ.mono g l ds r h2⟩
end
def Ψ.pair:∀{ds:List Dt} {vs:List V},Ψ K G L ds vs->Paired (Den K G L) ds vs
 | [],_,h=>by have h:_=_:=h;subst h;exact .nil
 | d::ds,_,⟨v,r,e,h1,h2⟩=>by subst e;exact .cons h1 (Ψ.pair h2)
def Ψ.of:∀{ds:List Dt} {vs:List V},Paired (Den K G L) ds vs->Ψ K G L ds vs
 | _,_,.nil=>rfl
 | _,_,.cons h t=>⟨_,_,rfl,h,Ψ.of t⟩
end
section
variable{α β:Type}{F:α->β->Prop}
def D1:∀{xs:List α} {us:List β} {i:Nat} {x:α},Paired F xs us->xs[i]? =some x->∃u,us[i]? =some u/\F x u
 | _,_,_,_,.nil,e=>by simp at e
 | _,_,0,_,.cons r _,e=>by simp at e;subst e;exact⟨_,rfl,r⟩
 | _,_,i+1,x,.cons _ t,e=>by have⟨u,h1,h2⟩:=D1 (i:=i) (x:=x) t (by simpa using e);exact⟨u,by simpa using h1,h2⟩
def Es{x:α}{u:β}(r:F x u):∀{xs:List α} {us:List β} (i:Nat),Paired F xs us->Paired F (xs.set i x) (us.set i u)
 | _,_,_,.nil=>.nil
 | _,_,0,.cons _ t=>.cons r t
 | _,_,i+1,.cons q t=>.cons q (Es r i t)
def qO:∀{xs ys:List α} {us ws:List β},Paired F xs us->Paired F ys ws->Paired F (xs++ys) (us++ws)
 | _,_,_,_,.nil,s=>s
 | _,_,_,_,.cons r t,s=>.cons r (qO t s)
def s_:∀{xs:List α} {us:List β} (n:Nat),Paired F xs us->Paired F (xs.take n) (us.take n)
 | _,_,0,_=>.nil
 | _,_,_+1,.nil=>.nil
 | _,_,n+1,.cons r t=>.cons r (s_ n t)
def rJ:∀{xs:List α} {us:List β} (n:Nat),Paired F xs us->Paired F (xs.drop n) (us.drop n)
 | _,_,0,r=>r
 | _,_,_+1,.nil=>.nil
 | _,_,n+1,.cons _ t=>rJ n t
def yi{xs:List α}{us:List β}(h:Paired F xs us):∀k:Nat,Paired F (List.replicate k xs).flatten (List.replicate k us).flatten
 | 0=>.nil
 | k+1=>by rw[abn,abn,abF,abF];exact qO h (yi h k)
end
section
variable{K:fI}{G:Hp}{L:List Addr}
def Ψ.length{ds:List Dt}{vs:List V}(h:Ψ K G L ds vs):ds.length=vs.length:=Paired.length h.pair
def Ψ.get{ds:List Dt}{vs:List V}{i:Nat}{d:Dt}(h:Ψ K G L ds vs)(e:ds[i]? =some d):∃v,vs[i]? =some v/\Den K G L d v:=D1 h.pair e
def Ψ.app{ds es:List Dt}{vs us:List V}(h:Ψ K G L ds vs)(h':Ψ K G L es us):Ψ K G L (ds++es) (vs++us):=.of (qO h.pair h'.pair)
def iN:∀{ns:List Int},Ψ K G L (ns.map Dt.int) (ns.map V.int)
 | []=>rfl
 | n::ns=>⟨_,_,rfl,rfl,iN⟩
def bw{d:Dt}{vs:List V}(h:Ψ K G L [d] vs):∃v,vs=[v]/\Den K G L d v:=by have⟨v,r,rfl,h1,h2⟩:=h;have h2:r=[]:=h2;subst h2;exact⟨v,rfl,h1⟩
def gQ{d e:Dt}{vs:List V}(h:Ψ K G L [d,e] vs):∃v u,vs=[v,u]/\Den K G L d v/\Den K G L e u:=by have⟨v,r,rfl,h1,h2⟩:=h;have⟨u,rfl,h3⟩:=bw h2;exact⟨v,u,rfl,h1,h3⟩
end
def Hx(K:fI)(G:Hp)(L:List Addr)(H:Hp)(a:Addr):MO->Prop
 | .lst ds=>∃vs,H a=some (.lst vs)/\Ψ K G L ds vs
 | .ins C ns ds=>∃dx vs,H a=some (.ins C dx (ns.zip vs))/\ns.length=ds.length/\Ψ K G L ds vs
 | .eW ks ds=>∃vs,H a=some (.dK (ks.zip vs))/\ks.length=ds.length/\Ψ K G L ds vs
 | .raw u=>H a=some (u a)
structure Rl(K:fI)(G:Hp)(L:List Addr)(M:Ms)(H:Hp):Prop where
 sub:ef G H
 len:L.length=M.length
 nd:L.Nodup
 f_:∀(k:Nat) (a:Addr) (m:MO),L[k]? =some a->M[k]? =some m->G a=none/\Hx K G L H a m
structure Ex(G:Hp)(L:List Addr)(H:Hp)(G':Hp)(L':List Addr)(H':Hp):Prop where
 g:ef G G'
 l:Pre L L'
 fr:∀b,G b=none->H b≠none->G' b=none
 out:∀b o,H b=some o->b∉L->H' b=some o
 new:∀b∈L',b∈L\/H b=none
 Cg:∀b,H b≠none->H' b≠none
def Ex.refl(G:Hp)(L:List Addr)(H:Hp):Ex G L H G L H:=⟨.refl _,.refl _,λ_ h _=>h,λ_ _ h _=>h,λ_ h=>.inl h,λ_ h=>h⟩
def Ex.trans{G:Hp}{L:List Addr}{H G1:Hp}{L1:List Addr}{H1 G2:Hp}{L2:List Addr}{H2:Hp}(a:Ex G L H G1 L1 H1)(b:Ex G1 L1 H1 G2 L2 H2):Ex G L H G2 L2 H2 where
 g:=a.g.trans b.g
 l:=a.l.trans b.l
 fr:=λx h1 h2=>b.fr x (a.fr x h1 h2) (a.Cg x h2)
 out:=λx o h1 h2=>b.out x o (a.out x o h1 h2) λz=>(a.new x z).elim h2 λq=>by rw[h1]at q;cases q
 new:=λx h=>by
  rcases b.new x h with z| z
  ·exact a.new x z
  ·right;cases q:H x with
   | none=>rfl
   | some o=>exact absurd z (a.Cg x (by rw[q];simp))
 Cg:=λx h=>b.Cg x (a.Cg x h)
def Hx.there{K:fI}{G:Hp}{L:List Addr}{H:Hp}{a:Addr}{m:MO}(h:Hx K G L H a m):H a≠none:=by
 cases m with
 | lst ds=>have⟨vs,e,_⟩:=h;rw[e];simp
 | ins C ns ds=>have⟨dx,vs,e,_⟩:=h;rw[e];simp
 | eW ks ds=>have⟨vs,e,_⟩:=h;rw[e];simp
 | raw u=>have h:H a=some (u a):=h;rw[h];simp
def Hx.mono{K:fI}{G G':Hp}{L L':List Addr}{H H':Hp}{a:Addr}{m:MO}(g:ef G G')(l:Pre L L')(e:H' a=H a)(h:Hx K G L H a m):Hx K G' L' H' a m:=by
 cases m with
 | lst ds=>have⟨vs,e1,h⟩:=h;exact⟨vs,e.trans e1,Ψ.mono g l _ _ h⟩
 | ins C ns ds=>have⟨dx,vs,e1,h0,h⟩:=h;exact⟨dx,vs,e.trans e1,h0,Ψ.mono g l _ _ h⟩
 | eW ks ds=>have⟨vs,e1,h0,h⟩:=h;exact⟨vs,e.trans e1,h0,Ψ.mono g l _ _ h⟩
 | raw u=>exact e.trans h
section
variable{K:fI}{G:Hp}{L:List Addr}{M:Ms}{H:Hp}{p:Addr}{o:HO}
def Rl.xr(r:Rl K G L M H){a:Addr}(h:a∈L):∃(k:Nat) (m:MO),L[k]? =some a/\M[k]? =some m/\G a=none/\Hx K G L H a m:=by
 have⟨k,hk,e⟩:=abf h;have e1:L[k]? =some a:=by rw[aaa hk,e]
 have e2:M[k]? =some (M[k]'(by rw[<-r.len];exact hk)):=aaa _;exact⟨k,_,e1,e2,r.f_ k a _ e1 e2⟩
def Rl.MM(r:Rl K G L M H)(hp:H p=none):p∉L:=λz=>by have⟨k,m,_,_,_,h⟩:=r.xr z;exact h.there hp
def Rl.ML(r:Rl K G L M H)(hp:H p=none):Rl K (upd G p o) L M (upd H p o) where
 sub:=λb u e=>by
  by_cases hb:b=p
  ·subst hb;rw[af]at e⊢;exact e
  ·rw[Θ hb]at e⊢;exact r.sub b u e
 len:=r.len
 nd:=r.nd
 f_:=λk a m h1 h2=>by have⟨q1,q2⟩:=r.f_ k a m h1 h2;have hb:a≠p:=λz=>q2.there (by rw[z];exact hp);exact⟨by rw[Θ hb];exact q1,q2.mono (λb u e=>by rw[Θ (λz=>by rw[z,r.sub.free hp]at e;cases e)];exact e) (.refl _) (Θ hb)⟩
def Rl.RE(r:Rl K G L M H)(hp:H p=none):Ex G L H (upd G p o) L (upd H p o) where
 g:=λb u e=>by rw[Θ (λz=>by rw[z,r.sub.free hp]at e;cases e)];exact e
 l:=.refl _
 fr:=λb h1 h2=>by rw[Θ (λz=>h2 (by rw[z];exact hp))];exact h1
 out:=λb u h1 _=>by rw[Θ (λz=>by rw[z,hp]at h1;cases h1)];exact h1
 new:=λb h=>.inl h
 Cg:=λb h=>by rw[Θ (λz=>h (by rw[z];exact hp))];exact h
def Rl.Nl{m:MO}(r:Rl K G L M H)(hp:H p=none)(hm:Hx K G (L++[p]) (upd H p o) p m):Rl K G (L++[p]) (M++[m]) (upd H p o) where
 sub:=λb u e=>by rw[Θ (λz=>by rw[z,r.sub.free hp]at e;cases e)];exact r.sub b u e
 len:=by rw[aag,aag,r.len];rfl
 nd:=List.nodup_append.mpr ⟨r.nd,by simp,λa ha b hb=>by
  have e:b=p:=by simpa using hb
  rw[e];exactλz=>r.MM hp (z▸ha)⟩
 f_:=λk a m' h1 h2=>by
  by_cases hk:k < L.length
  ·rw[aat hk]at h1;rw[aat (by rw[<-r.len];exact hk)]at h2;have⟨q1,q2⟩:=r.f_ k a m' h1 h2;exact⟨q1,q2.mono (.refl _) ⟨[p],rfl⟩ (Θ λz=>q2.there (by rw[z];exact hp))⟩
  ·have e:k=L.length:=by have:=(aaf.mp h1).1;rw[aag]at this;simp at this;omega
   rw[e,aan (aai _)]at h1;rw[e,r.len,aan (aai _)]at h2;simp at h1 h2;subst h1 h2;exact⟨r.sub.free hp,hm⟩
def Rl.V5(r:Rl K G L M H)(hp:H p=none):Ex G L H G (L++[p]) (upd H p o) where
 g:=.refl _
 l:=⟨[p],rfl⟩
 fr:=λb h1 _=>h1
 out:=λb u h1 _=>by rw[Θ (λz=>by rw[z,hp]at h1;cases h1)];exact h1
 new:=λb h=>by
  rcases aa0.mp h with z| z
  ·exact .inl z
  ·have e:b=p:=by simpa using z
   right;rw[e];exact hp
 Cg:=λb h=>by rw[Θ (λz=>h (by rw[z];exact hp))];exact h
def Rl.setM{k:Nat}{a:Addr}{m:MO}(r:Rl K G L M H)(hk:L[k]? =some a)(hm:Hx K G L (upd H a o) a m):Rl K G L (M.set k m) (upd H a o) where
 sub:=λb u e=>by have⟨k',m',e1,e2,q1,_⟩:=r.xr (aam hk);rw[Θ (λz=>by rw[z,q1]at e;cases e)];exact r.sub b u e
 len:=by rw[abh];exact r.len
 nd:=r.nd
 f_:=λk' a' m' h1 h2=>by
  by_cases e:k'=k
  ·subst e;rw[hk]at h1;cases h1;have hl:k' < M.length:=by rw[<-r.len];exact(aaf.mp hk).1
   rw[abb hl]at h2;cases h2;have⟨_,_,_,_,q1,_⟩:=r.xr (aam hk);exact⟨q1,hm⟩
  ·rw[abr (λz=>e z.symm)]at h2;have⟨q1,q2⟩:=r.f_ k' a' m' h1 h2;have ne:a'≠a:=λz=>by subst z;exact e ((List.getElem?_inj (aaf.mp h1).1 r.nd).mp (h1.trans hk.symm))
   exact⟨q1,q2.mono (.refl _) (.refl _) (Θ ne)⟩
def Rl.J5{k:Nat}{a:Addr}(r:Rl K G L M H)(hk:L[k]? =some a):Ex G L H G L (upd H a o) where
 g:=.refl _
 l:=.refl _
 fr:=λb h1 _=>h1
 out:=λb u h1 h2=>by rw[Θ (λz=>h2 (by rw[z];exact aam hk))];exact h1
 new:=λb h=>.inl h
 Cg:=λb h=>by
  by_cases e:b=a
  ·rw[e,af];simp
  ·rw[Θ e];exact h
end
structure md(K:fI)(G:Hp)(L:List Addr)(ρ:En)(σ:St):Prop where
 len:ρ.length=σ.length
 f_:∀(i:Nat) (d:Dt),ρ[i]? =some (some d)->∃v,σ[i]? =some (some v)/\Den K G L d v
section
variable{K:fI}{G G':Hp}{L L':List Addr}{H H':Hp}{ρ:En}{σ:St}
def md.mono(h:md K G L ρ σ)(e:Ex G L H G' L' H'):md K G' L' ρ σ:=⟨h.len,λi d q=>let ⟨v,a,b⟩:=h.f_ i d q;⟨v,a,Den.mono e.g e.l d v b⟩⟩
def md.set(h:md K G L ρ σ)(i:Nat){d:Dt}{v:V}(q:Den K G L d v):md K G L (ρ.set i (some d)) (σ.set i (some v)):=by
 refine⟨by rw[abh,abh];exact h.len,λj d' e=>?_⟩;by_cases hj:i=j
 ·subst hj;have hl:i < ρ.length:=by have:=(aaf.mp e).1;rwa[abh]at this
  rw[abb hl]at e;cases e;exact⟨v,abb (by rw[<-h.len];exact hl),q⟩
 ·rw[abr hj]at e;have⟨u,a,b⟩:=h.f_ j d' e;exact⟨u,by rw[abr hj];exact a,b⟩
end
abbrev DQ:=Dt->Ms->Prop
abbrev DX:=En->Addr->List (Str×Dt)->Ms->Prop
def Va(K:fI)(G:Hp)(L:List Addr)(H:Hp)(fs:List (Str×Dt))(od:Option Addr):Prop:=
 (fs=[]/\od=none)\/fs≠[]/\∃dx vs,od=some dx/\G dx=some (.xd ((fs.map (·.1)).zip vs))/\Ψ K G L (fs.map (·.2)) vs
def uL(K:fI)(G:Hp)(L:List Addr)(H:Hp)(R:St->XK)(x:DX):Prop:=
 ∀σ ρ C fs M' G' L' H' od,x ρ C fs M'->Ex G L H G' L' H'->Rl K G' L' M' H'->md K G' L' ρ σ->Va K G' L' H' fs od->R σ (.ref C) od H'
def uL.on{K:fI}{G:Hp}{L:List Addr}{H G1:Hp}{L1:List Addr}{H1:Hp}{R:St->XK}{x:DX}(h:uL K G L H R x)(e:Ex G L H G1 L1 H1):uL K G1 L1 H1 R x:=
 λσ ρ C fs M' G' L' H' od q e' r n y=>h σ ρ C fs M' G' L' H' od q (e.trans e') r n y
def lT:DX:=λ_ _ _ _=>False
def IL{K:fI}{G:Hp}{L:List Addr}{H:Hp}{R:St->XK}:uL K G L H R lT:=λ_ _ _ _ _ _ _ _ _ q=>q.elim
abbrev DE:=En->Ms->DQ->DX->Prop
abbrev DT:=En->Ms->(Bool->Ms->Prop)->DX->Prop
abbrev DA:=En->Ms->(List Dt->Ms->Prop)->DX->Prop
structure l_ where
 nx:En->Ms->Prop
 rt:DQ
 bk:En->Ms->Prop:=λ_ _=>False
 ct:En->Ms->Prop:=λ_ _=>False
 x:DX:=lT
abbrev DS:=l_->En->Ms->Prop
inductive Fin(K:fI)(G0:Hp)(L0:List Addr)(H0:Hp)(q:DQ)(v:V)(H:Hp):Prop
 | mk (d:Dt) (G:Hp) (L:List Addr) (M:Ms) (e:Ex G0 L0 H0 G L H) (r:Rl K G L M H) (n:Den K G L d v) (h:q d M)
inductive uP(K:fI)(G0:Hp)(L0:List Addr)(H0:Hp)(q:Bool->Ms->Prop)(b:Bool)(H:Hp):Prop
 | mk (G:Hp) (L:List Addr) (M:Ms) (e:Ex G0 L0 H0 G L H) (r:Rl K G L M H) (h:q b M)
inductive NU(K:fI)(G0:Hp)(L0:List Addr)(H0:Hp)(q:List Dt->Ms->Prop)(vs:List V)(H:Hp):Prop
 | mk (ds:List Dt) (G:Hp) (L:List Addr) (M:Ms) (e:Ex G0 L0 H0 G L H) (r:Rl K G L M H) (n:Ψ K G L ds vs) (h:q ds M)
inductive fc(K:fI)(G0:Hp)(L0:List Addr)(H0:Hp)(q:En->Ms->Prop)(σ:St)(H:Hp):Prop
 | mk (ρ:En) (G:Hp) (L:List Addr) (M:Ms) (e:Ex G0 L0 H0 G L H) (r:Rl K G L M H) (n:md K G L ρ σ) (h:q ρ M)
def u_(K:fI)(G0:Hp)(L0:List Addr)(H0:Hp)(Dn:l_):yL:=⟨fc K G0 L0 H0 Dn.nx,Fin K G0 L0 H0 Dn.rt,fc K G0 L0 H0 Dn.bk,fc K G0 L0 H0 Dn.ct⟩
inductive Ap(K:fI)(R:St->XK)(t:DE)(σ:St)(H:Hp)(Q:VK):Prop
 | mk (G:Hp) (L:List Addr) (ρ:En) (M:Ms) (q:DQ) (x:DX) (r:Rl K G L M H) (n:md K G L ρ σ) (h:t ρ M q x) (hx:uL K G L H R x) (hQ:∀v H1,Fin K G L H q v H1->Q v H1)
inductive GL(K:fI)(R:St->XK)(t:DT)(σ:St)(H:Hp)(Q:Bool->Hp->Prop):Prop
 | mk (G:Hp) (L:List Addr) (ρ:En) (M:Ms) (q:Bool->Ms->Prop) (x:DX) (r:Rl K G L M H) (n:md K G L ρ σ) (h:t ρ M q x) (hx:uL K G L H R x) (hQ:∀b H1,uP K G L H q b H1->Q b H1)
inductive SK(K:fI)(R:St->XK)(t:DA)(σ:St)(H:Hp)(Q:List V->Hp->Prop):Prop
 | mk (G:Hp) (L:List Addr) (ρ:En) (M:Ms) (q:List Dt->Ms->Prop) (x:DX) (r:Rl K G L M H) (n:md K G L ρ σ) (h:t ρ M q x) (hx:uL K G L H R x) (hQ:∀vs H1,NU K G L H q vs H1->Q vs H1)
structure PF(A B:yL):Prop where
 nx:∀σ H,A.nx σ H->B.nx σ H
 rt:∀v H,A.rt v H->B.rt v H
 bk:∀σ H,A.bk σ H->B.bk σ H
 ct:∀σ H,A.ct σ H->B.ct σ H
inductive R7(K:fI)(R:St->XK)(t:DS)(De:yL)(σ:St)(H:Hp):Prop
 | mk (G:Hp) (L:List Addr) (ρ:En) (M:Ms) (Dn:l_) (r:Rl K G L M H) (n:md K G L ρ σ) (h:t Dn ρ M) (hx:uL K G L H R Dn.x) (hQ:PF (u_ K G L H Dn) De)
def JE(X:Cx)(R:St->XK)(e:Expr)(t:DE):Prop:=PE X e (Ap X.K R t)
def JT(X:Cx)(R:St->XK)(e:Expr)(t:DT):Prop:=PT X e (GL X.K R t)
def JW(X:Cx)(R:St->XK)(e:Expr)(t:DT):Prop:=PW X e (GL X.K R t)
def JA(X:Cx)(R:St->XK)(es:List Expr)(t:DA):Prop:=PA X es (SK X.K R t)
def JS(X:Cx)(R:St->XK)(st:Stmt)(t:DS):Prop:=PS X st (R7 X.K R t)
def B2(X:Cx)(R:St->XK)(st:List Stmt)(t:DS):Prop:=Hr X st (R7 X.K R t)
section
variable{K:fI}{G0:Hp}{L0:List Addr}{H0 G1:Hp}{L1:List Addr}{H1:Hp}
def Fin.back{q:DQ}(e:Ex G0 L0 H0 G1 L1 H1){v:V}{H:Hp}(h:Fin K G1 L1 H1 q v H):Fin K G0 L0 H0 q v H:=let ⟨d,G,L,M,a,b,c,f⟩:=h;⟨d,G,L,M,e.trans a,b,c,f⟩
def fc.back{q:En->Ms->Prop}(e:Ex G0 L0 H0 G1 L1 H1){v:St}{H:Hp}(h:fc K G1 L1 H1 q v H):fc K G0 L0 H0 q v H:=let ⟨d,G,L,M,a,b,c,f⟩:=h;⟨d,G,L,M,e.trans a,b,c,f⟩
def uP.back{q:Bool->Ms->Prop}(e:Ex G0 L0 H0 G1 L1 H1){v:Bool}{H:Hp}(h:uP K G1 L1 H1 q v H):uP K G0 L0 H0 q v H:=let ⟨G,L,M,a,b,f⟩:=h;⟨G,L,M,e.trans a,b,f⟩
def u_.back{Dn:l_}(e:Ex G0 L0 H0 G1 L1 H1):PF (u_ K G1 L1 H1 Dn) (u_ K G0 L0 H0 Dn):=⟨λ_ _ h=>fc.back e h,λ_ _ h=>Fin.back e h,λ_ _ h=>fc.back e h,λ_ _ h=>fc.back e h⟩
def SP.imp{X:Cx}{ζ:List (Addr×Obj)}{A B:yL}(e:PF A B){f:Flow}{s:Shared}(h:SP X ζ A f s):SP X ζ B f s:=by
 cases f with
 | next=>have⟨a,b,I,q⟩:=h;exact⟨a,b,I,e.nx _ _ q⟩
 | brk=>have⟨a,b,I,q⟩:=h;exact⟨a,b,I,e.bk _ _ q⟩
 | cont=>have⟨a,b,I,q⟩:=h;exact⟨a,b,I,e.ct _ _ q⟩
 | ret u=>have⟨v,a,b,I,r,q⟩:=h;exact⟨v,a,b,I,r,e.rt _ _ q⟩
end
section
variable{X:Cx}{R:St->XK}{e:Expr}
def JE.of{te:TE}{t:DE}(h:PE X e te)(hw:∀σ H G L ρ M q x,Rl X.K G L M H->md X.K G L ρ σ->t ρ M q x->uL X.K G L H R x->te σ H (Fin X.K G L H q)):JE X R e t:=by intro ζ s σ H Q I ⟨G,L,ρ,M,q,x,r,n,ht,hx,hQ⟩;refine bH (h ζ s σ H _ I (hw σ H G L ρ M q x r n ht hx)) λu s1 ⟨v,H1,I1,rv,f⟩=>⟨v,H1,I1,rv,hQ v H1 f⟩
def JT.of{te:TT}{t:DT}(h:PT X e te)(hw:∀σ H G L ρ M q x,Rl X.K G L M H->md X.K G L ρ σ->t ρ M q x->uL X.K G L H R x->te σ H (uP X.K G L H q)):JT X R e t:=by intro ζ s σ H Q I ⟨G,L,ρ,M,q,x,r,n,ht,hx,hQ⟩;refine bH (h ζ s σ H _ I (hw σ H G L ρ M q x r n ht hx)) λu s1 ⟨H1,I1,f⟩=>⟨H1,I1,hQ u H1 f⟩
def JW.of{te:TT}{t:DT}(h:PW X e te)(hw:∀σ H G L ρ M q x,Rl X.K G L M H->md X.K G L ρ σ->t ρ M q x->uL X.K G L H R x->te σ H (uP X.K G L H q)):JW X R e t:=by intro wh ζ s σ H Q I ⟨G,L,ρ,M,q,x,r,n,ht,hx,hQ⟩;refine bH (h wh ζ s σ H _ I (hw σ H G L ρ M q x r n ht hx)) λu s1 ⟨H1,I1,f⟩=>⟨H1,I1,hQ u H1 f⟩
def JA.of{es:List Expr}{te:TA}{t:DA}(h:PA X es te)(hw:∀σ H G L ρ M q x,Rl X.K G L M H->md X.K G L ρ σ->t ρ M q x->uL X.K G L H R x->te σ H (NU X.K G L H q)):JA X R es t:=by intro pos ζ s σ H Q I ⟨G,L,ρ,M,q,x,r,n,ht,hx,hQ⟩;refine bH (h pos ζ s σ H _ I (hw σ H G L ρ M q x r n ht hx)) λu s1 ⟨v,H1,I1,rv,f⟩=>⟨v,H1,I1,rv,hQ v H1 f⟩
def JS.of{st:Stmt}{te:TS}{t:DS}(h:PS X st te)(hw:∀σ H G L ρ M Dn,Rl X.K G L M H->md X.K G L ρ σ->t Dn ρ M->uL X.K G L H R Dn.x->te (u_ X.K G L H Dn) σ H):JS X R st t:=by intro ζ s σ H De I ⟨G,L,ρ,M,Dn,r,n,ht,hx,hQ⟩;exact bH (h ζ s σ H _ I (hw σ H G L ρ M Dn r n ht hx)) λu s1 f=>SP.imp hQ f
def B2.of{st:List Stmt}{te:TS}{t:DS}(h:Hr X st te)(hw:∀σ H G L ρ M Dn,Rl X.K G L M H->md X.K G L ρ σ->t Dn ρ M->uL X.K G L H R Dn.x->te (u_ X.K G L H Dn) σ H):B2 X R st t:=by intro ζ s σ H De I ⟨G,L,ρ,M,Dn,r,n,ht,hx,hQ⟩;exact bH (h ζ s σ H _ I (hw σ H G L ρ M Dn r n ht hx)) λu s1 f=>SP.imp hQ f
end
def x'(i:Nat):DE:=λρ M q _=>match ρ[i]? with
 | some (some d)=>q d M
 | _=>False
def dC(d:Dt):DE:=λ_ M q _=>q d M
def lI(f:Dt->Dt->Ms->DQ->Prop)(a b:DE):DE:=λρ M q x=>a ρ M (λd1 M1=>b ρ M1 (λd2 M2=>f d1 d2 M2 q) x) x
def Vp(f:Dt->Ms->DQ->Prop)(a:DE):DE:=λρ M q x=>a ρ M (λd1 M1=>f d1 M1 q) x
def QH:DA:=λ_ M q _=>q [] M
def Eu(a:DE)(r:DA):DA:=λρ M q x=>a ρ M (λd M1=>r ρ M1 (λds M2=>q (d::ds) M2) x) x
def CQ(f:List Dt->Ms->DQ->Prop)(a:DA):DE:=λρ M q x=>a ρ M (λds M1=>f ds M1 q) x
def oz(K:fI)(r:R2)(f:Dt->Dt->Ms->DQ->Prop):Prop:=
 ∀G0 L0 H0 G L M H v1 v2 d1 d2 q,Ex G0 L0 H0 G L H->Rl K G L M H->Den K G L d1 v1->Den K G L d2 v2->f d1 d2 M q->r v1 v2 H (Fin K G0 L0 H0 q)
def Zd(K:fI)(r:V->Hp->VK->Prop)(f:Dt->Ms->DQ->Prop):Prop:=
 ∀G0 L0 H0 G L M H v1 d1 q,Ex G0 L0 H0 G L H->Rl K G L M H->Den K G L d1 v1->f d1 M q->r v1 H (Fin K G0 L0 H0 q)
def EA(K:fI)(r:List V->Hp->VK->Prop)(f:List Dt->Ms->DQ->Prop):Prop:=
 ∀G0 L0 H0 G L M H vs ds q,Ex G0 L0 H0 G L H->Rl K G L M H->Ψ K G L ds vs->f ds M q->r vs H (Fin K G0 L0 H0 q)
section
variable{K:fI}{R:St->XK}{ta tb:DE}{tc:DA}{σ:St}{H G:Hp}{L:List Addr}{ρ:En}{M:Ms}{q:DQ}{x:DX}
def Cc{r:R2}{f:Dt->Dt->Ms->DQ->Prop}(od:oz K r f)(rl:Rl K G L M H)(n:md K G L ρ σ)(h:lI f ta tb ρ M q x)(hx:uL K G L H R x):SH r (Ap K R ta) (Ap K R tb) σ H (Fin K G L H q):=by refine⟨G,L,ρ,M,_,x,rl,n,h,hx,λv H1 xz=>?_⟩;have⟨d1,G1,L1,M1,e1,r1,n1,h1⟩:=xz;refine⟨G1,L1,ρ,M1,_,x,r1,n.mono e1,h1,hx.on e1,λv2 H2 xz=>?_⟩;have⟨d2,G2,L2,M2,e2,r2,n2,h2⟩:=xz;exact od G L H G2 L2 M2 H2 v v2 d1 d2 q (e1.trans e2) r2 (Den.mono e2.g e2.l _ _ n1) n2 h2
def U3{r:V->Hp->VK->Prop}{f:Dt->Ms->DQ->Prop}(od:Zd K r f)(rl:Rl K G L M H)(n:md K G L ρ σ)(h:Vp f ta ρ M q x)(hx:uL K G L H R x):tUn r (Ap K R ta) σ H (Fin K G L H q):=by refine⟨G,L,ρ,M,_,x,rl,n,h,hx,λv H1 xz=>?_⟩;have⟨d1,G1,L1,M1,e1,r1,n1,h1⟩:=xz;exact od G L H G1 L1 M1 H1 v d1 q e1 r1 n1 h1
def Om{r:List V->Hp->VK->Prop}{f:List Dt->Ms->DQ->Prop}(od:EA K r f)(rl:Rl K G L M H)(n:md K G L ρ σ)(h:CQ f tc ρ M q x)(hx:uL K G L H R x):Wz r (SK K R tc) σ H (Fin K G L H q):=by refine⟨G,L,ρ,M,_,x,rl,n,h,hx,λv H1 xz=>?_⟩;have⟨d1,G1,L1,M1,e1,r1,n1,h1⟩:=xz;exact od G L H G1 L1 M1 H1 v d1 q e1 r1 n1 h1
end
section
variable{X:Cx}{R:St->XK}{a b c:Expr}{ta tb:DE}{pos:Pos}
def jv(i:Nat){x:Str}{pos:Pos}(hN:X.N[i]? =some x:=by rfl)(hv:W6 X.env.scope x:=by first| exact Or.inl rfl| exact Or.inr (Or.inl rfl)| exact Or.inr (Or.inr rfl))(hd:(x==("__debug__":Str))=false:=by decide)
  (Dv:(x==("__classdict__":Str))=false:=by decide):JE X R (.Name x pos) (x' i):=.of (QN hN hv hd Dv) λσ H G L ρ M q x r n h hx=>by
 unfold x' at h;split at h
 ·rename_i d e;have⟨v,e1,h1⟩:=n.f_ i d e;exact⟨v,e1,d,G,L,M,.refl _ _ _,r,h1,h⟩
 ·exact h.elim
def Ro{d:Dt}{v:V}{e:Expr}(h:PE X e (tC v))(hd:∀G L,Den X.K G L d v):JE X R e (dC d):=.of h λσ H G L ρ M q x r n h hx=>⟨d,G,L,M,.refl _ _ _,r,hd G L,h⟩
def ψ{i j pos}:JE X R (.Constant (.int i) j pos) (dC (.int i)):=Ro O6 λ_ _=>rfl
def CB{b j pos}:JE X R (.Constant (.bool b) j pos) (dC (.bl b)):=Ro SR λ_ _=>rfl
def MC{j pos}:JE X R (.Constant .none j pos) (dC .bF):=Ro Qv λ_ _=>rfl
def jV{x j pos}:JE X R (.Constant (.str x) j pos) (dC (.str x)):=Ro K7 λ_ _=>rfl
def wJ{op:Operator}{r:R2}{f:Dt->Dt->Ms->DQ->Prop}(ho:jS X (binaryOp op) r)(od:oz X.K r f)(ja:JE X R a ta)(jb:JE X R b tb):JE X R (.BinOp a op b pos) (lI f ta tb):=
 .of (Vf ho ja jb) λσ H G L ρ M q x r n h hx=>Cc od r n h hx
def Wo{op:UnaryOp}{r:V->Hp->VK->Prop}{f:Dt->Ms->DQ->Prop}(ho:VU X (unaryOp op) r)(od:Zd X.K r f)(ja:JE X R a ta):JE X R (.UnaryOp op a pos) (Vp f ta):=
 .of (TY ho ja) λσ H G L ρ M q x r n h hx=>U3 od r n h hx
def vB{op:CmpOp}{r:R2}{f:Dt->Dt->Ms->DQ->Prop}(ho:jS X (compareOp op) r)(od:oz X.K r f)(ja:JE X R a ta)(jb:JE X R b tb)(hm:behindInMarks op b=false):JE X R (.Compare a [op] [b] pos) (lI f ta tb):=
 .of (Mf ho ja jb hm) λσ H G L ρ M q x r n h hx=>Cc od r n h hx
def R9{r:R2}{f:Dt->Dt->Ms->DQ->Prop}(hr:Lp X r)(od:oz X.K r f)(ja:JE X R a ta)(jb:JE X R b tb)(hs:yv b):JE X R (.Subscript a b pos) (lI f ta tb):=
 .of (TL hr ja jb hs) λσ H G L ρ M q x r n h hx=>Cc od r n h hx
def eE{env:Env}{es:List Expr}{c j p}:starEach (.Constant c j p::es) env=(false,eval (.Constant c j p) env)::starEach es env:=rfl
def OH{env:Env}{es:List Expr}{c p}:starEach (.Name c p::es) env=(false,eval (.Name c p) env)::starEach es env:=rfl
def cj{env:Env}{es:List Expr}{a o b p}:starEach (.BinOp a o b p::es) env=(false,eval (.BinOp a o b p) env)::starEach es env:=rfl
def aS{env:Env}{es:List Expr}{a b c p}:starEach (.Call a b c p::es) env=(false,eval (.Call a b c p) env)::starEach es env:=rfl
def aU{env:Env}{es:List Expr}{a b p}:starEach (.Subscript a b p::es) env=(false,eval (.Subscript a b p) env)::starEach es env:=rfl
def Ea{env:Env}{es:List Expr}{a b p}:starEach (.Tuple a b p::es) env=(false,eval (.Tuple a b p) env)::starEach es env:=rfl
def Ey{env:Env}{es:List Expr}{a o b p}:starEach (.Compare a o b p::es) env=(false,eval (.Compare a o b p) env)::starEach es env:=rfl
def θ:JA X R [] QH:=.of QG λσ H G L ρ M q x r n h hx=>⟨[],G,L,M,.refl _ _ _,r,rfl,h⟩
def ι{e:Expr}{es:List Expr}{te:DE}{t:DA}(ha:JE X R e te)(hr:JA X R es t)(hs:starEach (e::es) X.env=(false,eval e X.env)::starEach es X.env:=by first| exact eE| exact OH| exact cj| exact aS| exact aU| exact Ea| exact Ey| exact aaT| rfl):JA X R (e::es) (Eu te t):=
 .of (Mv ha hr hs) λσ H G L ρ M q x rl n h hx=>by refine⟨G,L,ρ,M,_,x,rl,n,h,hx,λv H1 xz=>?_⟩;have⟨d1,G1,L1,M1,e1,r1,n1,h1⟩:=xz;refine⟨G1,L1,ρ,M1,_,x,r1,n.mono e1,h1,hx.on e1,λv2 H2 xz=>?_⟩;have⟨d2,G2,L2,M2,e2,r2,n2,h2⟩:=xz;exact⟨d1::d2,G2,L2,M2,e1.trans e2,r2,⟨_,_,rfl,Den.mono e2.g e2.l _ _ n1,n2⟩,h2⟩
def Τ{c:Str}{p:Pos}{es:List Expr}{te:DE}{t:DA}(ha:JE X R (.Name c p) te)(hr:JA X R es t):JA X R (.Name c p::es) (Eu te t):=ι ha hr OH
def TR(t:DA):DE:=λρ M q x=>t ρ M (λds M1=>ds.length<=sizeLine/\q (.tup ds) M1) x
def Ua(t:DA):DE:=λρ M q x=>t ρ M (λds M1=>ds.length<=sizeLine/\q (.lst ds) M1) x
def Of(t:DA):DE:=λρ M q x=>t ρ M (λds M1=>ds.length<=sizeLine/\q (.loc M1.length) (M1++[.lst ds])) x
def lO{K:fI}{G0:Hp}{L0:List Addr}{H0 G:Hp}{L:List Addr}{M:Ms}{H:Hp}{p:Addr}{o:HO}{d:Dt}{q:DQ}(e:Ex G0 L0 H0 G L H)(r:Rl K G L M H)(hp:H p=none)(hd:Den K (upd G p o) L d (.ref p))(h:q d M):Fin K G0 L0 H0 q (.ref p) (upd H p o):=
 ⟨d,upd G p o,L,M,e.trans (r.RE hp),r.ML hp,hd,h⟩
def rq{K:fI}{G:Hp}{L:List Addr}{M:Ms}{H:Hp}{p:Addr}{ds:List Dt}{vs:List V}(r:Rl K G L M H)(hp:H p=none)(h:Ψ K G L ds vs):Den K (upd G p (.tup vs)) L (.tup ds) (.ref p):=
 ⟨p,vs,rfl,af,Ψ.mono (r.RE hp).g (.refl _) _ _ h⟩
def q5{K:fI}{G:Hp}{L:List Addr}{M:Ms}{H:Hp}{p:Addr}{ds:List Dt}{vs:List V}(r:Rl K G L M H)(hp:H p=none)(h:Ψ K G L ds vs):Den K (upd G p (.lst vs)) L (.lst ds) (.ref p):=
 ⟨p,vs,rfl,af,Ψ.mono (r.RE hp).g (.refl _) _ _ h⟩
def jj{K:fI}{G0:Hp}{L0:List Addr}{H0 G:Hp}{L:List Addr}{M:Ms}{H:Hp}{p:Addr}{q:DQ}{ds:List Dt}{vs:List V}(e:Ex G0 L0 H0 G L H)(r:Rl K G L M H)(hp:H p=none)(hd:Ψ K G L ds vs)(h:q (.loc M.length) (M++[.lst ds])):Fin K G0 L0 H0 q (.ref p) (upd H p (.lst vs)):=
 ⟨.loc M.length,G,L++[p],M++[.lst ds],e.trans (r.V5 hp),r.Nl (m:=.lst ds) hp ⟨vs,af,Ψ.mono (.refl _) ⟨[p],rfl⟩ _ _ hd⟩,⟨p,rfl,by rw[<-r.len,List.getElem?_append_right (Nat.le_refl _)];simp⟩,h⟩
variable{es:List Expr}{t:DA}
def fR{x1}(h:JA X R es t):JE X R (.Tuple es x1 pos) (TR t):=.of (QI h) λσ H G L ρ M q x rl n h hx=>by refine⟨G,L,ρ,M,_,x,rl,n,h,hx,fun v H1 ⟨d1,G1,L1,M1,e1,r1,n1,h1⟩=>⟨by rw[<-n1.length];exact h1.1,λp hp=>?_⟩⟩;exact lO e1 r1 hp (rq r1 hp n1) h1.2
def ma(h:JA X R es t):JE X R (.List es pos) (Ua t):=.of (Ka h) λσ H G L ρ M q x rl n h hx=>by refine⟨G,L,ρ,M,_,x,rl,n,h,hx,fun v H1 ⟨d1,G1,L1,M1,e1,r1,n1,h1⟩=>⟨by rw[<-n1.length];exact h1.1,λp hp=>?_⟩⟩;exact lO e1 r1 hp (q5 r1 hp n1) h1.2
def hG(h:JA X R es t):JE X R (.List es pos) (Of t):=.of (Ka h) λσ H G L ρ M q x rl n h hx=>by refine⟨G,L,ρ,M,_,x,rl,n,h,hx,fun v H1 ⟨d1,G1,L1,M1,e1,r1,n1,h1⟩=>⟨by rw[<-n1.length];exact h1.1,λp hp=>?_⟩⟩;exact jj e1 r1 hp n1 h1.2
def pO(t:DE):DT:=λρ M q x=>t ρ M (λd M1=>match d with
 | .bl b=>q b M1
 | _=>False) x
def Sv(t u:DT):DT:=λρ M q x=>t ρ M (λc M1=>(c=true->u ρ M1 q x)/\(c=false->q false M1)) x
def Z5(t u:DT):DT:=λρ M q x=>t ρ M (λc M1=>(c=true->q true M1)/\(c=false->u ρ M1 q x)) x
def Tw(t:DT):DT:=λρ M q x=>t ρ M (λc M1=>q (!c) M1) x
def Qo{K:fI}{t:DE}{σ:St}{H G:Hp}{L:List Addr}{ρ:En}{M:Ms}{q:Bool->Ms->Prop}{x:DX}(rl:Rl K G L M H)(n:md K G L ρ σ)(h:pO t ρ M q x)(hx:uL K G L H R x):tB (Ap K R t) σ H (uP K G L H q):=by
 refine⟨G,L,ρ,M,_,x,rl,n,h,hx,λv H1 xz=>?_⟩;have⟨d1,G1,L1,M1,e1,r1,n1,h1⟩:=xz
 (try dsimp only at h1)
 split at h1
 ·rename_i b;exact⟨b,n1,G1,L1,M1,e1,r1,h1⟩
 ·exact h1.elim
def bL{e:Expr}{t:DE}(h:JE X R e t)(he:∀whole,isTrue e X.env whole=(do let v<-whole;standAt e.pos;holding [v] (truthy v)):=by intro _;rfl):JT X R e (pO t):=
 .of (O_ h he) λσ H G L ρ M q x rl n h hx=>Qo rl n h hx
def jG{op:CmpOp}{r:R2}{f:Dt->Dt->Ms->DQ->Prop}(ho:jS X (compareOp op) r)(od:oz X.K r f)(ja:JE X R a ta)(jb:JE X R b tb)(hm:behindInMarks op b=false):JT X R (.Compare a [op] [b] pos) (pO (lI f ta tb)):=
 .of (Lw ho ja jb hm) λσ H G L ρ M q x rl n h hx=>by
  have h:lI f ta tb ρ M (λd M1=>match d with| .bl b=>q b M1| _=>False) x:=h;refine⟨G,L,ρ,M,_,x,rl,n,h,hx,λv H1 xz=>?_⟩;have⟨d1,G1,L1,M1,e1,r1,n1,h1⟩:=xz;refine⟨G1,L1,ρ,M1,_,x,r1,n.mono e1,h1,hx.on e1,λv2 H2 xz=>?_⟩;have⟨d2,G2,L2,M2,e2,r2,n2,h2⟩:=xz;have:=od G L H G2 L2 M2 H2 v v2 d1 d2 _ (e1.trans e2) r2 (Den.mono e2.g e2.l _ _ n1) n2 h2;have e:(λx H'=>∃k,x=V.bl k/\uP X.K G L H q k H')=Fin X.K G L H (λd M1=>match d with| .bl b=>q b M1| _=>False):=by
   funext y H'
   apply propext;constructor
   ·rintro⟨k,rfl,G3,L3,M3,e3,r3,h3⟩;exact⟨.bl k,G3,L3,M3,e3,r3,rfl,h3⟩
   ·rintro⟨d,G3,L3,M3,e3,r3,n3,h3⟩;split at h3
    ·rename_i k;exact⟨k,n3,G3,L3,M3,e3,r3,h3⟩
    ·exact h3.elim
  rw[e];exact this
def JW.jt{e:Expr}{t:DT}(h:JW X R e t):JT X R e t:=h _
variable{t1 t2:DT}{rest:List Expr}
def Du(ha:JT X R a t1):JW X R (.BoolOp .And [a] pos) t1:=pw_and1 ha
def j8(ha:JT X R a t1):JW X R (.BoolOp .Or [a] pos) t1:=pw_or1 ha
def JQ(ha:JT X R a t1)(hb:JW X R (.BoolOp .And (b::rest) pos) t2):JW X R (.BoolOp .And (a::b::rest) pos) (Sv t1 t2):=.of (pw_and ha hb) λσ H G L ρ M q x rl n h hx=>by
 refine⟨G,L,ρ,M,_,x,rl,n,h,hx,λc H1 xz=>?_⟩;have⟨G1,L1,M1,e1,r1,h1⟩:=xz;cases c with
 | true=>exact Fx ⟨G1,L1,ρ,M1,_,x,r1,n.mono e1,h1.1 rfl,hx.on e1,λb H2 f=>uP.back e1 f⟩
 | false=>exact Hj ⟨G1,L1,M1,e1,r1,h1.2 rfl⟩
def l9(ha:JT X R a t1)(hb:JW X R (.BoolOp .Or (b::rest) pos) t2):JW X R (.BoolOp .Or (a::b::rest) pos) (Z5 t1 t2):=.of (pw_or ha hb) λσ H G L ρ M q x rl n h hx=>by
 refine⟨G,L,ρ,M,_,x,rl,n,h,hx,λc H1 xz=>?_⟩;have⟨G1,L1,M1,e1,r1,h1⟩:=xz;cases c with
 | true=>exact Fx ⟨G1,L1,M1,e1,r1,h1.1 rfl⟩
 | false=>exact Hj ⟨G1,L1,ρ,M1,_,x,r1,n.mono e1,h1.2 rfl,hx.on e1,λb H2 f=>uP.back e1 f⟩
def hV(ha:JT X R a t1):JT X R (.UnaryOp .Not a pos) (Tw t1):=.of (P7 ha) λσ H G L ρ M q x rl n h hx=>
 ⟨G,L,ρ,M,_,x,rl,n,h,hx,λ_ _ ⟨G,L,M,e,r,h⟩=>⟨G,L,M,e,r,h⟩⟩
def UR(t u:DE):DE:=λρ M q x=>t ρ M (λd M1=>match d with
 | .bl c=>(c=true->u ρ M1 q x)/\(c=false->q (.bl false) M1)
 | _=>False) x
def T6(t:DE):DE:=λρ M q x=>t ρ M (λd M1=>match d with
 | .bl c=>q (.bl (!c)) M1
 | _=>False) x
def ZV(t:DT)(u v:DE):DE:=λρ M q x=>t ρ M (λc M1=>(c=true->u ρ M1 q x)/\(c=false->v ρ M1 q x)) x
def kB{op}{t:DE}(h:JE X R a t):JE X R (.BoolOp op [a] pos) t:=QP h
def gY(ha:JE X R a ta)(hb:JE X R (.BoolOp .And (b::rest) pos) tb):JE X R (.BoolOp .And (a::b::rest) pos) (UR ta tb):=.of (QL ha hb) λσ H G L ρ M q x rl n h hx=>by
 refine⟨G,L,ρ,M,_,x,rl,n,h,hx,λv H1 xz=>?_⟩;have⟨d1,G1,L1,M1,e1,r1,n1,h1⟩:=xz
 (try dsimp only at h1)
 split at h1
 ·rename_i c;refine⟨c,n1,?_⟩;cases c with
  | true=>exact Fx ⟨G1,L1,ρ,M1,_,x,r1,n.mono e1,h1.1 rfl,hx.on e1,λb H2 f=>Fin.back e1 f⟩
  | false=>exact Hj ⟨.bl false,G1,L1,M1,e1,r1,rfl,h1.2 rfl⟩
 ·exact h1.elim
def Rf(ha:JE X R a ta):JE X R (.UnaryOp .Not a pos) (T6 ta):=.of (Pz ha) λσ H G L ρ M q x rl n h hx=>by
 refine⟨G,L,ρ,M,_,x,rl,n,h,hx,λv H1 xz=>?_⟩;have⟨d1,G1,L1,M1,e1,r1,n1,h1⟩:=xz
 (try dsimp only at h1)
 split at h1
 ·rename_i c;exact⟨c,n1,.bl (!c),G1,L1,M1,e1,r1,rfl,h1⟩
 ·exact h1.elim
def Ag{c:Expr}(hc:JT X R c t1)(ha:JE X R a ta)(hb:JE X R b tb):JE X R (.IfExp c a b pos) (ZV t1 ta tb):=.of (Ky hc ha hb) λσ H G L ρ M q x rl n h hx=>by
 refine⟨G,L,ρ,M,_,x,rl,n,h,hx,λc H1 xz=>?_⟩;have⟨G1,L1,M1,e1,r1,h1⟩:=xz;cases c with
 | true=>exact Fx ⟨G1,L1,ρ,M1,_,x,r1,n.mono e1,h1.1 rfl,hx.on e1,λb H2 f=>Fin.back e1 f⟩
 | false=>exact Hj ⟨G1,L1,ρ,M1,_,x,r1,n.mono e1,h1.2 rfl,hx.on e1,λb H2 f=>Fin.back e1 f⟩
end
def N3:DS:=λDn ρ M=>Dn.nx ρ M
def UI(t u:DS):DS:=λDn ρ M=>t {Dn with nx:=u Dn} ρ M
def sIf(c:DT)(t u:DS):DS:=λDn ρ M=>c ρ M (λb M1=>(b=true->t Dn ρ M1)/\(b=false->u Dn ρ M1)) Dn.x
def SI(t:DE):DS:=λDn ρ M=>t ρ M Dn.rt Dn.x
def Lv(i:Nat)(t:DE):DS:=λDn ρ M=>t ρ M (λd M1=>Dn.nx (ρ.set i (some d)) M1) Dn.x
def Jy(t:DE):DS:=λDn ρ M=>t ρ M (λ_ M1=>Dn.nx ρ M1) Dn.x
def XC(t:DS):DS:=λDn ρ M=>∃J:En->Ms->Prop,t {Dn with nx:=J} ρ M/\∀ρ' M',J ρ' M'->Dn.nx ρ' M'
section
variable{X:Cx}{R:St->XK}{st:Stmt}{rest:List Stmt}{t u:DS}{e:Expr}{te:DE}{pos:Pos}
def Υ:B2 X R [] N3:=.of Mt λσ H G L ρ M Dn rl n h hx=>⟨ρ,G,L,M,.refl _ _ _,rl,n,h⟩
def μ(h1:JS X R st t):B2 X R [st] t:=Mn h1
def η(h1:JS X R st t)(h2:B2 X R rest u):B2 X R (st::rest) (UI t u):=.of (J0 h1 h2) λσ H G L ρ M Dn rl n h hx=>by refine⟨G,L,ρ,M,_,rl,n,h,hx,⟨λσ1 H1 xz=>?_,λ_ _ f=>f,λ_ _ f=>f,λ_ _ f=>f⟩⟩;have⟨ρ1,G1,L1,M1,e1,r1,n1,h1⟩:=xz;exact⟨G1,L1,ρ1,M1,Dn,r1,n1,h1,hx.on e1,u_.back e1⟩
def qA:JS X R (.Continue pos) (λDn ρ M=>Dn.ct ρ M):=.of zy λσ H G L ρ M Dn rl n h hx=>⟨ρ,G,L,M,.refl _ _ _,rl,n,h⟩
def Ζ(he:JE X R e te):JS X R (.Return (some e) pos) (SI te):=.of (Q4 he) λσ H G L ρ M Dn rl n h hx=>⟨G,L,ρ,M,_,_,rl,n,h,hx,λ_ _ f=>f⟩
def dh(he:JE X R e te)(hs:swapsWith e none pos.line X.env=pure false:=by rfl):JS X R (.Expr e pos) (Jy te):=.of (NC he hs) λσ H G L ρ M Dn rl n h hx=>by refine⟨G,L,ρ,M,_,_,rl,n,h,hx,λv H1 ⟨d1,G1,L1,M1,e1,r1,n1,h1⟩=>⟨ρ,G1,L1,M1,e1,r1,n.mono e1,h1⟩⟩
def aI{c:Expr}{a b:List Stmt}{tc:DT}(hc:JT X R c tc)(ha:B2 X R a t)(hb:B2 X R b u):JS X R (.If c a b pos) (sIf tc t u):=.of (R4 hc ha hb) λσ H G L ρ M Dn rl n h hx=>by
 refine⟨G,L,ρ,M,_,_,rl,n,h,hx,λc H1 xz=>?_⟩;have⟨G1,L1,M1,e1,r1,h1⟩:=xz;cases c with
 | true=>exact Fx ⟨G1,L1,ρ,M1,Dn,r1,n.mono e1,h1.1 rfl,hx.on e1,u_.back e1⟩
 | false=>exact Hj ⟨G1,L1,ρ,M1,Dn,r1,n.mono e1,h1.2 rfl,hx.on e1,u_.back e1⟩
def Γ(i:Nat){x:Str}{pos':Pos}(hN:X.N.Nodup)(he:JE X R e te)(hi:X.N[i]? =some x:=by rfl)(hx:Loc X.env.scope x:=by first| exact .inl rfl| exact .inr rfl)(hs:swapsWith e (some (.Name x pos')) pos.line X.env=pure false:=by rfl)(hf:X.fn x=true\/X.env.scope.names.lookup x=some .local:=by first| exact .inl rfl| exact .inr rfl| assumption):
  JS X R (.Assign [.Name x pos'] e pos) (Lv i te):=.of (OS hN hi hx he hs hf) λσ H G L ρ M Dn rl n h hx=>by
 refine⟨G,L,ρ,M,_,_,rl,n,h,hx,λv H1 ⟨d1,G1,L1,M1,e1,r1,n1,h1⟩=>⟨_,G1,L1,M1,e1,r1,(n.mono e1).set i n1,h1⟩⟩
def k4(h:JS X R st t):JS X R st (XC t):=.of h λσ H G L ρ M Dn rl n h hx=>by have⟨J,h1,h2⟩:=h;refine⟨G,L,ρ,M,_,rl,n,h1,hx,⟨λσ1 H1 ⟨ρ1,G1,L1,M1,e1,r1,n1,h1⟩=>⟨ρ1,G1,L1,M1,e1,r1,n1,h2 _ _ h1⟩,λ_ _ f=>f,λ_ _ f=>f,λ_ _ f=>f⟩⟩
end
abbrev Z3:=Addr->List (Str×Dt)->Ms->Prop
abbrev DF:=List Dt->Ms->DQ->Z3->Prop
inductive cK(K:fI)(T:DF)(vs:List V)(H:Hp)(Q:VK)(E:XK):Prop
 | mk (G:Hp) (L:List Addr) (ds:List Dt) (M:Ms) (q:DQ) (x:Z3) (r:Rl K G L M H) (n:Ψ K G L ds vs) (h:T ds M q x) (hQ:∀v H1,Fin K G L H q v H1->Q v H1) (hE:∀C fs M1 G1 L1 H1 od,x C fs M1->Ex G L H G1 L1 H1->Rl K G1 L1 M1 H1->Va K G1 L1 H1 fs od->E (.ref C) od H1)
def kF(N:List Str)(ds:List Dt):En:=ds.map some++List.replicate (N.length - ds.length) none
def zd{K:fI}{G:Hp}{L:List Addr}{N:List Str}{ds:List Dt}{vs:List V}(h:Ψ K G L ds vs):md K G L (kF N ds) (start N vs):=by
 have hl:=h.length;refine⟨by unfold kF start;simp[hl],λi d e=>?_⟩;unfold kF at e;unfold start;by_cases hi:i < ds.length
 ·rw[List.getElem?_append_left (by simpa using hi),List.getElem?_map]at e;rw[List.getElem?_append_left (by simpa [<-hl] using hi),List.getElem?_map];cases q:ds[i]? with
  | none=>rw[q]at e;cases e
  | some d'=>
   rw[q]at e;cases e;have⟨v,e1,h1⟩:=h.get q;exact⟨v,by rw[e1];rfl,h1⟩
 ·rw[List.getElem?_append_right (by simpa using Nat.le_of_not_lt hi),List.getElem?_replicate]at e;split at e <;> cases e
section
variable{P:Program}{w:World}{K:fI}{mg:Str->Option Value}{base:Heap}
def cX.dE{x qual:Str}{st:Stmt}{f:Addr}{fd:FuncData}{N ps:List Str}{k:Nat}{T:DF}(F:cX K x qual st f fd)(S:Ε N ps (τ st))(len:∀ds M q x,T ds M q x->ds.length=ps.length)
  (sV:∀(aX:Value) (A:Around) (outer:List Env) (s:Shared) (H:Hp) (E:XK),bT k (A.deeper (envOfC qual (τ st) s.heap.objs.size f aX))->
   ∃t,B2 (uV (bY P w) P w K mg base N qual (τ st) f aX A outer s H E) (λ_=>E) (dY st) t/\∀ds M q x,T ds M q x->t {nx:=λ_ M'=>q .bF M',rt:=q,x:=λ_=>x} (kF N ds) M):
  av P w K mg base (bY P w) (k+1) f fd ps (cK K T):=by
 refine F.okX S (λvs H Q E h=>?_) (λaX A outer s H vs Q E hr h=>?_)
 ·have⟨G,L,ds,M,q,x,rl,n,hT,_⟩:=h;rw[<-n.length];exact len _ _ _ _ hT
 ·have⟨t,j,ht⟩:=sV aX A outer s H E hr;have⟨G,L,ds,M,q,x,rl,n,hT,hQ,hE⟩:=h;refine⟨_,j,G,L,kF N ds,M,_,rl,zd n,ht ds M q x hT,λσ ρ C fs M' G' L' H' od hx e r _ y=>hE C fs M' G' L' H' od hx e r y,⟨λσ' H' ⟨ρ',G',L',M',e,r,_,h⟩=>hQ _ _ ⟨.bF,G',L',M',e,r,rfl,h⟩,λv H' f=>hQ v H' f,λ_ _ ⟨_,_,_,_,_,_,_,h⟩=>h.elim,λ_ _ ⟨_,_,_,_,_,_,_,h⟩=>h.elim⟩⟩
structure aB(P:Program)(w:World)(K:fI)(mg:Str->Option Value)(base:Heap)(k:Nat)(x:Str)(ps:List Str)(T:DF)(f:Addr)(fd:FuncData):Prop where
 ok:av P w K mg base (bY P w) k f fd ps (cK K T)
 b:iq K fd ps []
 m:mg x=some (.ref f)
 kp:PySem.W.keepIn K (.ref f)=true
end
def JR(T:DF)(t:DA):DE:=λρ M q x=>t ρ M (λds M1=>T ds M1 q (λC fs M'=>x ρ C fs M')) x
section
variable{X:Cx}{R:St->XK}{T:DF}{k k':Nat}{f:Addr}{fd:FuncData}{ps:List Str}{x:Str}{p pos:Pos}{e:Expr}{es:List Expr}{t:DA}
def ao(C:aB X.prog X.w X.K X.mg X.base k x ps T f fd)(hr:bT k' X.A)(hx:df (bY X.prog X.w) X R)(ha:JA X R (e::es) t)(hk:k<=k':=by decide)(hg:Gl X x:=by rfl)(uR:(x==("__debug__":Str))=false:=by decide)
  (he:starEach (e::es) X.env=(false,eval e X.env)::starEach es X.env:=by rfl) (gy:(backTo pos (starEach es X.env)).any (·.1)=false:=by rfl):JE X R (.Call (.Name x p) (e::es) [] pos) (JR T t):=
 .of (zS C.ok (hr.mono hk) hg C.m C.kp C.b .nil hx ha uR he gy) λσ H G L ρ M q x rl n h hx=>by refine⟨G,L,ρ,M,_,x,rl,n,h,hx,λvs H1 xz=>?_⟩;have⟨ds,G1,L1,M1,e1,r1,n1,h1⟩:=xz;show cK X.K T (vs++[]) H1 _ _;rw[aa1];exact⟨G1,L1,ds,M1,q,_,r1,n1,h1,λv H' f=>Fin.back e1 f,λC fs M' G' L' H' od hq e' r' y=>hx σ ρ C fs M' G' L' H' od hq (e1.trans e') r' (n.mono (e1.trans e')) y⟩
end
structure Yl(K:fI)(J:It)(xs:List Dt)(G0:Hp)(L0:List Addr):Prop where
 go:∀(i:Nat) G L M H (d:Dt),ef G0 G->Pre L0 L->Rl K G L M H->xs[i]? =some d->J.go i H/\∀v H',J.U2 i H v H'->∃G',Ex G L H G' L H'/\Rl K G' L M H'/\Den K G' L d v
 stop:∀(i:Nat) G L M H,ef G0 G->Pre L0 L->Rl K G L M H->xs.length<=i->J.stop i H
inductive Sq(K:fI)(G0:Hp)(L0:List Addr)(H0:Hp)(q:List Dt->Ms->Prop)(J:It)(H:Hp):Prop
 | mk (xs:List Dt) (G:Hp) (L:List Addr) (M:Ms) (e:Ex G0 L0 H0 G L H) (r:Rl K G L M H) (y:Yl K J xs G L) (h:q xs M)
inductive Xx(K:fI)(R:St->XK)(t:DA)(σ:St)(H:Hp)(Q:It->Hp->Prop):Prop
 | mk (G:Hp) (L:List Addr) (ρ:En) (M:Ms) (q:List Dt->Ms->Prop) (x:DX) (r:Rl K G L M H) (n:md K G L ρ σ) (h:t ρ M q x) (hx:uL K G L H R x) (hQ:∀J H1,Sq K G L H q J H1->Q J H1)
def JI(X:Cx)(R:St->XK)(tg iter:Expr)(t:DA):Prop:=PI X tg iter (Xx X.K R t)
def Lo.imp{X:Cx}{ζ:List (Addr×Obj)}{σ:St}{tg:Expr}{R R':It->Hp->Prop}(hR:∀J H,R J H->R' J H){v:Value}{s:Shared}(h:Lo X ζ σ tg R v s):Lo X ζ σ tg R' v s:=by have⟨it,fp,tn,J,H',a,b,c,d,e,f⟩:=h;exact⟨it,fp,tn,J,H',a,b,c,d,e,hR J H' f⟩
def E9{K:fI}{G:Hp}{L:List Addr}{a:Addr}{ds:List Dt}{vs:List V}(h:∀G':Hp,ef G G'->gC K G' a vs)(n:Ψ K G L ds vs):Yl K (VP K a) ds G L where
 go:=λi G1 L1 M1 H1 d g l r e=>by
  have⟨v,e1,n1⟩:=n.get e;have hs:=h H1 (g.trans r.sub)
  exact⟨⟨vs,v,hs,e1⟩,fun v' H' ⟨eH,y⟩=>by
   subst eH;have e2:=y vs hs;rw[e1]at e2;cases e2
   exact⟨G1,.refl _ _ _,r,Den.mono g l _ _ n1⟩⟩
 stop:=λi G1 L1 M1 H1 g l r e=>⟨vs,h H1 (g.trans r.sub),by rw[<-n.length];exact e⟩
def IY{K:fI}{G:Hp}{L:List Addr}{a:Addr}{ds:List Dt}{vs:List V}(h:∀G':Hp,ef G G'->nv K G' a vs)(n:Ψ K G L ds vs):Yl K (Zv K a) ds G L where
 go:=λi G1 L1 M1 H1 d g l r e=>by
  have⟨v,e1,n1⟩:=n.get e;have hs:=h H1 (g.trans r.sub)
  exact⟨⟨vs,v,hs,e1⟩,fun v' H' ⟨eH,y⟩=>by
   subst eH;have e2:=y vs hs;rw[e1]at e2;cases e2
   exact⟨G1,.refl _ _ _,r,Den.mono g l _ _ n1⟩⟩
 stop:=λi G1 L1 M1 H1 g l r e=>⟨vs,h H1 (g.trans r.sub),by rw[<-n.length];exact e⟩
def dN(lo:Int)(n:Nat):List Dt:=(List.range n).map λk:Nat=>Dt.int (lo+(k:Int))
def H_{K:fI}{G:Hp}{L:List Addr}{lo:Int}{n:Nat}:Yl K (Ub lo n) (dN lo n) G L where
 go :=λi G1 L1 M1 H1 d g l r e=>by
  unfold dN at e;rw[aal]at e;have hi:i < n:=by
   cases q:(List.range n)[i]? with
   | none=>rw[q]at e;cases e
   | some j=>
    have:=(aaf.mp q).1;rwa[aaP]at this
  rw[aaU hi]at e;cases e;exact⟨hi,λv' H' ⟨eH,y⟩=>by subst eH y;exact⟨G1,.refl _ _ _,r,rfl⟩⟩
 stop:=λi G1 L1 M1 H1 g l r e=>by show n<=i;unfold dN at e;simpa using e
section
variable{X:Cx}{R:St->XK}{tg iter:Expr}
def JI.of{wi:TI}{t:DA}(h:PI X tg iter wi)(hw:∀σ H G L ρ M q x,Rl X.K G L M H->md X.K G L ρ σ->t ρ M q x->uL X.K G L H R x->wi σ H (Sq X.K G L H q)):JI X R tg iter t:=by intro ζ s σ H Q I ⟨G,L,ρ,M,q,x,r,n,ht,hx,hQ⟩;exact bH (h ζ s σ H _ I (hw σ H G L ρ M q x r n ht hx)) λu s1 f=>bH f λu2 s2 f2=>Lo.imp hQ f2
def S9(t:DA):DA:=λρ M q x=>t ρ M (λds M1=>match ds with
 | [.int j]=>(-(2 ^ 62)<=j/\j < 2 ^ 62)/\q (dN 0 j.toNat) M1
 | _=>False) x
def b_{a:Expr}{t:DA}{p pos:Pos}(hm:X.mg "range"=none)(ha:JA X R [a] t)(hg:Gl X "range":=by rfl)(hs:starEach [a] X.env=[(false,eval a X.env)]:=by rfl):JI X R tg (.Call (.Name "range" p) [a] [] pos) (S9 t):=
 .of (GY hg hm ha hs) λσ H G L ρ M q x rl n h hx=>by
  refine⟨G,L,ρ,M,_,x,rl,n,h,hx,λvs H1 xz=>?_⟩;have⟨ds,G1,L1,M1,e1,r1,n1,h1⟩:=xz
  (try dsimp only at h1)
  split at h1
  ·rename_i j;have⟨v,rfl,n2⟩:=bw n1;have n2:v= .int j:=n2;subst n2;exact⟨j,rfl,h1.1.1,h1.1.2,_,G1,L1,M1,e1,r1,H_,h1.2⟩
  ·exact h1.elim
def Jg(t:DA):DA:=λρ M q x=>t ρ M (λds M1=>match ds with
 | [.int i,.int j]=>(-(2 ^ 62)<=i/\i < 2 ^ 62/\ -(2 ^ 62)<=j/\j < 2 ^ 62)/\q (dN i (j - i).toNat) M1
 | _=>False) x
def GX{a b:Expr}{t:DA}{p pos:Pos}(hm:X.mg "range"=none)(ha:JA X R [a,b] t)(hg:Gl X "range":=by rfl)(hs:starEach [a,b] X.env=[(false,eval a X.env),(false,eval b X.env)]:=by rfl)(Pu:starEach [b] X.env=[(false,eval b X.env)]:=by rfl):
  JI X R tg (.Call (.Name "range" p) [a,b] [] pos) (Jg t):=
 .of (Hb hg hm ha hs Pu) λσ H G L ρ M q x rl n h hx=>by
  refine⟨G,L,ρ,M,_,x,rl,n,h,hx,λvs H1 xz=>?_⟩;have⟨ds,G1,L1,M1,e1,r1,n1,h1⟩:=xz
  (try dsimp only at h1)
  split at h1
  ·rename_i i j;have⟨v,u,rfl,n3,n2⟩:=gQ n1;have n3:v= .int i:=n3;have n2:u= .int j:=n2;subst n3 n2;exact⟨i,j,rfl,h1.1,_,G1,L1,M1,e1,r1,H_,h1.2⟩
  ·exact h1.elim
end
def GD(K:fI)(gg:TG)(g:Dt->En->(En->Prop)->Prop):Prop:=
 ∀G L M H d v ρ σ (k:En->Prop) (Q:St->Hp->Prop),Rl K G L M H->Den K G L d v->md K G L ρ σ->g d ρ k->(∀ρ' σ',md K G L ρ' σ'->k ρ'->Q σ' H)->gg v σ H Q
def gN(i:Nat):Dt->En->(En->Prop)->Prop:=λd ρ k=>k (ρ.set i (some d))
def aG{K:fI}{i:Nat}:GD K (iU i) (gN i):=λG L M H d v ρ σ k Q rl n en h hQ=>hQ _ _ (en.set i n) h
def g2(i j:Nat):Dt->En->(En->Prop)->Prop:=λd ρ k=>match d with
 | .tup [a,b]=>k ((ρ.set i (some a)).set j (some b))
 | _=>False
def oO{K:fI}{i j:Nat}:GD K (J1 K 2 (ot (iU i) (ot (iU j) IF))) (g2 i j):=λG L M H d v ρ σ k Q rl n en h hQ=>by
 unfold g2 at h;split at h
 ·rename_i a b;have⟨p,vs,rfl,e,n⟩:=n;have⟨v1,v2,rfl,n1,n2⟩:=gQ n;exact⟨p,_,rfl,.inl (.inl (rl.sub _ _ e)),rfl,v1,_,rfl,v2,_,rfl,rfl,hQ _ _ ((en.set i n1).set j n2) h⟩
 ·exact h.elim
def xy(g:Dt->En->(En->Prop)->Prop)(tb:DS)(Dn:l_):List Dt->En->Ms->Prop
 | [],ρ,M=>Dn.nx ρ M
 | x::xs,ρ,M=>g x ρ λρ'=>tb {Dn with nx:=xy g tb Dn xs,ct:=xy g tb Dn xs,bk:=Dn.nx} ρ' M
def UH(ti:DA)(g:Dt->En->(En->Prop)->Prop)(tb:DS):DS:=λDn ρ M=>ti ρ M (λxs M1=>xy g tb Dn xs ρ M1) Dn.x
section
variable{X:Cx}{R:St->XK}{tg iter:Expr}{body:List Stmt}{ti:DA}{gg:TG}{g:Dt->En->(En->Prop)->Prop}{tb:DS}{pos:Pos}
def hJ(hi:JI X R tg iter ti)(hg:PG X tg gg)(gd:GD X.K gg g)(hb:B2 X R body tb)(hp:PassesOwn (model X.prog X.w) X.A X.env X.xe:=by first| exact PassesOwn.never| exact PassesOwn.leaving)(hc:X.calm=true:=by rfl)(hs:∀x,foldedSetIterable iter X.env x=pure x:=by intro _;rfl):
  JS X R (.For tg iter body [] pos) (UH ti g tb):=.of (CT hp hc hi hg hb hs) λσ H G L ρ M Dn rl n h hx=>by
 refine⟨G,L,ρ,M,_,_,rl,n,h,hx,λJ H1 xz=>?_⟩;have⟨xs,G1,L1,M1,e1,r1,y,h1⟩:=xz;refine⟨λi m σ' H'=>m+i=xs.length/\fc X.K G1 L1 H1 (λρ' M'=>xy g tb Dn (xs.drop i) ρ' M') σ' H',⟨xs.length,rfl,ρ,G1,L1,M1,.refl _ _ _,r1,n.mono e1,by rw[acH];exact h1⟩,?_⟩;rintro i m σ' H' ⟨hm,ρ',G',L',M',e',r',n',h'⟩;by_cases hi:i < xs.length
 ·right;have hd:xs[i]? =some xs[i]:=aaa hi;have⟨go,yl⟩:=y.go i G' L' M' H' _ e'.g e'.l r' hd;rw[abt hi]at h';refine⟨go,fc X.K G1 L1 H1 (λρ' M'=>xy g tb Dn (xs.drop (i+1)) ρ' M'),λσ2 H2 f=>⟨m - 1,(),(),f⟩,λv H2 hy=>?_⟩;have⟨G2,e2,r2,n2⟩:=yl v H2 hy;refine gd G2 L' M' H2 _ v ρ' σ' _ _ r2 n2 (n'.mono e2) h' λρ3 σ3 n3 h3=>?_;refine⟨G2,L',ρ3,M',_,r2,n3,h3,hx.on (e1.trans (e'.trans e2)),⟨λ_ _ f=>fc.back (e'.trans e2) f,λ_ _ f=>Fin.back (e1.trans (e'.trans e2)) f,λ_ _ f=>fc.back (e1.trans (e'.trans e2)) f,λ_ _ f=>fc.back (e'.trans e2) f⟩⟩
 ·left;refine⟨y.stop i G' L' M' H' e'.g e'.l r' (),ρ',G',L',M',e1.trans e',r',n',?_⟩;rw[ab7 ()]at h';exact h'
end
abbrev DK:=En->Ms->(List Dt->(Ms->Prop)->Ms->Prop)->DX->Prop
structure QS(K:fI)(J:It)(xs:List Dt)(ok:Ms->Prop)(G0:Hp)(L0:List Addr):Prop where
 go:∀(i:Nat) G L M H (d:Dt),ef G0 G->Pre L0 L->Rl K G L M H->ok M->xs[i]? =some d->J.go i H/\∀v H',J.U2 i H v H'->∃G',Ex G L H G' L H'/\Rl K G' L M H'/\Den K G' L d v
 stop:∀(i:Nat) G L M H,ef G0 G->Pre L0 L->Rl K G L M H->ok M->xs.length<=i->J.stop i H
inductive WQ(K:fI)(G0:Hp)(L0:List Addr)(H0:Hp)(q:List Dt->(Ms->Prop)->Ms->Prop)(J:It)(H:Hp):Prop
 | mk (xs:List Dt) (ok:Ms->Prop) (G:Hp) (L:List Addr) (M:Ms) (e:Ex G0 L0 H0 G L H) (r:Rl K G L M H) (y:QS K J xs ok G L) (h:q xs ok M)
inductive X_(K:fI)(R:St->XK)(t:DK)(σ:St)(H:Hp)(Q:It->Hp->Prop):Prop
 | mk (G:Hp) (L:List Addr) (ρ:En) (M:Ms) (q:List Dt->(Ms->Prop)->Ms->Prop) (x:DX) (r:Rl K G L M H) (n:md K G L ρ σ) (h:t ρ M q x) (hx:uL K G L H R x) (hQ:∀J H1,WQ K G L H q J H1->Q J H1)
def JK(X:Cx)(R:St->XK)(tg iter:Expr)(t:DK):Prop:=PI X tg iter (X_ X.K R t)
def kOf(t:DA):DK:=λρ M q x=>t ρ M (λxs M1=>q xs (λ_=>True) M1) x
def Ow{X:Cx}{R:St->XK}{tg iter:Expr}{t:DA}(h:JI X R tg iter t):JK X R tg iter (kOf t):=by intro ζ s σ H Q I ⟨G,L,ρ,M,q,x,r,n,ht,hx,hQ⟩;refine h ζ s σ H Q I ⟨G,L,ρ,M,_,x,r,n,ht,hx,λJ H1 ⟨xs,G1,L1,M1,e1,r1,y,hq⟩=>hQ J H1 ⟨xs,_,G1,L1,M1,e1,r1,⟨λi G L M H d g l r _ e=>y.go i G L M H d g l r e,λi G L M H g l r _ e=>y.stop i G L M H g l r e⟩,hq⟩⟩
def pv(Ω:List Nat)(ρ:En):En:=Ω.map λi=>(ρ[i]?).join
def iL(g:Dt->En->(En->Prop)->Prop)(tc:DT)(te:DE)(ρ0:En)(ok:Ms->Prop):List Dt->List Dt->Ms->(List Dt->Ms->Prop)->Prop
 | [],Η,M,k=>ok M/\k Η M
 | x::xs,Η,M,k=>ok M/\g x ρ0 λρ'=>tc ρ' M (λb M1=>match b with
  | true=>te ρ' M1 (λd M2=>iL g tc te ρ0 ok xs (Η++[d]) M2 k) lT
  | false=>iL g tc te ρ0 ok xs Η M1 k) lT
def CK(n:Nat)(ti:DK)(g:Dt->En->(En->Prop)->Prop)(tc:DT)(te:DE)(Ω:List Nat):DE:=λρ M q x=>ti ρ M (λxs ok M1=>xs.length<=sizeLine/\iL g tc te (List.replicate n none++pv Ω ρ) ok xs [] M1 (λys M2=>q (.lst ys) M2)) x
def LD{K:fI}{G:Hp}{L:List Addr}{ρ:En}{σ os:St}{n:Nat}(h:md K G L ρ σ)(Ω:List Nat)(hl:os.length=n):md K G L (List.replicate n none++pv Ω ρ) (os++oI Ω σ):=by
 have lc:(pv Ω ρ).length=(oI Ω σ).length:=by unfold pv oI;simp
 refine⟨by rw[aag,aag,aa6,hl,lc],λi d' e=>?_⟩;by_cases hi:i < n
 ·rw[aat (by rw[aa6];exact hi),ab0,aaw hi]at e;cases e
 ·rw[aan (by rw[aa6];omega),aa6]at e;rw[aan (),hl];unfold pv at e;unfold oI;rw[aal]at e⊢;cases q:Ω[i - n]? with
  | none=>rw[q]at e;cases e
  | some j=>
   rw[q]at e;have e:(ρ[j]?).join=some d':=aax e;have e:ρ[j]? =some (some d'):=by
    cases z:ρ[j]? with
    | none=>rw[z]at e;cases e
    | some o=>rw[z]at e;exact aaX some e
   have⟨v,hv,dn⟩:=h.f_ j d' e;exact⟨v,by show some ((σ[j]?).join)=_;rw[hv];rfl,dn⟩
def A5{K:fI}{J:It}{gg:TG}{g:Dt->En->(En->Prop)->Prop}{tc:DT}{te:DE}{Ω:List Nat}{nn:Nat}{ρ:En}{σ:St}{G1:Hp}{L1:List Addr}{M1:Ms}{H1:Hp}{xs:List Dt}{ok:Ms->Prop}{Dl:Addr}{Q:VK}{k:List Dt->Ms->Prop}(gd:GD K gg g)(r1:Rl K G1 L1 M1 H1)(n:md K G1 L1 ρ σ)(y:QS K J xs ok G1 L1)(hD:H1 Dl=none)(hz:xs.length<=sizeLine)
  (h:iL g tc te (List.replicate nn none++pv Ω ρ) ok xs [] M1 k)
  (fin:∀G2 L2 M2 H2 ds vs,Ex G1 L1 H1 G2 L2 H2->Rl K G2 L2 M2 H2->G2 Dl=none->Dl∉L2->H2 Dl=some (.lst vs)->Ψ K G2 L2 ds vs->k ds M2->Q (.ref Dl) H2):
  C_ J nn gg (GL K (λ_=>E0) tc) (Ap K (λ_=>E0) te) (oI Ω σ) Q H1 Dl:=by
 refine⟨λi m ys H2=>m+i=xs.length/\H2 Dl=some (.lst ys)/\∃Η G2 L2 M2,Ex G1 L1 H1 G2 L2 H2/\Rl K G2 L2 M2 H2/\G2 Dl=none/\Dl∉L2/\Ψ K G2 L2 Η ys/\Η.length<=i/\iL g tc te (List.replicate nn none++pv Ω ρ) ok (xs.drop i) Η M2 k,⟨xs.length,rfl,af,[],G1,L1,M1,?_⟩,?_⟩
 ·have gn:G1 Dl=none:=r1.sub.free hD;refine⟨⟨.refl _,.refl _,λ_ h _=>h,λb u h1 _=>by rw[Θ (λz=>by rw[z,hD]at h1;cases h1)];exact h1,λ_ h=>.inl h,λb h=>by rw[Θ (λz=>h (by rw[z];exact hD))];exact h⟩,⟨λb u e=>by rw[Θ (λz=>by rw[z,gn]at e;cases e)];exact r1.sub b u e,r1.len,r1.nd,λi a m h1 h2=>?_⟩,gn,r1.MM hD,rfl,aai _,by rw[acH];exact h⟩;have⟨q1,q2⟩:=r1.f_ i a m h1 h2;exact⟨q1,q2.mono (.refl _) (.refl _) (Θ λz=>q2.there (by rw[z];exact hD))⟩
 ·rintro i m ys H2 ⟨hm,KY,Η,G2,L2,M2,e2,r2,g2,l2,n2,la,h2⟩;refine⟨KY,?_⟩;have ne1:∀{b:Addr} {u:HO},H1 b=some u->b≠Dl:=λe z=>by rw[z,hD]at e;cases e
  by_cases hi:i < xs.length
  ·right;have hd:xs[i]? =some xs[i]:=aaa hi;rw[abt hi]at h2;have⟨bb,h2⟩:=h2;have⟨go,yl⟩:=y.go i G2 L2 M2 H2 _ e2.g e2.l r2 bb hd;refine⟨go,λv H3 hy os hos=>?_⟩;have⟨G3,e3,r3,n3⟩:=yl v H3 hy;have h3:H3 Dl=some (.lst ys):=e3.out _ _ KY l2;have g3:G3 Dl=none:=e3.fr _ g2 (by rw[KY];simp);refine gd G3 L2 M2 H3 _ v _ _ _ _ r3 n3 (LD ((n.mono e2).mono e3) Ω hos) h2 λρ' σ' n' h'=>?_;refine⟨G3,L2,ρ',M2,_,lT,r3,n',h',IL,λb H4 xz=>?_⟩;have⟨G4,L4,M4,e4,r4,h4⟩:=xz;have Vy:H4 Dl=some (.lst ys):=e4.out _ _ h3 l2;have g4:G4 Dl=none:=e4.fr _ g3 (by rw[h3];simp);have l4:Dl∉L4:=λz=>(e4.new _ z).elim l2 λq=>by rw[h3]at q;cases q
   have VN:=e3.trans e4;cases b with
   | false=>
    exact⟨m - 1,(),(),Vy,Η,G4,L4,M4,e2.trans VN,r4,g4,l4,Ψ.mono VN.g VN.l _ _ n2,(),h4⟩
   | true=>
    refine⟨G4,L4,ρ',M4,_,lT,r4,n'.mono e4,h4,IL,λv5 H5 xz=>?_⟩;have⟨d5,G5,L5,M5,e5,r5,n5,h5⟩:=xz;have h5':H5 Dl=some (.lst ys):=e5.out _ _ Vy l4;have g5:G5 Dl=none:=e5.fr _ g4 (by rw[Vy];simp);have l5:Dl∉L5:=λz=>(e5.new _ z).elim l4 λq=>by rw[Vy]at q;cases q
    have YB:=VN.trans e5;have Z':ys.length=Η.length:=by rw[<-n2.length]
    refine⟨h5',(),m - 1,(),(),af,Η++[d5],G5,L5,M5,?_,?_,g5,l5,(Ψ.mono YB.g YB.l _ _ n2).app ⟨_,_,rfl,n5,rfl⟩,by rw[aag];show Η.length+1<=i+1;omega,h5⟩
    ·have RO:=e2.trans YB
     exact⟨RO.g,RO.l,RO.fr,λb u h1 h2=>by rw[Θ (ne1 h1)];exact RO.out b u h1 h2,RO.new,λb h=>by
      by_cases hb:b=Dl
      ·rw[hb,af];simp
      ·rw[Θ hb];exact RO.Cg b h⟩
    ·refine⟨λb u e=>by rw[Θ (λz=>by rw[z,g5]at e;cases e)];exact r5.sub b u e,r5.len,r5.nd,λi a m h1 h2=>?_⟩;have⟨q1,q2⟩:=r5.f_ i a m h1 h2;exact⟨q1,q2.mono (.refl _) (.refl _) (Θ λz=>l5 (by rw[<-z];exact aam h1))⟩
  ·left;rw[ab7 ()]at h2;exact⟨y.stop i G2 L2 M2 H2 e2.g e2.l r2 h2.1 (),fin G2 L2 M2 H2 Η ys e2 r2 g2 l2 KY n2 h2.2⟩
section
variable{K:fI}{G1:Hp}{L1:List Addr}{H1 G:Hp}{L:List Addr}{M:Ms}{H:Hp}{p:Addr}{ds:List Dt}{vs:List V}{q:DQ}
def LQ(e:Ex G1 L1 H1 G L H)(r:Rl K G L M H)(Hw:H1 p=none)(hg:G p=none)(hl:p∉L)(h:H p=some (.lst vs))(n:Ψ K G L ds vs)(k:q (.lst ds) M):Fin K G1 L1 H1 q (.ref p) H:=by
 have g1:ef G (upd G p (.lst vs)):=λb u e=>by rw[Θ (λz=>by rw[z,hg]at e;cases e)];exact e
 refine⟨.lst ds,upd G p (.lst vs),L,M,⟨e.g.trans g1,e.l,λb h1 h2=>?_,e.out,e.new,e.Cg⟩,⟨λb u e=>?_,r.len,r.nd,λk a m h1 h2=>?_⟩,⟨p,vs,rfl,af,Ψ.mono g1 (.refl _) _ _ n⟩,k⟩
 ·rw[Θ (λz=>h2 (by rw[z];exact Hw))];exact e.fr b h1 h2
 ·by_cases hb:b=p
  ·rw[hb,af]at e;rw[hb];cases e;exact h
  ·rw[Θ hb]at e;exact r.sub b u e
 ·have⟨q1,q2⟩:=r.f_ k a m h1 h2;have hb:a≠p:=λz=>hl (by rw[<-z];exact aam h1);exact⟨by rw[Θ hb];exact q1,q2.mono g1 (.refl _) rfl⟩
def LZ(e:Ex G1 L1 H1 G L H)(r:Rl K G L M H)(Hw:H1 p=none)(hg:G p=none)(hl:p∉L)(h:H p=some (.lst vs))(n:Ψ K G L ds vs)(k:q (.loc M.length) (M++[.lst ds])):Fin K G1 L1 H1 q (.ref p) H:=by
 refine⟨.loc M.length,G,L++[p],M++[.lst ds],⟨e.g,e.l.trans ⟨[p],rfl⟩,e.fr,e.out,λb hb=>?_,e.Cg⟩,⟨r.sub,by rw[List.length_append,List.length_append,r.len];rfl,List.nodup_append.mpr ⟨r.nd,by simp,λa ha b hb=>?_⟩,λk a m h1 h2=>?_⟩,⟨p,rfl,by rw[<-r.len,List.getElem?_append_right (Nat.le_refl _)];simp⟩,k⟩
 ·rcases aa0.mp hb with z| z
  ·exact e.new b z
  ·have e:b=p:=by simpa using z
   right;rw[e];exact Hw
 ·have e:b=p:=by simpa using hb
  rw[e];exactλz=>hl (z▸ha)
 ·by_cases hk:k < L.length
  ·rw[aat hk]at h1;rw[aat (by rw[<-r.len];exact hk)]at h2;have⟨q1,q2⟩:=r.f_ k a m h1 h2;exact⟨q1,q2.mono (.refl _) ⟨[p],rfl⟩ rfl⟩
  ·have e:k=L.length:=by have:=(aaf.mp h1).1;rw[aag]at this;simp at this;omega
   rw[e,aan (aai _)]at h1;rw[e,r.len,aan (aai _)]at h2;simp at h1 h2;subst h1 h2;exact⟨hg,vs,h,Ψ.mono (.refl _) ⟨[p],rfl⟩ _ _ n⟩
def Vo(b:Bool)(q:DQ)(ys:List Dt)(M:Ms):Prop:=match b with
 | false=>q (.lst ys) M
 | true=>q (.loc M.length) (M++[.lst ys])
def Ei{b:Bool}(e:Ex G1 L1 H1 G L H)(r:Rl K G L M H)(Hw:H1 p=none)(hg:G p=none)(hl:p∉L)(h:H p=some (.lst vs))(n:Ψ K G L ds vs)(k:Vo b q ds M):Fin K G1 L1 H1 q (.ref p) H:=by
 cases b
 ·exact LQ e r Hw hg hl h n k
 ·exact LZ e r Hw hg hl h n k
end
def jE{n i:Nat}(h:i < n):wu n (iU i):=λv os cs H Q hl hq=>⟨⟨os.set i (some v),by rw[abh];exact hl,abX _ _ ()⟩,hq⟩
def vt{K:fI}{n i j:Nat}(h:i < n)(h':j < n):wu n (J1 K 2 (ot (iU i) (ot (iU j) IF))):=
 fun v os cs H Q hl ⟨a,xs,e,s,l,v1,r,e1,v2,r2,e2,e3,q⟩=>⟨a,xs,e,s,l,v1,r,e1,v2,r2,e2,e3,⟨(os.set i (some v1)).set j (some v2),by simp[hl],by
  rw[abX _ _ (),abX _ _ (by rw[abh];omega)]⟩,q⟩
section
variable{X:Cx}{elt iter tg:Expr}{xs:List Str}{scope:Scope}{pos:Pos}{ys:List Str}{Ω:List Nat}
def i9{i:Nat}{x:Str}{px:Pos}(S:Φ X scope xs ys Ω)(h:xs[i]? =some x)(C:Addr)(s:Shared)(H:Hp)(fp:List Addr):PG (Cx.comp X (xs++ys) scope C s H fp) (.Name x px) (iU i):=by
 have hm:x∈xs:=aam h;have hi:(xs++ys)[i]? =some x:=by rw[aat (aaf.mp h).1];exact h
 rcases S.own x hm with h| h
 ·exact au S.nd hi (.inl (lookup_relabel_local h)) (.inr (lookup_relabel_local h))
 ·exact au S.nd hi (.inr (dF (env:=X.env) h)) (.inl (by show(scope.names.lookup x==some .cell)=true;rw[h];rfl))
def E6{x y:Str}{px py:Pos}{k:Nat}(hc:X.calm=true)(S:Φ X scope [x,y] ys Ω)(C:Addr)(s:Shared)(H:Hp)(fp:List Addr):PG (Cx.comp X ([x,y]++ys) scope C s H fp) (.Tuple [.Name x px,.Name y py] k pos) (J1 X.K 2 (ot (iU 0) (ot (iU 1) IF))):=
 qa (X:=Cx.comp X ([x,y]++ys) scope C s H fp) hc (cR (i9 S (i:=0) rfl C s H fp) (cR (i9 S (i:=1) rfl C s H fp) lC))
end
def tM:DT:=λ_ M q _=>q true M
def Xo(X:Cx)(cs:List Expr)(t:DT):Prop:=VL X cs (GL X.K (λ_=>E0) t)
def qX{X:Cx}:Xo X [] tM:=⟨.inl rfl,λζ s σ H Q I ⟨G,L,ρ,M,q,x,r,n,h,hx,hQ⟩=>aba ⟨H,I,hQ true H ⟨G,L,M,.refl _ _ _,r,h⟩⟩⟩
def E5{X:Cx}{c:Expr}{t:DT}(h:JT X (λ_=>E0) c t):Xo X [c] t:=⟨.inr ⟨c,rfl⟩,h⟩
def OK(b:Bool)(g:Dt->En->(En->Prop)->Prop)(tc:DT)(te:DE)(cs:En)(q:DQ):List Dt->(Ms->Prop)->Ms->Prop:=λzs ok M1=>zs.length<=sizeLine/\iL g tc te cs ok zs [] M1 (Vo b q)
section
variable{X:Cx}{R:St->XK}{elt iter tg:Expr}{cs:List Expr}{xs:List Str}{scope:Scope}{pos:Pos}{gg:TG}{g:Dt->En->(En->Prop)->Prop}{ti:DK}{tc:DT}{te:DE}{ys:List Str}{Ω:List Nat}(b:Bool)(S:Φ X scope xs ys Ω)(hi:JK X R tg iter ti)(hg:∀C s H fp,PG (Cx.comp X (xs++ys) scope C s H fp) tg gg)(gd:GD X.K gg g)(hk:wu xs.length gg)(ht:∀C s H fp,Xo (Cx.comp X (xs++ys) scope C s H fp) cs tc)(he:∀C s H fp,JE (Cx.comp X (xs++ys) scope C s H fp) (λ_=>E0) elt te)(hc:X.calm=true)(hs:∀x,foldedSetIterable iter X.env x=pure x)
include S hi hg gd hk ht he hc hs
def Uk{t:DE}(e:∀ρ M q x,t ρ M q x->ti ρ M (OK b g tc te (List.replicate xs.length none++pv Ω ρ) q) x):JE X R (.ListComp elt [⟨tg,iter,cs,0⟩] scope pos) t:=
 .of (Ke (tc:=GL X.K (λ_=>E0) tc) (te:=Ap X.K (λ_=>E0) te) S hc hi hg hk ht he hs) λσ H G L ρ M q x rl n h hx=>⟨G,L,ρ,M,_,x,rl,n,e _ _ _ _ h,hx,λJ H1 ⟨xs,ok,G1,L1,M1,e1,r1,y,hz,h1⟩ D hD=>A5 gd r1 (n.mono e1) y hD hz h1 λG2 L2 M2 H2 ds vs e2 r2 g2 l2 h2 n2 k=>Fin.back e1 (Ei e2 r2 hD g2 l2 h2 n2 k)⟩
def jcS{i:Nat}{y:Str}{py A3:Pos}(hN:X.N.Nodup)(T2:X.N[i]? =some y)(hy:Loc X.env.scope y)(Sl:swapsWith (.ListComp elt [⟨tg,iter,cs,0⟩] scope pos) (some (.Name y py)) A3.line X.env=pure true)(hf:X.fn y=true\/X.env.scope.names.lookup y=some .local){t:DE}(e:∀ρ M q x,t ρ M q x->ti ρ M (OK b g tc te (List.replicate xs.length none++pv Ω ρ) q) x):
  JS X R (.Assign [.Name y py] (.ListComp elt [⟨tg,iter,cs,0⟩] scope pos) A3) (Lv i t):=.of (zZ (tc:=GL X.K (λ_=>E0) tc) (te:=Ap X.K (λ_=>E0) te) hN T2 hy S hc hi hg hk ht he Sl hs hf) λσ H G L ρ M Dn rl n h hx=>by
 refine⟨G,L,ρ,M,_,_,rl,n,e _ _ _ _ h,hx,fun J H1 ⟨xs,ok,G1,L1,M1,e1,r1,y,hz,h1⟩ D hD=>A5 gd r1 (n.mono e1) y hD hz h1 λG2 L2 M2 H2 ds vs e2 r2 g2 l2 h2 n2 k=>?_⟩;have⟨d,G3,L3,M3,e3,r3,n3,h3⟩:=Ei (q:=λd M=>Dn.nx (ρ.set i (some d)) M) e2 r2 hD g2 l2 h2 n2 k;exact⟨_,G3,L3,M3,e1.trans e3,r3,((n.mono e1).mono e3).set i n3,h3⟩
end
def A_(te:DE)(cs:En):List Dt->List Dt->Ms->(List Dt->Ms->Prop)->Prop
 | [],Η,M,k=>k Η M
 | x::xs,Η,M,k=>te (some x::cs) M (λd M1=>A_ te cs xs (Η++[d]) M1 k) lT
def K6(ti:DA)(te:DE)(Ω:List Nat):DE:=λρ M q x=>ti ρ M (λxs M1=>xs.length<=sizeLine/\A_ te (pv Ω ρ) xs [] M1 (λys M2=>q (.lst ys) M2)) x
def EE{te:DE}{cs:En}:∀xs,A_ te cs xs=iL (gN 0) tM te (none::cs) (λ_=>True) xs
 | []=>funext λΗ=>funext λM=>funext λk=>(true_and _).symm
 | x::xs=>funext λΗ=>funext λM=>funext λk=>by show te (some x::cs) M (λd M1=>A_ te cs xs (Η++[d]) M1 k) lT=(True/\te (some x::cs) M (λd M1=>iL (gN 0) tM te (none::cs) (λ_=>True) xs (Η++[d]) M1 k) lT);rw[EE xs,true_and]
section
variable{X:Cx}{R:St->XK}{elt iter:Expr}{x:Str}{px:Pos}{scope:Scope}{pos:Pos}{ti:DA}{te:DE}{ys:List Str}{Ω:List Nat}
def Kn(S:Φ X scope [x] ys Ω)(hi:JI X R (.Name x px) iter ti)(he:∀C s H fp,JE (Cx.comp X (x::ys) scope C s H fp) (λ_=>E0) elt te)(hc:X.calm=true:=by rfl)(hs:∀x,foldedSetIterable iter X.env x=pure x:=by intro _;rfl):JE X R (.ListComp elt [⟨.Name x px,iter,[],0⟩] scope pos) (K6 ti te Ω):=Uk false S (Ow hi) (i9 S (i:=0) rfl) aG (jE (Nat.zero_lt_succ 0)) (λ_ _ _ _=>qX) he hc hs λρ M q x h=>by unfold K6 at h;simp only[EE]at h;exact h
end
def fin_same{K:fI}{G0:Hp}{L0:List Addr}{H0 G:Hp}{L:List Addr}{M:Ms}{H:Hp}{d:Dt}{v:V}{q:DQ}(e:Ex G0 L0 H0 G L H)(r:Rl K G L M H)(n:Den K G L d v)(h:q d M):Fin K G0 L0 H0 q v H:=⟨d,G,L,M,e,r,n,h⟩
def bG{K:fI}{G0:Hp}{L0:List Addr}{H0 G:Hp}{L:List Addr}{M:Ms}{H:Hp}{d:Dt}{v:V}{q:DQ}(e:Ex G0 L0 H0 G L H)(r:Rl K G L M H)(h:q d M)(n:Den K G L d v:=by rfl):Fin K G0 L0 H0 q v H:=⟨d,G,L,M,e,r,n,h⟩
def yX:Dt->Dt->Ms->DQ->Prop
 | .int i,.int j,M,q=>q (.int (i+j)) M
 | .str a,.str b,M,q=>a.length+b.length<=sizeLine/\q (.str (a++b)) M
 | .lst a,.lst b,M,q=>a.length+b.length<=sizeLine/\q (.lst (a++b)) M
 | .tup a,.tup b,M,q=>(a≠[]/\a.length+b.length<=sizeLine)/\q (.tup (a++b)) M
 | _,_,_,_=>False
def Bx:Dt->Dt->Ms->DQ->Prop
 | .int i,.int j,M,q=>q (.int (i - j)) M
 | _,_,_,_=>False
def Jc:Dt->Dt->Ms->DQ->Prop
 | .int i,.int j,M,q=>(fY i/\fY j)/\q (.int (i * j)) M
 | .lst a,.int k,M,q=>(-(2 ^ 63)<=k/\k < 2 ^ 63/\a.length * k.toNat<=sizeLine)/\q (.lst (List.replicate k.toNat a).flatten) M
 | _,_,_,_=>False
def QO:Dt->Dt->Ms->DQ->Prop
 | .int i,.int j,M,q=>(0 < j/\fY j)/\q (.int (i / j)) M
 | _,_,_,_=>False
def EY:Dt->Dt->Ms->DQ->Prop
 | .int i,.int j,M,q=>(j≠0/\fY j)/\q (.int (i.fdiv j)) M
 | _,_,_,_=>False
def MQ:Dt->Dt->Ms->DQ->Prop
 | .int i,.int j,M,q=>0 < j/\q (.int (i % j)) M
 | _,_,_,_=>False
def P8:Dt->Dt->Ms->DQ->Prop
 | .int i,.int j,M,q=>Ad i j/\q (.int (i ^ j.toNat)) M
 | _,_,_,_=>False
def Po:Dt->Ms->DQ->Prop
 | .int i,M,q=>q (.int (-i)) M
 | _,_,_=>False
section
variable{K:fI}
def W8:oz K (λx y H Q=>(∃i j,x=V.int i/\y= .int j/\Q (.int (i+j)) H)\/(∃i j,x=V.str i/\y= .str j/\i.length+j.length<=sizeLine/\Q (.str (i++j)) H)\/O3 x y H Q\/Oe K x y H Q) yX:=by
 intro G0 L0 H0 G L M H v1 v2 d1 d2 q e r n1 n2 h;unfold yX at h;split at h
 ·rename_i i j;exact .inl ⟨i,j,n1,n2,bG e r h⟩
 ·rename_i a b;exact .inr (.inl ⟨a,b,n1,n2,h.1,bG e r h.2⟩)
 ·rename_i a b;have⟨p1,w1,rfl,e1,m1⟩:=n1;have⟨p2,w2,rfl,e2,m2⟩:=n2;refine .inr (.inr (.inl ⟨p1,p2,w1,w2,rfl,rfl,r.sub _ _ e1,r.sub _ _ e2,by rw[<-m1.length,<-m2.length];exact h.1,λp hp=>?_⟩));exact lO e r hp (q5 r hp (m1.app m2)) h.2
 ·rename_i a b;have⟨p1,w1,rfl,e1,m1⟩:=n1;have⟨p2,w2,rfl,e2,m2⟩:=n2;have ne:w1≠[]:=λz=>h.1.1 (by have:=m1.length;rw[z]at this;exact List.eq_nil_of_length_eq_zero this);refine .inr (.inr (.inr ⟨p1,p2,w1,w2,rfl,rfl,.inl (.inl (r.sub _ _ e1)),.inl (.inl (r.sub _ _ e2)),ne,by rw[<-m1.length,<-m2.length];exact h.1.2,λz=>?_,λ_ p hp=>?_⟩))
  ·have hb:b=[]:=by have:=m2.length;rw[z]at this;exact List.eq_nil_of_length_eq_zero this
   subst hb;rw[aa1]at h;exact fin_same (d:=.tup a) e r ⟨p1,w1,rfl,e1,m1⟩ h.2
  ·exact lO e r hp (rq r hp (m1.app m2)) h.2
 ·exact h.elim
def Yv:oz K (Hi λi j=>.int (i - j)) Bx:=by
 intro G0 L0 H0 G L M H v1 v2 d1 d2 q e r n1 n2 h;unfold Bx at h;split at h
 ·exact⟨_,_,n1,n2,bG e r h⟩
 ·exact h.elim
def YL:oz K (λx y H Q=>(rI (λi j=>fY i/\fY j) λi j=>.int (i * j)) x y H Q\/Pw x y H Q) Jc:=by
 intro G0 L0 H0 G L M H v1 v2 d1 d2 q e r n1 n2 h;unfold Jc at h;split at h
 ·exact .inl ⟨_,_,n1,n2,h.1,bG e r h.2⟩
 ·rename_i a k;have⟨p1,w1,rfl,e1,m1⟩:=n1;refine .inr ⟨p1,k,w1,rfl,n2,r.sub _ _ e1,h.1.1,h.1.2.1,by rw[<-m1.length];exact h.1.2.2,λp hp=>?_⟩;exact lO e r hp (q5 r hp (.of (yi m1.pair k.toNat))) h.2
 ·exact h.elim
def Zk:oz K (rI (λ_ j=>j≠0/\fY j) λi j=>.int (i.fdiv j)) QO:=by
 intro G0 L0 H0 G L M H v1 v2 d1 d2 q e r n1 n2 h;unfold QO at h;split at h
 ·rename_i i j;have h0:=h.1.1;refine⟨_,_,n1,n2,⟨(),h.1.2⟩,fin_same (d:=.int (i.fdiv j)) e r rfl ?_⟩;rw[acg i (aaj h0)];exact h.2
 ·exact h.elim
def Sr:oz K (rI (λ_ j=>j≠0/\fY j) λi j=>.int (i.fdiv j)) EY:=by
 intro G0 L0 H0 G L M H v1 v2 d1 d2 q e r n1 n2 h;unfold EY at h;split at h
 ·exact⟨_,_,n1,n2,h.1,bG e r h.2⟩
 ·exact h.elim
def Yt:oz K (rI (λ_ j=>0 < j) λi j=>.int (i % j)) MQ:=by
 intro G0 L0 H0 G L M H v1 v2 d1 d2 q e r n1 n2 h;unfold MQ at h;split at h
 ·exact⟨_,_,n1,n2,h.1,bG e r h.2⟩
 ·exact h.elim
def WJ:oz K (rI Ad λi j=>.int (i ^ j.toNat)) P8:=by
 intro G0 L0 H0 G L M H v1 v2 d1 d2 q e r n1 n2 h;unfold P8 at h;split at h
 ·exact⟨_,_,n1,n2,h.1,bG e r h.2⟩
 ·exact h.elim
def XZ:Zd K (rU λi=>.int (-i)) Po:=by
 intro G0 L0 H0 G L M H v1 d1 q e r n1 h;unfold Po at h;split at h
 ·exact⟨_,n1,bG e r h⟩
 ·exact h.elim
end
section
variable{X:Cx}{R:St->XK}{a b c:Expr}{ta tb:DE}{pos:Pos}
def cW(ja:JE X R a ta)(jb:JE X R b tb):JE X R (.BinOp a .Add b pos) (lI yX ta tb):=wJ (O4.or (C8.or (IX.or MI))) W8 ja jb
def Ae(ja:JE X R a ta)(jb:JE X R b tb):JE X R (.BinOp a .Sub b pos) (lI Bx ta tb):=wJ Pq Yv ja jb
def aR(ja:JE X R a ta)(jb:JE X R b tb):JE X R (.BinOp a .Mult b pos) (lI Jc ta tb):=wJ (MY.or IM) YL ja jb
def j9(ja:JE X R a ta)(jb:JE X R b tb):JE X R (.BinOp a .FloorDiv b pos) (lI QO ta tb):=wJ Ay Zk ja jb
def Bq(ja:JE X R a ta)(jb:JE X R b tb):JE X R (.BinOp a .FloorDiv b pos) (lI EY ta tb):=wJ Ay Sr ja jb
def cx(ja:JE X R a ta)(jb:JE X R b tb):JE X R (.BinOp a .Mod b pos) (lI MQ ta tb):=wJ Qu Yt ja jb
def iW(ja:JE X R a ta)(jb:JE X R b tb):JE X R (.BinOp a .Pow b pos) (lI P8 ta tb):=wJ Pj WJ ja jb
def Ui(ja:JE X R a ta):JE X R (.UnaryOp .USub a pos) (Vp Po ta):=Wo Pr XZ ja
end
def VF:Dt->Dt->Ms->DQ->Prop
 | .int i,.int j,M,q=>q (.bl (decide (i < j))) M
 | _,_,_,_=>False
def WO:Dt->Dt->Ms->DQ->Prop
 | .int i,.int j,M,q=>q (.bl (decide (i<=j))) M
 | _,_,_,_=>False
def YH:Dt->Dt->Ms->DQ->Prop
 | .int i,.int j,M,q=>q (.bl (decide (j < i))) M
 | _,_,_,_=>False
def Zb:Dt->Dt->Ms->DQ->Prop
 | .int i,.int j,M,q=>q (.bl (decide (j<=i))) M
 | _,_,_,_=>False
def vv:Dt->Option V
 | .bF=>some .bF
 | .bl b=>some (.bl b)
 | .int i=>some (.int i)
 | .str x=>some (.str x)
 | _=>none
def hU:List Dt->Option (List V)
 | []=>some []
 | d::ds=>match vv d,hU ds with
  | some v,some vs=>some (v::vs)
  | _,_=>none
section
variable{K:fI}{G:Hp}{L:List Addr}
def k9{d:Dt}{v u:V}(h:vv d=some u)(n:Den K G L d v):v=u/\eQ u=true:=by cases d <;> first| (cases h;exact⟨n,rfl⟩)| cases h
def fk:∀{ds:List Dt} {vs us:List V},hU ds=some us->Ψ K G L ds vs->vs=us/\us.all eQ=true
 | [],vs,us,h,n=>by cases h;exact⟨n,rfl⟩
 | d::ds,_,us,h,⟨v,r,e,n1,n2⟩=>by
  subst e;unfold hU at h;split at h
  ·rename_i u1 u2 h1 h2;cases h;have⟨a1,a2⟩:=k9 h1 n1;have⟨b1,b2⟩:=fk h2 n2;subst a1 b1;exact⟨rfl,by rw[ab1,a2,b2];rfl⟩
  ·cases h
end
def Cn:Dt->Dt->Ms->DQ->Prop
 | .int i,.int j,M,q=>q (.bl (decide (i=j))) M
 | .str i,.str j,M,q=>q (.bl (decide (i=j))) M
 | .bl i,.bl j,M,q=>q (.bl (decide (i=j))) M
 | .tup a,.tup b,M,q=>match hU a,hU b with
  | some us,some vs=>q (.bl (og us vs)) M
  | _,_=>False
 | _,_,_,_=>False
def Md:Dt->Dt->Ms->DQ->Prop
 | .int i,.int j,M,q=>q (.bl (!decide (i=j))) M
 | .str i,.str j,M,q=>q (.bl (!decide (i=j))) M
 | .bl i,.bl j,M,q=>q (.bl (!decide (i=j))) M
 | .tup a,.tup b,M,q=>match hU a,hU b with
  | some us,some vs=>q (.bl (!og us vs)) M
  | _,_=>False
 | _,_,_,_=>False
def P2:Dt->Dt->Ms->DQ->Prop
 | .bF,.bF,M,q=>q (.bl true) M
 | .bl _,.bF,M,q=>q (.bl false) M
 | .int _,.bF,M,q=>q (.bl false) M
 | .str _,.bF,M,q=>q (.bl false) M
 | .tup _,.bF,M,q=>q (.bl false) M
 | .lst _,.bF,M,q=>q (.bl false) M
 | _,_,_,_=>False
section
variable{K:fI}
def ltD:oz K (Hi λi j=>.bl (decide (i < j))) VF:=by
 intro G0 L0 H0 G L M H v1 v2 d1 d2 q e r n1 n2 h;unfold VF at h;split at h
 ·exact⟨_,_,n1,n2,bG e r h⟩
 ·exact h.elim
def leD:oz K (Hi λi j=>.bl (decide (i<=j))) WO:=by
 intro G0 L0 H0 G L M H v1 v2 d1 d2 q e r n1 n2 h;unfold WO at h;split at h
 ·exact⟨_,_,n1,n2,bG e r h⟩
 ·exact h.elim
def gtD:oz K (Hi λi j=>.bl (decide (j < i))) YH:=by
 intro G0 L0 H0 G L M H v1 v2 d1 d2 q e r n1 n2 h;unfold YH at h;split at h
 ·exact⟨_,_,n1,n2,bG e r h⟩
 ·exact h.elim
def geD:oz K (Hi λi j=>.bl (decide (j<=i))) Zb:=by
 intro G0 L0 H0 G L M H v1 v2 d1 d2 q e r n1 n2 h;unfold Zb at h;split at h
 ·exact⟨_,_,n1,n2,bG e r h⟩
 ·exact h.elim
def lH{p q:Prop} [Decidable p] [Decidable q](h:p↔q):decide p=decide q:=decide_eq_decide.mpr h
def S_:oz K (λx y H Q=>rEq x y H Q\/Ut K x y H Q) Cn:=by
 intro G0 L0 H0 G L M H v1 v2 d1 d2 q e r n1 n2 h;unfold Cn at h;split at h
 ·rename_i i j;cases n1;cases n2;exact .inl ⟨rfl,fin_same (d:=.bl _) e r (by show V.bl _=V.bl _;rw[lH (p:=V.int i=V.int j) (q:=i=j) ⟨λz=>V.int.inj z,λz=>by rw[z]⟩]) h⟩
 ·rename_i i j;cases n1;cases n2;exact .inl ⟨rfl,fin_same (d:=.bl _) e r (by show V.bl _=V.bl _;rw[lH (p:=V.str i=V.str j) (q:=i=j) ⟨λz=>V.str.inj z,λz=>by rw[z]⟩]) h⟩
 ·rename_i i j;cases n1;cases n2;exact .inl ⟨rfl,fin_same (d:=.bl _) e r (by show V.bl _=V.bl _;rw[lH (p:=V.bl i=V.bl j) (q:=i=j) ⟨λz=>V.bl.inj z,λz=>by rw[z]⟩]) h⟩
 ·rename_i a b;have⟨p1,w1,rfl,e1,m1⟩:=n1;have⟨p2,w2,rfl,e2,m2⟩:=n2;split at h
  ·rename_i us vs h1 h2;have⟨rfl,a2⟩:=fk h1 m1;have⟨rfl,b2⟩:=fk h2 m2;exact .inr ⟨p1,p2,_,_,rfl,rfl,.inl (.inl (r.sub _ _ e1)),.inl (.inl (r.sub _ _ e2)),a2,b2,bG e r h⟩
  ·exact h.elim
 ·exact h.elim
def WX:oz K (λx y H Q=>rNe x y H Q\/SV K x y H Q) Md:=by
 intro G0 L0 H0 G L M H v1 v2 d1 d2 q e r n1 n2 h;unfold Md at h;split at h
 ·rename_i i j;cases n1;cases n2;exact .inl ⟨rfl,fin_same (d:=.bl _) e r (by show V.bl _=V.bl _;rw[lH (p:=V.int i=V.int j) (q:=i=j) ⟨λz=>V.int.inj z,λz=>by rw[z]⟩]) h⟩
 ·rename_i i j;cases n1;cases n2;exact .inl ⟨rfl,fin_same (d:=.bl _) e r (by show V.bl _=V.bl _;rw[lH (p:=V.str i=V.str j) (q:=i=j) ⟨λz=>V.str.inj z,λz=>by rw[z]⟩]) h⟩
 ·rename_i i j;cases n1;cases n2;exact .inl ⟨rfl,fin_same (d:=.bl _) e r (by show V.bl _=V.bl _;rw[lH (p:=V.bl i=V.bl j) (q:=i=j) ⟨λz=>V.bl.inj z,λz=>by rw[z]⟩]) h⟩
 ·rename_i a b;have⟨p1,w1,rfl,e1,m1⟩:=n1;have⟨p2,w2,rfl,e2,m2⟩:=n2;split at h
  ·rename_i us vs h1 h2;have⟨rfl,a2⟩:=fk h1 m1;have⟨rfl,b2⟩:=fk h2 m2;exact .inr ⟨p1,p2,_,_,rfl,rfl,.inl (.inl (r.sub _ _ e1)),.inl (.inl (r.sub _ _ e2)),a2,b2,bG e r h⟩
  ·exact h.elim
 ·exact h.elim
def Xb:oz K (λx y H Q=>y= .bF/\Q (.bl (decide (x= .bF))) H) P2:=by
 intro G0 L0 H0 G L M H v1 v2 d1 d2 q e r n1 n2 h;unfold P2 at h;split at h
 ·cases n1;exact⟨n2,fin_same (d:=.bl true) e r (by show V.bl _=V.bl _;rw[aaB rfl]) h⟩
 ·cases n1;exact⟨n2,fin_same (d:=.bl false) e r (by show V.bl _=V.bl _;rw[aaG (λz=>nomatch z)]) h⟩
 ·cases n1;exact⟨n2,fin_same (d:=.bl false) e r (by show V.bl _=V.bl _;rw[aaG (λz=>nomatch z)]) h⟩
 ·cases n1;exact⟨n2,fin_same (d:=.bl false) e r (by show V.bl _=V.bl _;rw[aaG (λz=>nomatch z)]) h⟩
 ·have⟨p1,w1,rfl,_⟩:=n1;exact⟨n2,fin_same (d:=.bl false) e r (by show V.bl _=V.bl _;rw[aaG (λz=>nomatch z)]) h⟩
 ·have⟨p1,w1,rfl,_⟩:=n1;exact⟨n2,fin_same (d:=.bl false) e r (by show V.bl _=V.bl _;rw[aaG (λz=>nomatch z)]) h⟩
 ·exact h.elim
end
section
variable{X:Cx}{R:St->XK}{a b c:Expr}{ta tb:DE}{pos:Pos}
def I_(ja:JE X R a ta)(jb:JE X R b tb):JE X R (.Compare a [.Lt] [b] pos) (lI VF ta tb):=vB Ox ltD ja jb (jK _)
def Ac(ja:JE X R a ta)(jb:JE X R b tb):JE X R (.Compare a [.LtE] [b] pos) (lI WO ta tb):=vB R3 leD ja jb (jK _)
def W9(ja:JE X R a ta)(jb:JE X R b tb):JE X R (.Compare a [.GtE] [b] pos) (lI Zb ta tb):=vB UJ geD ja jb (jK _)
def Mo{k:Nat}(hr:bT k X.A)(ja:JE X R a ta)(jb:JE X R b tb):JE X R (.Compare a [.Eq] [b] pos) (lI Cn ta tb):=vB (Oc.or (KH hr.CN)) S_ ja jb (jK _)
def vN(ja:JE X R a ta)(jb:JE X R b tb):JT X R (.Compare a [.Lt] [b] pos) (pO (lI VF ta tb)):=jG Ox ltD ja jb (jK _)
def EJ(ja:JE X R a ta)(jb:JE X R b tb):JT X R (.Compare a [.Gt] [b] pos) (pO (lI YH ta tb)):=jG Sh gtD ja jb (jK _)
def eZ{k:Nat}(hr:bT k X.A)(ja:JE X R a ta)(jb:JE X R b tb):JT X R (.Compare a [.Eq] [b] pos) (pO (lI Cn ta tb)):=jG (Oc.or (KH hr.CN)) S_ ja jb (jK _)
def tX{k:Nat}(hr:bT k X.A)(ja:JE X R a ta)(jb:JE X R b tb):JT X R (.Compare a [.NotEq] [b] pos) (pO (lI Md ta tb)):=jG (Tn.or (Qg hr.CN)) WX ja jb (jK _)
def Kg(ja:JE X R a ta)(jb:JE X R b tb):JT X R (.Compare a [.Is] [b] pos) (pO (lI P2 ta tb)):=jG QC Xb ja jb (jK _)
end
def jq(M:Ms):Dt->Option (List Dt)
 | .lst xs=>some xs
 | .tup xs=>some xs
 | .jR ns=>some (ns.map .int)
 | .kt xs=>some xs
 | .loc k=>match M[k]? with
  | some (.lst xs)=>some xs
  | _=>none
 | _=>none
def n_{K:fI}{G:Hp}{L:List Addr}{M:Ms}{H:Hp}{d:Dt}{v:V}{xs:List Dt}(r:Rl K G L M H)(n:Den K G L d v)(h:jq M d=some xs):∃a vs,v= .ref a/\(gC K H a vs\/nv K H a vs)/\Ψ K G L xs vs:=by
 cases d with
 | lst ds=>cases h;have⟨a,vs,rfl,e,m⟩:=n;exact⟨a,vs,rfl,.inl (.of (r.sub _ _ e)),m⟩
 | tup ds=>cases h;have⟨a,vs,rfl,e,m⟩:=n;exact⟨a,vs,rfl,.inr (.of (r.sub _ _ e)),m⟩
 | kt ds=>cases h;have⟨a,vs,rfl,e,m⟩:=n;exact⟨a,vs,rfl,.inr (r.sub.SN e),m⟩
 | jR ns=>cases h;have⟨a,rfl,e⟩:=n;exact⟨a,_,rfl,.inl (r.sub.seq e),iN⟩
 | loc k=>
  have⟨a,rfl,e⟩:=n;have h:(match M[k]? with| some (.lst xs)=>some xs| _=>none)=some xs:=h;split at h
  ·rename_i ys hm;cases h;have⟨_,vs,e1,m1⟩:=r.f_ k a _ e hm;exact⟨a,vs,rfl,.inl (.of e1),m1⟩
  ·cases h
 | _=>cases h
def M7{K:fI}{G:Hp}{L:List Addr}{ds:List Dt}{vs:List V}{i:Int}{d:Dt}(n:Ψ K G L ds vs)(h:nJ ds i=some d):∃v,nJ vs i=some v/\Den K G L d v:=by
 unfold nJ at h⊢;rw[<-n.length];cases q:Hq ds.length i with
 | none=>rw[q]at h;cases h
 | some j=>
  rw[q]at h;have⟨v,e,m⟩:=n.get h;exact⟨v,e,m⟩
def fm:Dt->Dt->Ms->DQ->Prop
 | .str z,.int i,M,q=>z.length<=sizeLine/\match nJ z.cps.toList i with
  | some c=>q (.str ⟨#[c]⟩) M
  | none=>False
 | d,.int i,M,q=>match jq M d with
  | some xs=>(match nJ xs i with
   | some y=>q y M
   | none=>False)
  | none=>False
 | _,_,_,_=>False
def gw:List Dt->Ms->DQ->Prop
 | [.str z],M,q=>z.length<=sizeLine/\q (.int z.length) M
 | [d],M,q=>match jq M d with
  | some xs=>q (.int xs.length) M
  | none=>False
 | _,_,_=>False
section
variable{K:fI}
def ixD:oz K (rIx K) fm:=by
 intro G0 L0 H0 G L M H v1 v2 d1 d2 q e r n1 n2 h;unfold fm at h;split at h
 ·rename_i z i;split at h
  ·rename_i c hc;exact .inr (.inr ⟨z,i,c,n1,n2,h.1,hc,bG e r h.2⟩)
  ·exact h.2.elim
 ·rename_i d i _;split at h
  ·rename_i xs hx;split at h
   ·rename_i y hy;have⟨a,vs,rfl,hs,m⟩:=n_ r n1 hx;have⟨v,e1,m1⟩:=M7 m hy;rcases hs with hs| hs
    ·exact .inl ⟨a,vs,i,v,rfl,n2,hs,e1,fin_same e r m1 h⟩
    ·exact .inr (.inl ⟨a,vs,i,v,rfl,n2,hs,e1,fin_same e r m1 h⟩)
   ·exact h.elim
  ·exact h.elim
 ·exact h.elim
def X':EA K (λxs H Q=>(∃z,xs=[V.str z]/\z.length<=sizeLine/\Q (.int z.length) H)\/(∃p ys,xs=[V.ref p]/\(gC K H p ys\/nv K H p ys)/\Q (.int ys.length) H)) gw:=by
 intro G0 L0 H0 G L M H vs ds q e r n h;unfold gw at h;split at h
 ·rename_i z;have⟨v,rfl,n1⟩:=bw n;cases n1;exact .inl ⟨z,rfl,h.1,bG e r h.2⟩
 ·rename_i d _;have⟨v,rfl,n1⟩:=bw n;split at h
  ·rename_i xs hx;have⟨a,ws,rfl,hs,m⟩:=n_ r n1 hx;exact .inr ⟨a,ws,rfl,hs,fin_same (d:=.int xs.length) e r (by show V.int _=V.int _;rw[m.length]) h⟩
  ·exact h.elim
 ·exact h.elim
end
section
variable{X:Cx}{R:St->XK}{a b c:Expr}{ta tb:DE}{pos:Pos}
def Μ(ja:JE X R a ta)(jb:JE X R b tb)(hs:yv b:=by exactλ_ _=>rfl):JE X R (.Subscript a b pos) (lI fm ta tb):=R9 Rh ixD ja jb hs
variable{x:Str}{p:Pos}{e:Expr}{es:List Expr}{t:DA}{id T:String}{r:List V->Hp->VK->Prop}{f:List Dt->Ms->DQ->Prop}
def ij(hc:dI X (.builtin id) r)(cd:EA X.K r f)(hm:X.mg x=none)(hv:bootBuiltins x=some (.builtin id))(ha:JA X R (e::es) t)(hg:Gl X x:=by rfl)(hn:x≠"__name__":=by decide)(uR:(x==("__debug__":Str))=false:=by decide)
  (he:starEach (e::es) X.env=(false,eval e X.env)::starEach es X.env:=by rfl) (gy:(backTo pos (starEach es X.env)).any (·.1)=false:=by rfl):JE X R (.Call (.Name x p) (e::es) [] pos) (CQ f t):=
 .of (HJ hc hg hm hv ha hn uR he gy) λσ H G L ρ M q x r n h hx=>Om cd r n h hx
def ub(hc:dI X (.type T) r)(cd:EA X.K r f)(hm:X.mg x=none)(hv:bootBuiltins x=some (.type T))(ha:JA X R (e::es) t)(hg:Gl X x:=by rfl)(hn:x≠"__name__":=by decide)(uR:(x==("__debug__":Str))=false:=by decide)
  (he:starEach (e::es) X.env=(false,eval e X.env)::starEach es X.env:=by rfl) (gy:(backTo pos (starEach es X.env)).any (·.1)=false:=by rfl):JE X R (.Call (.Name x p) (e::es) [] pos) (CQ f t):=
 .of (G7 hc hg hm hv ha hn uR he gy) λσ H G L ρ M q x r n h hx=>Om cd r n h hx
def cQ(hm:X.mg "len"=none)(ha:JA X R [e] t)(he:starEach [e] X.env=(false,eval e X.env)::starEach [] X.env:=by rfl)(gy:(backTo pos (starEach [] X.env)).any (·.1)=false:=by rfl)(hg:Gl X "len":=by rfl):JE X R (.Call (.Name "len" p) [e] [] pos) (CQ gw t):=
 ij (xQ.or xN) X' hm PySem.boot_len ha hg @_ @_ he gy
end
section
variable{X:Cx}
def yg:dI X (.type "int") (λxs H Q=>∃x n,xs=[.str x]/\PySem.intText? x=some n/\x.length<=640/\Q (.int n) H):=by intro ζ s σ H xs us Q I rs h;have⟨x,n,rfl,hn,hl,q⟩:=h;have⟨w,rfl,u,rfl⟩:=lu rs;exact PySem.W.KIN.call_text hn hl ⟨.int n,H,I.tok _,⟨_,rfl⟩,q⟩
end
def zB:List Dt->Ms->DQ->Prop
 | [.int i],M,q=>q (.int i) M
 | [.bl b],M,q=>q (.int (if b then 1 else 0)) M
 | [.str x],M,q=>x.length<=640/\match PySem.intText? x with
  | some n=>q (.int n) M
  | none=>False
 | _,_,_=>False
def PV:List Dt->Ms->DQ->Prop
 | [.int i],M,q=>q (.int (if i < 0 then -i else i)) M
 | _,_,_=>False
def HY:List Dt->Ms->DQ->Prop
 | [.int i,.int j],M,q=>q (.int (if j < i then j else i)) M
 | _,_,_=>False
def PZ:List Dt->Ms->DQ->Prop
 | [d],M,q=>∃bs:List Bool,jq M d=some (bs.map Dt.bl)/\(∀k,d≠ .kt k)/\(∀k,d≠ .tup k)/\q (.bl (bs.any id)) M
 | _,_,_=>False
def OM:Dt->Option Value
 | .bF=>some (.type "NoneType")
 | .bl _=>some (.type "bool")
 | .int _=>some (.type "int")
 | .str _=>some (.type "str")
 | .lst _=>some (.type "list")
 | .tup _=>some (.type "tuple")
 | _=>none
def SJ:Dt->Option Value
 | .ty T=>some (.type T)
 | .ref C=>some (.ref C)
 | _=>none
section
variable{K:fI}
def wk{G:Hp}{L:List Addr}:∀{l:List Str},Ψ K G L (l.map Dt.str) (l.map V.str)
 | []=>rfl
 | _::_=>⟨_,_,rfl,rfl,wk⟩
def nF{G:Hp}{L:List Addr}:∀{bs:List Bool} {vs:List V},Ψ K G L (bs.map Dt.bl) vs->vs=bs.map V.bl
 | [],_,h=>h
 | b::bs,_,⟨v,r,e,h1,h2⟩=>by subst e;rw[nF h2,show v=V.bl b from h1];rfl
def ZM:EA K (λxs H Q=>((∃i,xs=[V.int i]/\Q (.int i) H)\/∃k,xs=[V.bl k]/\Q (.int (if k then 1 else 0)) H)\/∃x n,xs=[V.str x]/\PySem.intText? x=some n/\x.length<=640/\Q (.int n) H) zB:=by
 intro G0 L0 H0 G L M H vs ds q e r n h;unfold zB at h;split at h
 ·rename_i i;have⟨v,rfl,n1⟩:=bw n;cases n1;exact .inl (.inl ⟨i,rfl,bG e r h⟩)
 ·rename_i i;have⟨v,rfl,n1⟩:=bw n;cases n1;exact .inl (.inr ⟨i,rfl,bG e r h⟩)
 ·rename_i x;have⟨v,rfl,n1⟩:=bw n;cases n1;split at h
  ·rename_i m hm;exact .inr ⟨x,m,rfl,hm,h.1,bG e r h.2⟩
  ·exact h.2.elim
 ·exact h.elim
def XN:EA K (λxs H Q=>∃i,xs=[V.int i]/\Q (.int (if i < 0 then -i else i)) H) PV:=by
 intro G0 L0 H0 G L M H vs ds q e r n h;unfold PV at h;split at h
 ·rename_i i;have⟨v,rfl,n1⟩:=bw n;cases n1;exact⟨i,rfl,bG e r h⟩
 ·exact h.elim
def ZN:EA K (λxs H Q=>∃i j,xs=[V.int i,.int j]/\Q (.int (if j < i then j else i)) H) HY:=by
 intro G0 L0 H0 G L M H vs ds q e r n h;unfold HY at h;split at h
 ·rename_i i j;have⟨v,u,rfl,n1,n2⟩:=gQ n;cases n1;cases n2;exact⟨i,j,rfl,bG e r h⟩
 ·exact h.elim
def Yu:EA K (Vg K) PZ:=by
 intro G0 L0 H0 G L M H vs ds q e r n h;unfold PZ at h;split at h
 ·rename_i d;have⟨bs,hs,nk,nt,h⟩:=h;have⟨v,rfl,n1⟩:=bw n;cases d with
  | lst xs=>
   cases hs;have⟨a,ws,rfl,e1,m⟩:=n1;exact⟨a,bs,rfl,by rw[<-nF m];exact .of (r.sub _ _ e1),bG e r h⟩
  | loc k=>
   have⟨a,rfl,e1⟩:=n1;have hs:(match M[k]? with| some (.lst xs)=>some xs| _=>none)=some (bs.map Dt.bl):=hs;split at hs
   ·rename_i ys hm;cases hs;have⟨_,ws,e2,m⟩:=r.f_ k a _ e1 hm;exact⟨a,bs,rfl,by rw[<-nF m];exact .of e2,bG e r h⟩
   ·cases hs
  | tup xs=>exact aaJ rfl (nt xs)
  | kt xs=>exact aaJ rfl (nk xs)
  | jR ns=>
   have e0:ns.map Dt.int=bs.map Dt.bl:=aax hs;cases ns with
   | nil=>
    cases bs with
    | nil=>have⟨a,rfl,e1⟩:=n1;exact⟨a,[],rfl,r.sub.seq e1,bG e r h⟩
    | cons _ _=>cases e0
   | cons _ _=>
    cases bs with
    | nil=>cases e0
    | cons _ _=>cases e0
  | _=>cases hs
 ·exact h.elim
def GI{G:Hp}{L:List Addr}{M:Ms}{H:Hp}{d:Dt}{v:V}{t:Value}(r:Rl K G L M H)(n:Den K G L d v)(h:OM d=some t):lP K H v t:=by
 cases d with
 | bF=>cases h;cases n;exact .bF
 | bl b=>cases h;cases n;exact .bl _
 | int i=>cases h;cases n;exact .int _
 | str x=>cases h;cases n;exact .str _
 | lst xs=>cases h;have⟨a,ws,rfl,e,_⟩:=n;exact .lst (r.sub _ _ e)
 | tup xs=>cases h;have⟨a,ws,rfl,e,_⟩:=n;exact .tup (r.sub _ _ e)
 | _=>cases h
def LW{G:Hp}{L:List Addr}{d:Dt}{v:V}{t:Value}(n:Den K G L d v)(h:SJ d=some t):Ny v=some t:=by
 cases d with
 | ty T=>cases n;exact h
 | ref C=>cases n;exact h
 | _=>cases h
end
section
variable{X:Cx}{R:St->XK}{o a e e1 e2:Expr}{es:List Expr}{to ta te:DE}{t:DA}{name:Str}{apos cZ pos p p2:Pos}{T id:String}
def vp:bootBuiltins "int"=some (.type "int"):=by decide+kernel
def Fq:bootBuiltins "abs"=some (.builtin "abs"):=by decide+kernel
def FO:bootBuiltins "any"=some (.builtin "any"):=by decide+kernel
def G_:bootBuiltins "min"=some (.builtin "min"):=by decide+kernel
def o_:bootBuiltins "isinstance"=some (.builtin "isinstance"):=by decide+kernel
def C6:bootBuiltins "bool"=some (.type "bool"):=by decide+kernel
def zI:bootBuiltins "tuple"=some (.type "tuple"):=by decide+kernel
def rE:bootBuiltins "list"=some (.type "list"):=by decide+kernel
def Me{x:Str}{T:String}(hm:X.mg x=none)(hv:bootBuiltins x=some (.type T))(hg:Gl X x:=by rfl)(hn:x≠"__name__":=by decide)(hd:(x==("__debug__":Str))=false:=by decide):JE X R (.Name x p) (dC (.ty T)):=Ro (M6 (v:=.ty T) hg hm hv rfl hn hd) λ_ _=>rfl
def tJ{x:Str}{z:Int}(hm:∃tk,X.mg x=some (.int z tk))(hg:Gl X x:=by rfl)(hd:(x==("__debug__":Str))=false:=by decide):JE X R (.Name x p) (dC (.int z)):=let ⟨tk,hm⟩:=hm;Ro (EF (v:=.int z) hg hm ⟨tk,rfl⟩ hd) λ_ _=>rfl
end
def VQ(x:Str):It:=⟨λi _=>i < x.cps.size,λi H v H'=>H'=H/\∃c,x.cps[i]? =some c/\v= .str ⟨#[c]⟩,λi _=>x.cps.size<=i⟩
def GQ{P:Program}{w:World}{K:fI}{tg:Expr}(x:Str)(t:Tok)(it:Addr):Turn P w K tg (VQ x) [it] it (λi h=>h.IsStrIter it "str_ascii_iterator" x t i) where
 mem:=by simp
 obj:=λi h st b hb=>by
  have e:b=it:=by simpa using hb
  subst e;have⟨o,e,c,d⟩:=st;exact⟨o,e,λv z=>by rw[d]at z;cases z⟩
 keep:=λi h h' st k=>let ⟨o,ho,r⟩:=st;⟨o,k it (by simp) o ho,r⟩
 item:=by intro X hP hw hK hc i ζ s σ H E I hf st hg;subst hP hw hK;have⟨f0,f1,f2,f3,f4,f5⟩:=hf it (by simp);have hg:i < x.cps.size:=hg;refine wpAny_pyNext_ascii_item st (c:=x.cps[i]) (by simp[hg]) λh' wx sb=>?_;have I1:Inv X ζ σ H {s with heap:=h',toks:=s.toks+1}:=I.turned (λb o hb e=>(sb.2 b hb).trans e) f0 f1 f3 f4 f5;have⟨o,e,c,d⟩:=id wx;exact⟨_,rfl,vQ (s:={s with heap:=h',toks:=s.toks+1}) e c d @_ ⟨.str ⟨#[x.cps[i]]⟩,H,I1,⟨_,rfl⟩,⟨rfl,_,by simp[hg],rfl⟩,wx,λb hb=>(hf b hb).1⟩⟩
 done:=by intro X hP hw hK hc i ζ s σ H E I hf st hg;subst hP hw hK;have⟨f0,f1,f2,f3,f4,f5⟩:=hf it (by simp);have hg:x.cps.size<=i:=hg;exact wpAny_pyNext_ascii_end (I.ok.hd hc) st (by simp;omega) λh' eb=>⟨rfl,I.turned (t':=s.toks) (λb o hb e=>eb b o hb e) f0 f1 f3 f4 f5⟩
 self:=λ_ _ _ _ _ st h=>wpAny_pyIter_striter_ascii st h
def Gp{P:Program}{w:World}{K:fI}{tg:Expr}(x:Str)(t:Tok)(it:Addr):Turn P w K tg (VQ x) [it] it (λi h=>h.IsStrIter it "str_iterator" x t i) where
 mem:=by simp
 obj:=λi h st b hb=>by
  have e:b=it:=by simpa using hb
  subst e;have⟨o,e,c,d⟩:=st;exact⟨o,e,λv z=>by rw[d]at z;cases z⟩
 keep:=λi h h' st k=>let ⟨o,ho,r⟩:=st;⟨o,k it (by simp) o ho,r⟩
 item:=by intro X hP hw hK hc i ζ s σ H E I hf st hg;subst hP hw hK;have⟨f0,f1,f2,f3,f4,f5⟩:=hf it (by simp);have hg:i < x.cps.size:=hg;refine wpAny_pyNext_wide_item st (c:=x.cps[i]) (by simp[hg]) λh' wx sb=>?_;have I1:Inv X ζ σ H {s with heap:=h',toks:=s.toks+1}:=I.turned (λb o hb e=>(sb.2 b hb).trans e) f0 f1 f3 f4 f5;have⟨o,e,c,d⟩:=id wx;exact⟨_,rfl,vQ (s:={s with heap:=h',toks:=s.toks+1}) e c d @_ ⟨.str ⟨#[x.cps[i]]⟩,H,I1,⟨_,rfl⟩,⟨rfl,_,by simp[hg],rfl⟩,wx,λb hb=>(hf b hb).1⟩⟩
 done:=by intro X hP hw hK hc i ζ s σ H E I hf st hg;subst hP hw hK;have⟨f0,f1,f2,f3,f4,f5⟩:=hf it (by simp);have hg:x.cps.size<=i:=hg;exact wpAny_pyNext_wide_end (I.ok.hd hc) st (by simp;omega) λh' eb=>⟨rfl,I.turned (t':=s.toks) (λb o hb e=>eb b o hb e) f0 f1 f3 f4 f5⟩
 self:=λ_ _ _ _ _ st h=>wpAny_pyIter_striter_wide st h
def xj(z:Str):List Dt:=z.cps.toList.map λc=>Dt.str ⟨#[c]⟩
def Qb{K:fI}{G:Hp}{L:List Addr}{z:Str}:Yl K (VQ z) (xj z) G L where
 go :=λi G1 L1 M1 H1 d g l r e=>by
  unfold xj at e;rw[aal]at e;cases q:z.cps.toList[i]? with
  | none=>rw[q]at e;cases e
  | some c=>
   rw[q]at e;cases e;have hi:i < z.cps.size:=by have:=(aaf.mp q).1;simpa using this
   refine⟨hi,λv' H' xz=>?_⟩;have⟨eH,c',e',y⟩:=xz;subst eH y;have:c'=c:=by rw[<-Array.getElem?_toList,q]at e';exact(aax e').symm
   subst this;exact⟨G1,.refl _ _ _,r,rfl⟩
 stop:=λi G1 L1 M1 H1 g l r e=>by unfold xj at e;show z.cps.size<=i;simpa using e
def SE(M:Ms):Dt->Option (List Dt)
 | .lst xs=>some xs
 | .tup xs=>some xs
 | .jR ns=>some (ns.map .int)
 | .kt xs=>some xs
 | .str z=>some (xj z)
 | _=>none
section
variable{X:Cx}{R:St->XK}{tg e:Expr}{te:DE}
def xW{ζ:List (Addr×Obj)}{σ:St}{H:Hp}{s:Shared}{a:Addr}{vs:List V}{Q:It->Hp->Prop}{E:Value->Shared->Prop}(I:Inv X ζ σ H s)(hq:gC X.K H a vs)(q:Q (VP X.K a) H):wpAny (model X.prog X.w) X.A (pyIter (.ref a)) (Lo X ζ σ tg Q) E s:=by
 have⟨its,rv,p,hz⟩:=I.list hq;refine wpAny_pyIter_list p.isList ?_;refine⟨s.heap.objs.size,[s.heap.objs.size],_,_,H,rfl,I.kept (t':=s.toks) λb o e=>aak _ e,Ge a _,⟨_,aaS _ rfl,rfl,rfl⟩,λb hb=>?_,q⟩;have e:b=s.heap.objs.size:=by simpa using hb
 subst e;exact I.C2 (aai _) (I.bb.fresh (aai _))
def Lb{ζ:List (Addr×Obj)}{σ:St}{H:Hp}{s:Shared}{a:Addr}{vs:List V}{Q:It->Hp->Prop}{E:Value->Shared->Prop}(I:Inv X ζ σ H s)(hq:nv X.K H a vs)(q:Q (Zv X.K a) H):wpAny (model X.prog X.w) X.A (pyIter (.ref a)) (Lo X ζ σ tg Q) E s:=by
 have⟨its,rv,p,hz⟩:=I.tuple hq;refine wpAny_pyIter_tuple (show s.heap.IsTuple a its.toArray from p) ?_;refine⟨s.heap.objs.size,[s.heap.objs.size],_,_,H,rfl,I.kept (t':=s.toks) λb o e=>aak _ e,B9 a _,⟨_,aaS _ rfl,rfl,rfl⟩,λb hb=>?_,q⟩;have e:b=s.heap.objs.size:=by simpa using hb
 subst e;exact I.C2 (aai _) (I.bb.fresh (aai _))
def Q2{ζ:List (Addr×Obj)}{σ:St}{H:Hp}{s:Shared}{z:Str}{t:Tok}{Q:It->Hp->Prop}{E:Value->Shared->Prop}(I:Inv X ζ σ H s)(q:Q (VQ z) H):wpAny (model X.prog X.w) X.A (pyIter (.str z t)) (Lo X ζ σ tg Q) E s:=by
 have fp:∀b∈[s.heap.objs.size],ui X ζ H b:=λb hb=>by
  have e:b=s.heap.objs.size:=by simpa using hb
  subst e;exact I.C2 (aai _) (I.bb.fresh (aai _))
 cases ha:z.cps.all (· < 128)
 ·exact wpAny_pyIter_wide ha ⟨s.heap.objs.size,[s.heap.objs.size],_,_,H,rfl,I.kept (t':=s.toks) λb o e=>aak _ e,Gp z t _,⟨_,aaS _ rfl,rfl,rfl⟩,fp,q⟩
 ·exact wpAny_pyIter_ascii ha ⟨s.heap.objs.size,[s.heap.objs.size],_,_,H,rfl,I.kept (t':=s.toks) λb o e=>aak _ e,GQ z t _,⟨_,aaS _ rfl,rfl,rfl⟩,fp,q⟩
end
def Qp:DF:=λds _ q _=>∃ns:List Int,ds=[.jR ns]/\ns.length<=63/\∀M',q (.bl true) M'
def A8(K:fI):Sp:=λvs H Q _=>∃(a:Addr) (ns:List Int),vs=[.ref a]/\gC K H a (ns.map V.int)/\ns.length<=63/\∀H',Q (.bl true) H'
def Q9{P:Program}{w:World}{K:fI}{mg:Str->Option Value}{base:Heap}{k:Nat}{f:Addr}{fd:FuncData}{x:Str}(F:av P w K mg base (bY P w) k f fd [x] (cK K Qp)):av P w K mg base VR k f fd [x] (A8 K):=by
 have sp:∀vs H Q E,A8 K vs H Q E->cK K Qp vs H Q E0:=by rintro vs H Q E ⟨a,ns,rfl,hS,hl,hQ⟩;refine⟨H,[],[.jR ns],[],λd _=>d= .bl true,λ_ _ _=>False,⟨.refl _,rfl,List.nodup_nil,λk a m h=>by simp at h⟩,⟨_,_,rfl,⟨a,rfl,hS⟩,rfl⟩,⟨ns,rfl,hl,λ_=>rfl⟩,fun v H' ⟨d,G',L',M',_,_,n,e⟩=>?_,λ_ _ _ _ _ _ _ h=>h.elim⟩;subst e;rw[show v=V.bl true from n];exact hQ H'
 refine⟨λvs H Q E h=>F.len vs H Q E0 (sp vs H Q E h),λA outer s H args us vs Q E hr he hb hv h=>codeAny_mono (F.run A outer s H args us vs Q E0 hr he hb hv (sp vs H Q E h)) λr s' hq=>?_⟩;cases r with
 | error e=>
  have⟨_,_,_,_,_,_,_,_,hE⟩:=hq;exact hE.elim
 | ok fl=>cases fl <;> exact hq
def P1(c:DT)(tb:DS):DS:=λDn ρ M=>∃W:Nat->En->Ms->Prop,(∃m,W m ρ M)/\∀m ρ M,W m ρ M->
 c ρ M (λb M1=>(b=true->∃N:En->Ms->Prop,(∀ρ' M',N ρ' M'->∃m',m' < m/\W m' ρ' M')/\tb {Dn with nx:=N,ct:=N,bk:=Dn.nx} ρ M1)/\(b=false->Dn.nx ρ M1)) Dn.x
def Y'(i j:Nat)(t:DA):DS:=λDn ρ M=>t ρ M (λds M1=>match ds with
 | [a,b]=>Dn.nx ((ρ.set i (some a)).set j (some b)) M1
 | _=>False) Dn.x
section
variable{X:Cx}{R:St->XK}{c a b:Expr}{body:List Stmt}{tc:DT}{tb:DS}{pos:Pos}
def nP(hc:JT X R c tc)(hb:B2 X R body tb)(hp:PassesOwn (model X.prog X.w) X.A X.env X.xe:=by first| exact PassesOwn.never| exact PassesOwn.leaving):JS X R (.While c body [] pos) (P1 tc tb):=.of (IZ hp hc hb) λσ H G L ρ M Dn rl n h hx=>by
 have⟨W,⟨m0,w0⟩,turn⟩:=h;refine⟨λm σ' H'=>fc X.K G L H (W m) σ' H',⟨m0,ρ,G,L,M,.refl _ _ _,rl,n,w0⟩,λm σ' H' xz=>?_⟩;have⟨ρ',G',L',M',e',r',n',w'⟩:=xz;refine⟨G',L',ρ',M',_,_,r',n',turn m ρ' M' w',hx.on e',λv H1 xz=>?_⟩;have⟨G1,L1,M1,e1,r1,h1⟩:=xz;cases v with
 | true=>
  have⟨N,hN,hb⟩:=h1.1 rfl;refine Fx ⟨fc X.K G L H N,fun σ2 H2 ⟨ρ2,G2,L2,M2,e2,r2,n2,h2⟩=>?_,?_⟩
  ·have⟨m',hm,w2⟩:=hN ρ2 M2 h2;exact⟨m',hm,ρ2,G2,L2,M2,e2,r2,n2,w2⟩
  ·have Th:=e'.trans e1;exact⟨G1,L1,ρ',M1,_,r1,n'.mono e1,hb,hx.on Th,⟨λ_ _ f=>fc.back Th f,λ_ _ f=>Fin.back Th f,λ_ _ f=>fc.back Th f,λ_ _ f=>fc.back Th f⟩⟩
 | false=>exact Hj ⟨ρ',G1,L1,M1,e'.trans e1,r1,n'.mono e1,h1.2 rfl⟩
def Kf{i j:Nat}{x y:Str}{t:DA}{px py pt:Pos}{kt k2 Ri}(hN:X.N.Nodup)(hi:X.N[i]? =some x)(hj:X.N[j]? =some y)(ha:JA X R [a,b] t)(XD:i≠j:=by decide)
  (hx:X.env.scope.names.lookup x=some .local:=by rfl) (hy:X.env.scope.names.lookup y=some .local:=by rfl)
  (hw:swappedStores [.Tuple [.Name x px,.Name y py] kt pt] (.Tuple [a,b] k2 Ri) X.env=pure (some [x,y]):=by rfl) (hc:X.calm=true:=by rfl)
  (hs:swapsWithSole [.Tuple [.Name x px,.Name y py] kt pt] (.Tuple [a,b] k2 Ri) pos.line X.env=pure false:=by rfl):
  JS X R (.Assign [.Tuple [.Name x px,.Name y py] kt pt] (.Tuple [a,b] k2 Ri) pos) (Y' i j t):=.of (O2 hc hN hi hj XD hx hy ha hw hs) λσ H G L ρ M Dn rl n h hx=>by
 refine⟨G,L,ρ,M,_,_,rl,n,h,hx,λvs H1 xz=>?_⟩;have⟨ds,G1,L1,M1,e1,r1,n1,h1⟩:=xz
 (try dsimp only at h1)
 split at h1
 ·have⟨v,u,rfl,m1,m2⟩:=gQ n1;exact⟨v,u,rfl,_,G1,L1,M1,e1,r1,((n.mono e1).set i m1).set j m2,h1⟩
 ·exact h1.elim
end
section
variable{X:Cx}{R:St->XK}{e e2 o:Expr}{es:List Expr}{t:DA}{to ta tb:DE}{a b:Expr}{p pos apos cZ:Pos}
def Fd(hm:X.mg "abs"=none)(ha:JA X R [e] t)(he:starEach [e] X.env=(false,eval e X.env)::starEach [] X.env:=by rfl)(gy:(backTo pos (starEach [] X.env)).any (·.1)=false:=by rfl)(hg:Gl X "abs":=by rfl):JE X R (.Call (.Name "abs" p) [e] [] pos) (CQ PV t):=
 ij Ia XN hm Fq ha hg @_ @_ he gy
def Ts(hm:X.mg "min"=none)(ha:JA X R [e,e2] t)(hc:X.calm=true:=by rfl)(he:starEach [e,e2] X.env=(false,eval e X.env)::starEach [e2] X.env:=by rfl)(gy:(backTo pos (starEach [e2] X.env)).any (·.1)=false:=by rfl)(hg:Gl X "min":=by rfl):JE X R (.Call (.Name "min" p) [e,e2] [] pos) (CQ HY t):=
 ij (Fw hc) ZN hm G_ ha hg @_ @_ he gy
def R1(hm:X.mg "any"=none)(ha:JA X R [e] t)(hc:X.calm=true:=by rfl)(he:starEach [e] X.env=(false,eval e X.env)::starEach [] X.env:=by rfl)(gy:(backTo pos (starEach [] X.env)).any (·.1)=false:=by rfl)(hg:Gl X "any":=by rfl):JE X R (.Call (.Name "any" p) [e] [] pos) (CQ PZ t):=
 ij (Kd hc) Yu hm FO ha hg @_ @_ he gy
def Od(hm:X.mg "int"=none)(ha:JA X R [e] t)(he:starEach [e] X.env=(false,eval e X.env)::starEach [] X.env:=by rfl)(gy:(backTo pos (starEach [] X.env)).any (·.1)=false:=by rfl)(hg:Gl X "int":=by rfl):JE X R (.Call (.Name "int" p) [e] [] pos) (CQ zB t):=
 ub (GR.or yg) ZM hm vp ha hg @_ @_ he gy
end
def oZ{te:DE}{cs:En}{f:Dt->Dt}{M:Ms}{k:List Dt->Ms->Prop}:∀(xs Η:List Dt),(∀x∈xs,∀q:DQ,q (f x) M->te (some x::cs) M q lT)->k (Η++xs.map f) M->A_ te cs xs Η M k
 | [],Η,_,h=>by rw[acJ,aa1]at h;exact h
 | x::xs,Η,ht,h=>ht x List.mem_cons_self _ (oZ xs (Η++[f x]) (λy hy=>ht y (List.mem_cons_of_mem _ hy)) (by simpa using h))
def Ι{d y:Dt}{xs:List Dt}{i:Int}{M:Ms}{q:DQ}(hs:jq M d=some xs)(h:nJ xs i=some y)(k:q y M):fm d (.int i) M q:=by
 cases d with
 | str z=>cases hs
 | _=>
  unfold fm;simp only[hs,h];exact k
def az{d:Dt}{xs:List Dt}{M:Ms}{q:DQ}(hs:jq M d=some xs)(k:q (.int xs.length) M):gw [d] M q:=by
 cases d with
 | str z=>cases hs
 | _=>
  unfold gw;simp only[hs];exact k
def bu{α:Type}{x:α}{xs:List α}:nJ (x::xs) 0=some x:=Ο (j:=0) rfl
def Hm(bs:List Bool):(List.range bs.length).all (λi=>bs.getD i false)=bs.all id:=by
 induction bs with
 | nil=>rfl
 | cons b bs ih=>
  rw[aay,abR,ab1,List.all_map,ab1,<-ih];rfl
def TF(K:fI):List V->Hp->VK->Prop:=λxs H Q=>∃(p:Addr) (bs:List Bool),xs=[.ref p]/\gC K H p (bs.map V.bl)/\Q (.bl (bs.all id)) H
section
variable{X:Cx}
def Jm (hc : X.calm = true) : dI X (.builtin "all") (TF X.K) :=by
  intro ζ s σ H xs us Q I r h;obtain⟨p,bs,rfl,hq,q⟩ :=h;obtain⟨u,rfl,r1⟩ :=lu r;cases r1;obtain⟨its,rv,pl,hz⟩ :=I.list hq;have Qj :=xb rv;subst Qj;refine call_all_walk (wpAny_pyIter_list pl.isList ?_);have lp : p < s.heap.objs.size :=by obtain⟨o,e,_⟩ :=pl.isList;exact aar e
  refine⟨s.heap.objs.size,_,_,_,_,_,λi =>bs.getD i false,rfl,Walks.list (show X.A.in1.handled = none from I.ok.hd hc) s.heap.objs.size p (aaY lp) (bs.map Value.bool).toArray,⟨⟨_,aaS _ rfl,rfl,rfl⟩,pl.isList.at λo e =>aak _ e⟩,zo,λh' tk hk =>?_⟩;refine⟨.bl (bs.all id),H,I.kept λb o e =>hk b o (λz =>by have : b = s.heap.objs.size :=(by simpa using z);exact Nat.lt_irrefl _ (this ▸ Heap.lt_size e)) (Heap.get?_push_of_some _ e),?_,q⟩;rw[aaI,aac,Hm];rfl
end
def Pp:List Dt->Ms->DQ->Prop
 | [.lst xs],M,q=>∃bs:List Bool,xs=bs.map Dt.bl/\q (.bl (bs.all id)) M
 | _,_,_=>False
def YO{K:fI}:EA K (TF K) Pp:=by
 intro G0 L0 H0 G L M H vs ds q e r n h;unfold Pp at h;split at h
 ·rename_i xs;have⟨bs,rfl,h⟩:=h;have⟨v,rfl,n1⟩:=bw n;have⟨a,ws,rfl,e1,m⟩:=n1;exact⟨a,bs,rfl,by rw[<-nF m];exact .of (r.sub _ _ e1),bG e r h⟩
 ·exact h.elim
def UE(i j:Nat)(t:DE):DS:=λDn ρ M=>t ρ M (λd M1=>match d with
 | .tup [a,b]=>Dn.nx ((ρ.set i (some a)).set j (some b)) M1
 | _=>False) Dn.x
section
variable{X:Cx}{R:St->XK}{e o:Expr}{es:List Expr}{t:DA}{to te:DE}{p pos apos cZ:Pos}
def GG:bootBuiltins "all"=some (.builtin "all"):=by decide+kernel
def OI(hm:X.mg "all"=none)(ha:JA X R [e] t)(hc:X.calm=true:=by rfl)(he:starEach [e] X.env=(false,eval e X.env)::starEach [] X.env:=by rfl)(gy:(backTo pos (starEach [] X.env)).any (·.1)=false:=by rfl)(hg:Gl X "all":=by rfl):JE X R (.Call (.Name "all" p) [e] [] pos) (CQ Pp t):=
 ij (Jm hc) YO hm GG ha hg @_ @_ he gy
variable{i j k:Nat}{tg:Expr}
def MR(he:JE X R e te)(hg:PG X tg (J1 X.K 2 (ot (iU i) (ot (iU j) IF))))(hs:swapsWithSole [tg] e pos.line X.env=pure false:=by rfl)(hw:swappedStores [tg] e X.env=pure none:=by rfl)
  (h1:(assignEach [tg] X.env).map (·.2)=[assign tg X.env]:=by rfl):JS X R (.Assign [tg] e pos) (UE i j te):=.of (JH he hg hs hw h1) λσ H G L ρ M Dn rl n h hx=>by
 refine⟨G,L,ρ,M,_,_,rl,n,h,hx,λv H1 xz=>?_⟩;have⟨d1,G1,L1,M1,e1,r1,n1,h1⟩:=xz
 (try dsimp only at h1)
 split at h1
 ·rename_i a b;have⟨p,vs,rfl,e,m⟩:=n1;have⟨v1,v2,rfl,m1,m2⟩:=gQ m;exact⟨p,_,rfl,.inl (.inl (r1.sub _ _ e)),rfl,v1,_,rfl,v2,_,rfl,rfl,_,G1,L1,M1,e1,r1,((n.mono e1).set i m1).set j m2,h1⟩
 ·exact h1.elim
end
mutual
def Dt.under(n:Nat):Dt->Prop
 | .bF=>True
 | .bl _=>True
 | .int _=>True
 | .str _=>True
 | .tup ds=>Dt.bM n ds
 | .lst ds=>Dt.bM n ds
 | .obj _ _ ds=>Dt.bM n ds
 | .loc k=>k < n
 | .ref _=>True
 | .ty _=>True
 | .jR _=>True
 | .kt ds=>Dt.bM n ds
 | .exc _ _ ds=>Dt.bM n ds
 | .Ux _ _ _ _ ds=>Dt.bM n ds
def Dt.bM(n:Nat):List Dt->Prop
 | []=>True
 | d::ds=>Dt.under n d/\Dt.bM n ds
end
def MO.under(n:Nat):MO->Prop
 | .lst ds=>Dt.bM n ds
 | .ins _ _ ds=>Dt.bM n ds
 | .eW _ ds=>Dt.bM n ds
 | .raw _=>True
mutual
inductive Hu(n:Nat)(E:Ms):Dt->Dt->Prop
 | old {d:Dt} (h:d.under n):Hu n E d d
 | tup {ds es:List Dt} (h:ix n E ds es):Hu n E (.tup ds) (.tup es)
 | lst {ds es:List Dt} (h:ix n E ds es):Hu n E (.lst ds) (.lst es)
 | obj {C:Addr} {ns:List Str} {ds es:List Dt} (h:ix n E ds es):Hu n E (.obj C ns ds) (.obj C ns es)
 | BR {k:Nat} {ds es:List Dt} (hk:n<=k) (e:E[k - n]? =some (.lst ds)) (h:ix n E ds es):Hu n E (.loc k) (.lst es)
 | XO {k:Nat} {C:Addr} {ns:List Str} {ds es:List Dt} (hk:n<=k) (e:E[k - n]? =some (.ins C ns ds)) (h:ix n E ds es):Hu n E (.loc k) (.obj C ns es)
inductive ix(n:Nat)(E:Ms):List Dt->List Dt->Prop
 | nil:ix n E [] []
 | cons {d e:Dt} {ds es:List Dt} (h:Hu n E d e) (t:ix n E ds es):ix n E (d::ds) (e::es)
end
def ix.length{n:Nat}{E:Ms}:∀{ds es:List Dt},ix n E ds es->ds.length=es.length
 | [],es,h=>by cases h;rfl
 | d::ds,es,h=>by
  cases h with
  | cons h t=>rw[aay,aay,ix.length t]
def ix.old{n:Nat}{E:Ms}:∀{ds:List Dt},Dt.bM n ds->ix n E ds ds
 | [],_=>.nil
 | _::_,h=>.cons (.old h.1) (ix.old h.2)
section
variable{K:fI}{G G':Hp}{L0 t:List Addr}{n:Nat}
mutual
def vY(hn:L0.length=n)(g:ef G G'):∀(d:Dt) (v:V),d.under n->Den K G (L0++t) d v->Den K G' L0 d v
 | .bF,_,_,h=>h
 | .bl _,_,_,h=>h
 | .int _,_,_,h=>h
 | .str _,_,_,h=>h
 | .tup ds,_,u,⟨a,vs,e,h1,h2⟩=>⟨a,vs,e,g _ _ h1,bW hn g ds vs u h2⟩
 | .lst ds,_,u,⟨a,vs,e,h1,h2⟩=>⟨a,vs,e,g _ _ h1,bW hn g ds vs u h2⟩
 | .obj C ns ds,_,u,⟨a,dx,vs,e,h1,hl,h2⟩=>⟨a,dx,vs,e,g _ _ h1,hl,bW hn g ds vs u h2⟩
 | .loc k,_,u,⟨a,e,h1⟩=>⟨a,e,by
   have u:k < n:=u
   rwa[aat (by rw[hn];exact u)]at h1⟩
 | .ref _,_,_,h=>h
 | .ty _,_,_,h=>h
 | .jR _,_,_,⟨a,e,h1⟩=>⟨a,e,g.seq h1⟩
 | .kt ds,_,u,⟨a,vs,e,h1,h2⟩=>⟨a,vs,e,g.SN h1,bW hn g ds vs u h2⟩
 | .exc _ _ ds,_,u,⟨a,od,vs,e,h1,h2,h3,h4⟩=>⟨a,od,vs,e,g _ _ h1,h2.imp (λz=>z) (λ⟨dx,z1,z2⟩=>⟨dx,z1,g _ _ z2⟩),h3,bW hn g ds vs u h4⟩
 | .Ux _ _ _ _ ds,_,u,⟨vs,e,h2,h3,h4⟩=>⟨vs,e,h2.imp (λz=>z) (λ⟨dx,z1,z2⟩=>⟨dx,z1,g _ _ z2⟩),h3,bW hn g ds vs u h4⟩
def bW(hn:L0.length=n)(g:ef G G'):∀(ds:List Dt) (vs:List V),Dt.bM n ds->Ψ K G (L0++t) ds vs->Ψ K G' L0 ds vs
 | [],_,_,h=>h
 | d::ds,_,u,⟨v,r,e,h1,h2⟩=>⟨v,r,e,vY hn g d v u.1 h1,bW hn g ds r u.2 h2⟩
end
def Gi{H:Hp}{a:Addr}(hn:L0.length=n)(g:ef G G'){m:MO}(u:m.under n)(h:Hx K G (L0++t) H a m):Hx K G' L0 H a m:=by
 cases m with
 | lst ds=>have⟨vs,e,h⟩:=h;exact⟨vs,e,bW hn g _ _ u h⟩
 | ins C ns ds=>have⟨dx,vs,e,hl,h⟩:=h;exact⟨dx,vs,e,hl,bW hn g _ _ u h⟩
 | eW ks ds=>have⟨vs,e,hl,h⟩:=h;exact⟨vs,e,hl,bW hn g _ _ u h⟩
 | raw u=>exact h
end
open Classical in
noncomputable def qN(G H:Hp)(t:List Addr):Hp:=λb=>if b∈t then H b else G b
def Ec{G H:Hp}{t:List Addr}{b:Addr}(h:b∈t):qN G H t b=H b:=by unfold qN;rw[if_pos h]
def om{G H:Hp}{t:List Addr}{b:Addr}(h:b∉t):qN G H t b=G b:=by unfold qN;rw[if_neg h]
section
variable{K:fI}{G:Hp}{L0 t:List Addr}{M0 E:Ms}{H:Hp}
def i7(r:Rl K G (L0++t) (M0++E) H):ef G (qN G H t):=λb u e=>by
 by_cases hb:b∈t
 ·have⟨_,_,_,_,g,_⟩:=r.xr (a:=b) (aaE _ hb);rw[g]at e;cases e
 ·rw[om hb];exact e
def Iy(r:Rl K G (L0++t) (M0++E) H)(hn:L0.length=M0.length){k:Nat}{a:Addr}{m:MO}(hk:M0.length<=k)(e:(L0++t)[k]? =some a)(em:E[k - M0.length]? =some m):qN G H t a=H a/\Hx K G (L0++t) H a m:=by
 have e2:(M0++E)[k]? =some m:=by rw[aan hk];exact em
 have⟨_,q⟩:=r.f_ k a m e e2;rw[aan (by rw[hn];exact hk)]at e;exact⟨Ec (aam e),q⟩
def MG(r:Rl K G (L0++t) (M0++E) H)(hn:L0.length=M0.length){d d':Dt}(f:Hu M0.length E d d'):∀v,Den K G (L0++t) d v->Den K (qN G H t) L0 d' v:=by
 refine Hu.rec (motive_1:=λd d' _=>∀v,Den K G (L0++t) d v->Den K (qN G H t) L0 d' v) (motive_2:=λds es _=>∀vs,Ψ K G (L0++t) ds vs->Ψ K (qN G H t) L0 es vs) ?_ ?_ ?_ ?_ ?_ ?_ ?_ ?_ f
 ·exactλ{d} u v h=>vY hn (i7 r) d v u h
 ·exactλ{ds es} f ih v ⟨a,vs,e,h1,h2⟩=>⟨a,vs,e,i7 r _ _ h1,ih vs h2⟩
 ·exactλ{ds es} f ih v ⟨a,vs,e,h1,h2⟩=>⟨a,vs,e,i7 r _ _ h1,ih vs h2⟩
 ·exactλ{C ns ds es} f ih v ⟨a,dx,vs,e,h1,hl,h2⟩=>⟨a,dx,vs,e,i7 r _ _ h1,hl.trans f.length,ih vs h2⟩
 ·intro k ds es hk em f ih v ⟨a,e,h1⟩;have⟨o,vs,e1,h2⟩:=Iy r hn hk h1 em;exact⟨a,vs,e,o.trans e1,ih vs h2⟩
 ·intro k C ns ds es hk em f ih v ⟨a,e,h1⟩;have⟨o,dx,vs,e1,hl,h2⟩:=Iy r hn hk h1 em;exact⟨a,dx,vs,e,o.trans e1,hl.trans f.length,ih vs h2⟩
 ·exactλvs h=>h
 ·exactλ{d e ds es} f t ih1 ih2 vs ⟨v,r,e,h1,h2⟩=>⟨v,r,e,ih1 v h1,ih2 r h2⟩
end
def Yd(n:Nat)(q:DQ):DQ:=λd M=>∃M' E d',M=M'++E/\M'.length=n/\(∀m∈M',MO.under n m)/\Hu n E d d'/\q d' M'
def Fin.yS{K:fI}{G0:Hp}{L0:List Addr}{M0:Ms}{H0:Hp}{q:DQ}{v:V}{H:Hp}(r0:Rl K G0 L0 M0 H0)(f:Fin K G0 L0 H0 (Yd M0.length q) v H):Fin K G0 L0 H0 q v H:=by
 have⟨d,G,L,M,ex,r,dn,M',E,d',rfl,hl,hu,fz,hq⟩:=f;have⟨t,rfl⟩:=ex.l;have hn:L0.length=M'.length:=by rw[hl];exact r0.len
 have dis:∀b,b∈L0->b∉t:=λb h1 h2=>(acF.mp r.nd).2.2 b h1 b h2 rfl;have sm:=i7 r;refine⟨d',qN G H t,L0,M',⟨ex.g.trans sm,.refl _,λb h1 h2=>?_,ex.out,λb h=>.inl h,ex.Cg⟩,⟨λb u e=>?_,hn,(acF.mp r.nd).1,λk a m h1 h2=>?_⟩,MG r hn (hl▸fz) v dn,hq⟩
 ·have hb:b∉t:=λz=>(ex.new b (aaE _ z)).elim (λy=>dis b y z) h2;rw[om hb];exact ex.fr b h1 h2
 ·by_cases hb:b∈t
  ·rw[Ec hb]at e;exact e
  ·rw[om hb]at e;exact r.sub b u e
 ·have k1:k < L0.length:=(aaf.mp h1).1;have e1:(L0++t)[k]? =some a:=by rw[aat k1];exact h1
  have e2:(M'++E)[k]? =some m:=by rw[aat (by rw[<-hn];exact k1)];exact h2
  have⟨g,q⟩:=r.f_ k a m e1 e2;exact⟨by rw[om (dis a (aam h1))];exact g,Gi (n:=M'.length) hn sm (by rw[hl];exact hu m (aam h2)) q⟩
section
variable{X:Cx}{R:St->XK}{e:Expr}{t:DE}
def fQ{st:Stmt}:JS X R st (λ_ _ _=>False):=λ_ _ _ _ _ _ ⟨_,_,_,_,_,_,_,h,_,_⟩=>h.elim
end
def JB(C:Addr)(m:Str)(sp:Sp)(oy:List V)(R:St->XK)(ta:TE)(t:TA):TE:=λσ H Q=>ta σ H λx H1=>∃a dx fs,x= .ref a/\H1 a=some (.ins C dx fs)/\fs.lookup m=none/\
 t σ H1 λvs H2=>sp (x::(vs++oy)) H2 Q (R σ)
def OW(C:Addr)(sp:Sp)(oy:List V)(R:St->XK)(t:TA):TE:=λσ H Q=>t σ H λvs H1=>∀x dx,H1 x=none->H1 dx=none->dx≠x->
 sp (.ref x::(vs++oy)) (upd (upd H1 dx (.own x)) x (.ins C dx [])) (λv H2=>v= .bF/\Q (.ref x) H2) (R σ)
section
variable{X:Cx}{CX:Bf}{k:Nat}{f C:Addr}{fd:FuncData}{ps:List Str}{sp:Sp}{oy:List V}{ds:List Value}{R:St->XK}{x m:Str}{p pos apos:Pos}{e o:Expr}{es:List Expr}{ta:TE}{t:TA}
def Kh{pl:Sem Bool}(he:PE X o ta)(c:Eg X.K C)(hm:NS X.K C m f)(F:av X.prog X.w X.K X.mg X.base CX k f fd ps sp)(hr:bT k X.A)(hb:iq X.K fd ps ds)(hd:aC oy ds)(hx:df CX X R)(ha:PA X (e::es) t)
  (Rz:starEach (e::es) X.env=(false,eval e X.env)::starEach es X.env:=by rfl) (gy:(backTo pos (starEach es X.env)).any (·.1)=false:=by rfl)
  (ht:eval (.Call (.Attribute o m apos) (e::es) [] pos) X.env=(do
   let ov<-eval o X.env
   standAt apos.atName
   let (f,first)<-holding [ov] (getMethod ov m pl)
   callWith pos f first (backTo pos (starEach (e::es) X.env)) (backToKw pos (keywordEach [] X.env))):=by rfl):
  PE X (.Call (.Attribute o m apos) (e::es) [] pos) (JB C m sp oy R ta t):=by
 intro ζ s σ H Q I h;refine PySem.W.methodCall_KW (pl:=pl) (bH (he ζ s σ H _ I h) λu s1 xz=>?_) ht;have⟨x,H1,I1,rx,a,dx,fs,ex,ea,l,q⟩:=xz;subst ex;obtain rfl:u=Value.ref a:=rx;refine sM I1 ea c hm l ?_;refine PySem.W.callWith_K (first:=[.ref a]) (h₀:=X.base) I.ok.mod.TZ hm.kp (bH (ha pos ζ s1 σ H1 _ I1 q) fun us s2 ⟨vs,H2,I2,r,q2⟩=>⟨I2.qy,?_⟩) Rz gy;exact yy (us:=.ref a::us) (vs:=.ref a::vs) F hr hb hd hx I2 (.cons rfl r) q2
def Gj{pl:Sem Bool}(he:PE X o ta)(c:Eg X.K C)(hm:NS X.K C m f)(F:av X.prog X.w X.K X.mg X.base CX k f fd ps sp)(hr:bT k X.A)(hb:iq X.K fd ps ds)(hd:aC oy ds)(hx:df CX X R)
  (ht:eval (.Call (.Attribute o m apos) [] [] pos) X.env=(do
   let ov<-eval o X.env
   standAt apos.atName
   let (f,first)<-holding [ov] (getMethod ov m pl)
   callWith pos f first (backTo pos (starEach [] X.env)) (backToKw pos (keywordEach [] X.env))):=by rfl):
  PE X (.Call (.Attribute o m apos) [] [] pos) (JB C m sp oy R ta US):=by
 intro ζ s σ H Q I h;refine PySem.W.methodCall_KW (pl:=pl) (bH (he ζ s σ H _ I h) λu s1 xz=>?_) ht;have⟨x,H1,I1,rx,a,dx,fs,ex,ea,l,q⟩:=xz;subst ex;obtain rfl:u=Value.ref a:=rx;refine sM I1 ea c hm l ?_;exact PySem.W.callWith_K0 (first:=[.ref a]) I1.qy hm.kp (yy (us:=[.ref a]) (vs:=[.ref a]) F hr hb hd hx I1 (.cons rfl .nil) q)
def GF{ζ:List (Addr×Obj)}{σ:St}{H:Hp}{s:Shared}{Q:VK}{us:List Value}{vs:List V}(M:Mk X.K C f)(F:av X.prog X.w X.K X.mg X.base CX k f fd ps sp)(hr:bT (k+1) X.A)(hb:iq X.K fd ps ds)(hd:aC oy ds)
  (hx:df CX X R) (I:Inv X ζ σ H s) (r:aC vs us)
  (h:∀x dx,H x=none->H dx=none->dx≠x->sp (.ref x::(vs++oy)) (upd (upd H dx (.own x)) x (.ins C dx [])) (λv H2=>v= .bF/\Q (.ref x) H2) (R σ)):
  wpAny (model X.prog X.w) X.A (call (.ref C) us) (EP X ζ σ Q) X.xe s:=by
 have hq:=h (s.heap.objs.size+1) s.heap.objs.size (I.bb.fresh (Nat.le_succ _)) (I.bb.fresh (aai _)) (aaY (abv _));have I2:=Inv.made (C:=C) I;have r2:aC (V.ref (s.heap.objs.size+1)::(vs++oy)) (Value.ref (s.heap.objs.size+1)::(us++ds)):=.cons rfl (r.append hd);have hl:(Value.ref (s.heap.objs.size+1)::us++ds).length=ps.length:=by have e:=r2.length;rw[F.len _ _ _ _ hq]at e;exact e.symm
 refine wpAny_call (J7 (f:=f) I.qy M.makes M.init (abw.mp M.fn) (codeAny_mono (F.run _ X.stack _ _ ⟨Value.ref (s.heap.objs.size+1)::us,[]⟩ (Value.ref (s.heap.objs.size+1)::(us++ds)) _ _ (R σ) (hr.make C us [])
  (I2.S'.make C us []) (hb _ (Value.ref (s.heap.objs.size+1)::us) I2.qy hl) r2 hq) λr s' qp=>?_))
 cases r with
 | error e=>exact hx ζ σ _ _ e s' I2 qp
 | ok fl=>
  cases fl with
  | ret u=>
   have⟨v,H',I3,rv,ev,q3⟩:=I2.after qp;subst ev;exact⟨rv,⟨V.ref (s.heap.objs.size+1),H',I3,rfl,q3⟩⟩
  | next=>exact False.elim qp
  | brk=>exact False.elim qp
  | cont=>exact False.elim qp
def K3(M:Mk X.K C f)(F:av X.prog X.w X.K X.mg X.base CX k f fd ps sp)(hr:bT (k+1) X.A)(hg:Gl X x)(hm:X.mg x=some (.ref C))(hb:iq X.K fd ps ds)(hd:aC oy ds)(hx:df CX X R)
  (ha:PA X (e::es) t) (uR:(x==("__debug__":Str))=false:=by decide) (he:starEach (e::es) X.env=(false,eval e X.env)::starEach es X.env:=by rfl) (gy:(backTo pos (starEach es X.env)).any (·.1)=false:=by rfl):
  PE X (.Call (.Name x p) (e::es) [] pos) (OW C sp oy R t):=by
 intro ζ s σ H Q I h;refine wpAny_Call_Name_kw (rA I hg hm ?_ uR);refine PySem.W.callWith_K (h₀:=X.base) I.ok.mod.TZ M.kp (bH (ha pos ζ s σ H _ I h) fun us s1 ⟨vs,H1,I1,r,q⟩=>⟨I1.qy,?_⟩) he gy;exact GF M F hr hb hd hx I1 r q
end
def Q5(C:Addr)(M:Ms)(d:Dt)(ns:List Str)(ds:List Dt):Prop:=d= .obj C ns ds\/∃k,d= .loc k/\M[k]? =some (.ins C ns ds)
section
variable{K:fI}{G:Hp}{L:List Addr}{M:Ms}{H:Hp}{C:Addr}{d:Dt}{v:V}{ns:List Str}{ds:List Dt}
def HZ(r:Rl K G L M H)(n:Den K G L d v)(o:Q5 C M d ns ds):∃a dx vs,v= .ref a/\H a=some (.ins C dx (ns.zip vs))/\ns.length=ds.length/\Ψ K G L ds vs:=by
 rcases o with rfl| ⟨k,rfl,hm⟩
 ·have⟨a,dx,vs,e,h1,hl,h2⟩:=n;exact⟨a,dx,vs,e,r.sub _ _ h1,hl,h2⟩
 ·have⟨a,e,h1⟩:=n;have⟨_,dx,vs,h2,hl,h3⟩:=r.f_ k a _ h1 hm;exact⟨a,dx,vs,e,h2,hl,h3⟩
def AD{f:Str}:∀{ns:List Str} {ds:List Dt} {vs:List V} {d:Dt},Ψ K G L ds vs->(ns.zip ds).lookup f=some d->∃v,(ns.zip vs).lookup f=some v/\Den K G L d v
 | [],_,_,_,_,h=>by simp at h
 | _::_,[],_,_,_,h=>by simp at h
 | g::ns,d::ds,_,d',⟨v,r,rfl,h1,h2⟩,h=>by
  rw[abA,abo]at h;rw[abA,abo];cases q:f==g with
  | true=>rw[q]at h;cases h;exact⟨v,rfl,h1⟩
  | false=>rw[q]at h;exact AD h2 h
def rQ{f:Str}:∀{ns:List Str} {ds:List Dt} {vs:List V},Ψ K G L ds vs->(ns.zip ds).lookup f=none->(ns.zip vs).lookup f=none
 | [],_,_,_,_=>by simp
 | _::_,[],_,h,_=>by have h:_=_:=h;subst h;simp
 | g::ns,d::ds,_,⟨v,r,rfl,h1,h2⟩,h=>by
  rw[abA,abo]at h;rw[abA,abo];cases q:f==g with
  | true=>rw[q]at h;cases h
  | false=>rw[q]at h;exact rQ h2 h
def zt{f:Str}{v:V}:∀{ns:List Str} {vs:List V},ns.length=vs.length->f∉ns->jY f v (ns.zip vs)=(ns++[f]).zip (vs++[v])
 | [],[],_,_=>rfl
 | g::ns,x::vs,hl,h=>by have hg:¬g=f:=λz=>h (by rw[z];exact aae);show(if g=f then (g,v)::ns.zip vs else (g,x)::jY f v (ns.zip vs))=(g,x)::(ns++[f]).zip (vs++[v]);rw[if_neg hg,zt (by simpa using hl) λz=>h (List.mem_cons_of_mem _ z)]
 | [],_::_,hl,_=>by simp at hl
 | _::_,[],hl,_=>by simp at hl
end
def ZH(C:Addr)(f:Str)(t:DE):DE:=λρ M q x=>t ρ M (λd M1=>∃ns ds v,Q5 C M1 d ns ds/\(ns.zip ds).lookup f=some v/\q v M1) x
def Ob(C:Addr)(m:Str)(T:DF)(to:DE)(ta:DA):DE:=λρ M q x=>to ρ M (λd M1=>(∃ns ds,Q5 C M1 d ns ds/\(ns.zip ds).lookup m=none)/\ta ρ M1 (λds M2=>T (d::ds) M2 q (λC fs M'=>x ρ C fs M')) x) x
def TX(C:Addr)(T:DF)(ta:DA):DE:=λρ M q x=>ta ρ M (λds M1=>T (.loc M1.length::ds) (M1++[.ins C [] []]) (λd M2=>d= .bF/\q (.loc M1.length) M2) (λC fs M'=>x ρ C fs M')) x
def OL(C:Addr)(f:Str)(to tv:DE):DS:=λDn ρ M=>tv ρ M (λy M1=>to ρ M1 (λd M2=>∃k ns ds,d= .loc k/\M2[k]? =some (.ins C ns ds)/\f∉ns/\ns.length < 1000/\Dn.nx ρ (M2.set k (.ins C (ns++[f]) (ds++[y])))) Dn.x) Dn.x
structure da(P:Program)(w:World)(K:fI)(mg:Str->Option Value)(base:Heap)(k:Nat)(C:Addr)(m:Str)(ps:List Str)(T:DF)(f:Addr)(fd:FuncData):Prop where
 ok:av P w K mg base (bY P w) k f fd ps (cK K T)
 b:iq K fd ps []
 c:Eg K C
 m:NS K C m f
structure Qt(P:Program)(w:World)(K:fI)(mg:Str->Option Value)(base:Heap)(k:Nat)(x:Str)(C:Addr)(ps:List Str)(T:DF)(f:Addr)(fd:FuncData):Prop where
 ok:av P w K mg base (bY P w) k f fd ps (cK K T)
 b:iq K fd ps []
 k:Mk K C f
 m:mg x=some (.ref C)
section
variable{X:Cx}{R:St->XK}{C:Addr}{f m x:Str}{T:DF}{k k':Nat}{a:Addr}{fd:FuncData}{ps:List Str}{e o value:Expr}{es:List Expr}{pos pos' apos p:Pos}{to te tv:DE}{ta:DA}
def r8(c:Eg X.K C)(n:iH X.K C f)(he:JE X R e te)(hb:attributeBase e f X.env (eval e X.env)=eval e X.env:=by rfl):JE X R (.Attribute e f pos) (ZH C f te):=
 .of (Rb he hb) λσ H G L ρ M q x rl en h hx=>by refine⟨G,L,ρ,M,_,x,rl,en,h,hx,λv H1 xz=>?_⟩;have⟨d1,G1,L1,M1,e1,r1,n1,ns,ds,y,ob,hl,h1⟩:=xz;have⟨p,dx,vs,rfl,hp,_,dn⟩:=HZ r1 n1 ob;have⟨u,hu,du⟩:=AD dn hl;exact⟨p,C,dx,_,u,rfl,hp,c,n,hu,y,G1,L1,M1,e1,r1,du,h1⟩
def bX{pl:Sem Bool}(D:da X.prog X.w X.K X.mg X.base k C m ps T a fd)(hr:bT k' X.A)(hx:df (bY X.prog X.w) X R)(ho:JE X R o to)(ha:JA X R (e::es) ta)(hk:k<=k':=by decide)
  (Rz:starEach (e::es) X.env=(false,eval e X.env)::starEach es X.env:=by rfl) (gy:(backTo pos (starEach es X.env)).any (·.1)=false:=by rfl)
  (ht:eval (.Call (.Attribute o m apos) (e::es) [] pos) X.env=(do
   let ov<-eval o X.env
   standAt apos.atName
   let (f,first)<-holding [ov] (getMethod ov m pl)
   callWith pos f first (backTo pos (starEach (e::es) X.env)) (backToKw pos (keywordEach [] X.env))):=by rfl):
  JE X R (.Call (.Attribute o m apos) (e::es) [] pos) (Ob C m T to ta):=
 .of (Kh (pl:=pl) ho D.c D.m D.ok (hr.mono hk) D.b .nil hx ha Rz gy ht) λσ H G L ρ M q x rl en h hx=>by refine⟨G,L,ρ,M,_,x,rl,en,h,hx,λv H1 xz=>?_⟩;have⟨d1,G1,L1,M1,e1,r1,n1,⟨ns,ds,ob,hl⟩,h1⟩:=xz;have⟨p,dx,vs,rfl,hp,_,dn⟩:=HZ r1 n1 ob;refine⟨p,dx,_,rfl,hp,rQ dn hl,G1,L1,ρ,M1,_,x,r1,en.mono e1,h1,hx.on e1,λus H2 xz=>?_⟩;have⟨z7,G2,L2,M2,e2,r2,n2,h2⟩:=xz;show cK X.K T (V.ref p::(us++[])) H2 _ _;rw[aa1];have JM:=e1.trans e2;exact⟨G2,L2,d1::z7,M2,q,_,r2,⟨_,_,rfl,Den.mono e2.g e2.l _ _ n1,n2⟩,h2,λv H' f=>Fin.back JM f,λC fs M' G' L' H' od hq e' r' y=>hx σ ρ C fs M' G' L' H' od hq (JM.trans e') r' (en.mono (JM.trans e')) y⟩
def lM{pl:Sem Bool}(D:da X.prog X.w X.K X.mg X.base k C m ps T a fd)(hr:bT k' X.A)(hx:df (bY X.prog X.w) X R)(ho:JE X R o to)(hk:k<=k':=by decide)
  (ht:eval (.Call (.Attribute o m apos) [] [] pos) X.env=(do
   let ov<-eval o X.env
   standAt apos.atName
   let (f,first)<-holding [ov] (getMethod ov m pl)
   callWith pos f first (backTo pos (starEach [] X.env)) (backToKw pos (keywordEach [] X.env))):=by rfl):
  JE X R (.Call (.Attribute o m apos) [] [] pos) (Ob C m T to QH):=
 .of (Gj (pl:=pl) ho D.c D.m D.ok (hr.mono hk) D.b .nil hx ht) λσ H G L ρ M q x rl en h hx=>by refine⟨G,L,ρ,M,_,x,rl,en,h,hx,λv H1 xz=>?_⟩;have⟨d1,G1,L1,M1,e1,r1,n1,⟨ns,ds,ob,hl⟩,h1⟩:=xz;have⟨p,dx,vs,rfl,hp,_,dn⟩:=HZ r1 n1 ob;refine⟨p,dx,_,rfl,hp,rQ dn hl,?_⟩;show cK X.K T (V.ref p::([]++[])) H1 _ _;exact⟨G1,L1,[d1],M1,q,_,r1,⟨_,_,rfl,n1,rfl⟩,h1,λv H' f=>Fin.back e1 f,λC fs M' G' L' H' od hq e' r' y=>hx σ ρ C fs M' G' L' H' od hq (e1.trans e') r' (en.mono (e1.trans e')) y⟩
def P9(D:Qt X.prog X.w X.K X.mg X.base k x C ps T a fd)(hr:bT k' X.A)(hx:df (bY X.prog X.w) X R)(ha:JA X R (e::es) ta)(hk:k+1<=k':=by decide)(hg:Gl X x:=by rfl)(uR:(x==("__debug__":Str))=false:=by decide)
  (he:starEach (e::es) X.env=(false,eval e X.env)::starEach es X.env:=by rfl) (gy:(backTo pos (starEach es X.env)).any (·.1)=false:=by rfl):JE X R (.Call (.Name x p) (e::es) [] pos) (TX C T ta):=
 .of (K3 D.k D.ok (hr.mono hk) hg D.m D.b .nil hx ha uR he gy) λσ H G L ρ M q x rl en h hx=>by
  refine⟨G,L,ρ,M,_,x,rl,en,h,hx,λvs H1 xz y dx hy hdx lL=>?_⟩;have⟨ds,G1,L1,M1,e1,r1,n1,h1⟩:=xz;show cK X.K T (V.ref y::(vs++[])) _ _ _;rw[aa1];have ra:=r1.ML (o:=.own y) hdx;have ea:=r1.RE (o:=.own y) hdx;have hy2:upd H1 dx (HO.own y) y=none:=by rw[Θ (Ne.symm lL)];exact hy
  have rb:=ra.Nl (p:=y) (o:=.ins C dx []) (m:=.ins C [] []) hy2 ⟨dx,[],af,rfl,rfl⟩;have eb:=ra.V5 (p:=y) (o:=.ins C dx []) hy2;have e2:=ea.trans eb;have JM:=e1.trans e2;refine⟨_,_,.loc M1.length::ds,_,_,_,rb,⟨_,_,rfl,⟨y,rfl,?_⟩,Ψ.mono e2.g e2.l _ _ n1⟩,h1,fun v H' ⟨d,G',L',M',e',r',dn,hd,hq⟩=>?_,λC fs M' G' L' H' od hq e' r' z=>hx σ ρ C fs M' G' L' H' od hq (JM.trans e') r' (en.mono (JM.trans e')) z⟩
  ·rw[<-r1.len,List.getElem?_append_right (Nat.le_refl _)];simp
  ·subst hd;refine⟨dn,.loc M1.length,G',L',M',JM.trans e',r',⟨y,rfl,e'.l.get ?_⟩,hq⟩;rw[<-r1.len,List.getElem?_append_right (Nat.le_refl _)];simp
def Dr(c:Eg X.K C)(n:iH X.K C f)(ho:JE X R o to)(hv:JE X R value tv)(hs:swapsWith value (some (.Attribute o f pos')) pos.line X.env=pure false:=by rfl):JS X R (.Assign [.Attribute o f pos'] value pos) (OL C f to tv):=
 .of (QB ho hv hs) λσ H G L ρ M Dn rl en h hx=>by refine⟨G,L,ρ,M,_,_,rl,en,h,hx,λy H1 xz=>?_⟩;have⟨dy,G1,L1,M1,e1,r1,n1,h1⟩:=xz;refine⟨G1,L1,ρ,M1,_,_,r1,en.mono e1,h1,hx.on e1,λu H2 xz=>?_⟩;have⟨du,G2,L2,M2,e2,r2,n2,k,ns,ds,ed,hm,hf,hz,h2⟩:=xz;subst ed;have⟨p,rfl,hp⟩:=n2;have⟨_,dx,vs,hH,hl,dn⟩:=r2.f_ k p _ hp hm;have hlv:ns.length=vs.length:=hl.trans dn.length;refine⟨p,C,dx,_,rfl,hH,c,n,by rw[abB,<-hlv,Nat.min_self];exact hz,?_⟩;rw[zt hlv hf];exact⟨ρ,G2,L2,_,(e1.trans e2).trans (r2.J5 hp),r2.setM (m:=.ins C (ns++[f]) (ds++[dy])) hp ⟨dx,_,af,by rw[aag,aag,hl];rfl,dn.app ⟨_,_,rfl,Den.mono e2.g e2.l _ _ n1,rfl⟩⟩,(en.mono (e1.trans e2)).mono (r2.J5 (o:=.own p) hp),h2⟩
end
def vO:List Dt->Ms->DQ->Prop
 | [d],M,q=>match jq M d with
  | some xs=>q (.loc M.length) (M++[.lst xs])
  | none=>False
 | _,_,_=>False
section
variable{K:fI}
def U5:EA K (λxs H Q=>∃p ys,xs=[V.ref p]/\(gC K H p ys\/nv K H p ys)/\∀l,H l=none->Q (.ref l) (upd H l (.lst ys))) vO:=by
 intro G0 L0 H0 G L M H vs ds q e r n h;unfold vO at h;split at h
 ·rename_i d;have⟨v,rfl,n1⟩:=bw n;split at h
  ·rename_i xs hs;have⟨a,us,rfl,hq,dn⟩:=n_ r n1 hs;exact⟨a,us,rfl,hq,λl hl=>jj e r hl dn h⟩
  ·exact h.elim
 ·exact h.elim
end
section
variable{X:Cx}{R:St->XK}{e o i value:Expr}{t:DA}{to ti tv:DE}{p pos apos cZ uI:Pos}
def tP(hm:X.mg "list"=none)(ha:JA X R [e] t)(hg:Gl X "list":=by rfl)(he:starEach [e] X.env=(false,eval e X.env)::starEach [] X.env:=by rfl)(gy:(backTo pos (starEach [] X.env)).any (·.1)=false:=by rfl):JE X R (.Call (.Name "list" p) [e] [] pos) (CQ vO t):=
 ub yA U5 hm rE ha hg @_ @_ he gy
def UZ(to:DE)(t:DA):DE:=λρ M q x=>to ρ M (λd M1=>(∃k xs,d= .loc k/\M1[k]? =some (.lst xs))/\t ρ M1 (λds M2=>∃k xs y,d= .loc k/\ds=[y]/\M2[k]? =some (.lst xs)/\xs.length < sizeLine/\q .bF (M2.set k (.lst (xs++[y])))) x) x
def dJ(ho:JE X R o to)(ha:JA X R [e] t)(Ko:attributeBase o "append" X.env (eval o X.env)=eval o X.env:=by rfl)
  (Pe:((backTo cZ (starEach [e] X.env)).all (λx=> !x.1)&&(backToKw cZ (keywordEach [] X.env)).all (λx=>x.1.isSome)
   &&decide (([e]:List Expr).length+([]:List Keyword).length+(if ([]:List Keyword).isEmpty then 0 else 1) < 30))=true:=by rfl)
  (JX:(apos.endLine==cZ.line)=true:=by rfl) (hs:starEach [e] X.env=(false,eval e X.env)::starEach [] X.env:=by rfl) (Bt:(backTo cZ (starEach [] X.env)).any (·.1)=false:=by rfl):
  JE X R (.Call (.Attribute o "append" apos) [e] [] cZ) (UZ to t):=
 .of (UX PySem.F.plainAttrs_list PySem.F.slot_list_append PySem.F.type_list_append (r:=D') vM ho ha Ko Pe JX hs Bt) λσ H G L ρ M q x rl n h hx=>by refine⟨G,L,ρ,M,_,x,rl,n,h,hx,λv H1 xz=>?_⟩;have⟨d1,G1,L1,M1,e1,r1,n1,⟨k,xs,ed,hm⟩,h1⟩:=xz;subst ed;have⟨a,rfl,hk⟩:=n1;have⟨_,vs,hH,_⟩:=r1.f_ k a _ hk hm;refine⟨.inl ⟨rfl,vs,.of hH⟩,G1,L1,ρ,M1,_,x,r1,n.mono e1,h1,hx.on e1,λus H2 xz=>?_⟩;have⟨ds,G2,L2,M2,e2,r2,n2,k',xs',y,ek,ed,YU,hz,h2⟩:=xz;cases ek;subst ed;have⟨u,rfl,n3⟩:=bw n2;have QA:=e2.l.get hk;have⟨_,Ln,VI,RS⟩:=r2.f_ k a _ QA YU;refine⟨a,Ln,u,rfl,rfl,VI,by rw[<-RS.length];exact hz,.bF,G2,L2,_,(e1.trans e2).trans (r2.J5 QA),r2.setM (m:=.lst (xs'++[y])) QA ⟨_,af,RS.app ⟨_,_,rfl,n3,rfl⟩⟩,rfl,h2⟩
def pZ(to ti tv:DE):DS:=λDn ρ M=>tv ρ M (λy M1=>to ρ M1 (λd M2=>ti ρ M2 (λdi M3=>∃k i xs j,d= .loc k/\di= .int i/\M3[k]? =some (.lst xs)/\Hq xs.length i=some j/\Dn.nx ρ (M3.set k (.lst (xs.set j y)))) Dn.x) Dn.x) Dn.x
def kY(ho:JE X R o to)(hi:JE X R i ti)(hv:JE X R value tv)(hs:swapsWithSole [.Subscript o i uI] value pos.line X.env=pure false:=by rfl)(hw:swappedStores [.Subscript o i uI] value X.env=pure none:=by rfl)
  (h1:(assignEach [.Subscript o i uI] X.env).map (·.2)=[assign (.Subscript o i uI) X.env]:=by rfl)
  (ha:∀v,assign (.Subscript o i uI) X.env v=(do
   let ov<-holding [v] (eval o X.env)
   let iv<-holding [v,ov] (eval i X.env)
   standAt uI
   holding [v,ov,iv] (setItem ov iv v)
   release [v,ov,iv] []):=by intro _;rfl):JS X R (.Assign [.Subscript o i uI] value pos) (pZ to ti tv):=
 .of (JH hv (Pd (t:=NZ) ho hi Lh ha) hs hw h1) λσ H G L ρ M Dn rl n h hx=>by refine⟨G,L,ρ,M,_,_,rl,n,h,hx,λv H1 xz=>?_⟩;have⟨dv,G1,L1,M1,e1,r1,n1,h1⟩:=xz;refine⟨G1,L1,ρ,M1,_,_,r1,n.mono e1,h1,hx.on e1,λov H2 xz=>?_⟩;have⟨d,G2,L2,M2,e2,r2,n2,h2⟩:=xz;refine⟨G2,L2,ρ,M2,_,_,r2,(n.mono e1).mono e2,h2,(hx.on e1).on e2,λiv H3 xz=>?_⟩;have⟨di,G3,L3,M3,e3,r3,n3,k,i,xs,j,ed,ei,hm,hj,h3⟩:=xz;subst ed ei;have⟨a,rfl,hk⟩:=n2;have n3:iv= .int i:=n3;subst n3;have By:=e3.l.get hk;have⟨_,vs,hH,dn⟩:=r3.f_ k a _ By hm;have Ha:=e2.trans e3;have V3:=Den.mono Ha.g Ha.l _ _ n1;refine⟨a,vs,i,j,rfl,rfl,hH,by rw[<-dn.length];exact hj,ρ,G3,L3,_,((e1.trans e2).trans e3).trans (r3.J5 By),r3.setM (m:=.lst (xs.set j dv)) By ⟨_,af,.of (Es V3 j dn.pair)⟩,(((n.mono e1).mono e2).mono e3).mono (r3.J5 (o:=.own a) By),h3⟩
end
structure Src(K:fI)(a:Addr)(xs:List Dt)(ok:Ms->Prop)(G0:Hp)(L0:List Addr):Prop where
 at_:∀G L M H,ef G0 G->Pre L0 L->Rl K G L M H->ok M->∃vs,gC K H a vs/\Ψ K G L xs vs
def lV(M:Ms):Dt->Option (List Dt×(Ms->Prop))
 | .lst xs=>some (xs,λ_=>True)
 | .jR ns=>some (ns.map .int,λ_=>True)
 | .loc k=>match M[k]? with
  | some (.lst xs)=>some (xs,λM'=>M'[k]? =some (.lst xs))
  | _=>none
 | _=>none
def sA{K:fI}{G:Hp}{L:List Addr}{M:Ms}{H:Hp}{d:Dt}{v:V}{xs:List Dt}{ok:Ms->Prop}(r:Rl K G L M H)(n:Den K G L d v)(h:lV M d=some (xs,ok)):∃a vs,v= .ref a/\gC K H a vs/\Src K a xs ok G L/\ok M:=by
 cases d with
 | lst ds=>
  cases h;have⟨a,vs,rfl,e,m⟩:=n;exact⟨a,vs,rfl,.of (r.sub _ _ e),⟨λG' L' M' H' g l r' _=>⟨vs,.of (r'.sub _ _ (g _ _ e)),Ψ.mono g l _ _ m⟩⟩,trivial⟩
 | jR ns=>
  cases h;have⟨a,rfl,e⟩:=n;exact⟨a,_,rfl,r.sub.seq e,⟨λG' L' M' H' g l r' _=>⟨_,r'.sub.seq (g.seq e),iN⟩⟩,trivial⟩
 | loc k=>
  have⟨a,rfl,e⟩:=n;have h:(match M[k]? with| some (.lst xs)=>some (xs,λM':Ms=>M'[k]? =some (.lst xs))| _=>none)=some (xs,ok):=h;split at h
  ·rename_i ys hm;cases h;have⟨_,vs,e1,m1⟩:=r.f_ k a _ e hm;refine⟨a,vs,rfl,.of e1,⟨λG' L' M' H' g l r' hk=>?_⟩,hm⟩;have⟨_,Ln,e2,m2⟩:=r'.f_ k a _ (l.get e) hk;exact⟨Ln,.of e2,m2⟩
  ·cases h
 | _=>cases h
def K_{K:fI}{G:Hp}{L:List Addr}{a:Addr}{xs:List Dt}{ok:Ms->Prop}(s:Src K a xs ok G L):QS K (VP K a) xs ok G L where
 go:=λi G1 L1 M1 H1 d g l r k e=>by
  have⟨vs,hs,n⟩:=s.at_ G1 L1 M1 H1 g l r k;have⟨v,e1,n1⟩:=n.get e
  exact⟨⟨vs,v,hs,e1⟩,fun v' H' ⟨eH,y⟩=>by
   subst eH;have e2:=y vs hs;rw[e1]at e2;cases e2
   exact⟨G1,.refl _ _ _,r,n1⟩⟩
 stop:=λi G1 L1 M1 H1 g l r k e=>by have⟨vs,hs,n⟩:=s.at_ G1 L1 M1 H1 g l r k;exact⟨vs,hs,by rw[<-n.length];exact e⟩
def lZ(M:Ms):Dt->Option (List Dt×(Ms->Prop))
 | .loc k=>lV M (.loc k)
 | d=>(SE M d).map λxs=>(xs,λ_=>True)
def eF(t:DE):DK:=λρ M q x=>t ρ M (λd M1=>match lZ M1 d with
 | some (xs,ok)=>q xs ok M1
 | none=>False) x
def aV{X:Cx}{R:St->XK}{tg e:Expr}{te:DE}(h:JE X R e te):JK X R tg e (eF te):=by
 intro ζ s σ H Q I ⟨G,L,ρ,M,q,x,rl,n,ht,hx,hQ⟩;refine bH (h ζ s σ H (Fin X.K G L H _) I ⟨G,L,ρ,M,_,x,rl,n,ht,hx,λ_ _ f=>f⟩) λu s1 xz=>?_;have⟨v,H1,I1,rv,d,G1,L1,M1,e1,r1,n1,h1⟩:=xz
 (try dsimp only at h1)
 cases hi:lZ M1 d with
 | none=>rw[hi]at h1;exact h1.elim
 | some p=>
  have⟨xs,ok⟩:=p;rw[hi]at h1;have fin:∀J,QS X.K J xs ok G1 L1->Q J H1:=λJ y=>hQ J H1 ⟨xs,ok,G1,L1,M1,e1,r1,y,h1⟩;have up:∀{J},ok=(λ_=>True)->Yl X.K J xs G1 L1->QS X.K J xs ok G1 L1:=λeo y=>by subst eo;exact⟨λi G L M H d g l r _ e=>y.go i G L M H d g l r e,λi G L M H g l r _ e=>y.stop i G L M H g l r e⟩
  cases d with
  | loc k=>
   have⟨a,vs,rfl,hs,sr,_⟩:=sA r1 n1 hi;cases rv;exact xW I1 hs (fin _ (K_ sr))
  | lst ds=>
   cases hi;have⟨a,vs,rfl,e,m⟩:=n1;cases rv;exact xW I1 (vs:=vs) (.of (r1.sub _ _ e)) (fin _ (up rfl (E9 (λG' g=>.of (g _ _ e)) m)))
  | jR ns=>
   cases hi;have⟨a,rfl,e⟩:=n1;cases rv;exact xW I1 (r1.sub.seq e) (fin _ (up rfl (E9 (λG' g=>g.seq e) iN)))
  | tup ds=>
   cases hi;have⟨a,vs,rfl,e,m⟩:=n1;cases rv;exact Lb I1 (vs:=vs) (.of (r1.sub _ _ e)) (fin _ (up rfl (IY (λG' g=>.of (g _ _ e)) m)))
  | kt ds=>
   cases hi;have⟨a,vs,rfl,e,m⟩:=n1;cases rv;exact Lb I1 (r1.sub.SN e) (fin _ (up rfl (IY (λG' g=>g.SN e) m)))
  | str z=>
   cases hi;cases n1;have⟨t,rfl⟩:=rv;exact Q2 I1 (fin _ (up rfl Qb))
  | _=>cases hi
def ya(g:Dt->En->(En->Prop)->Prop)(tb:DS)(Dn:l_)(ok:Ms->Prop):List Dt->En->Ms->Prop
 | [],ρ,M=>ok M/\Dn.nx ρ M
 | x::xs,ρ,M=>ok M/\g x ρ λρ'=>tb {Dn with nx:=ya g tb Dn ok xs,ct:=ya g tb Dn ok xs,bk:=Dn.nx} ρ' M
def oh(ti:DK)(g:Dt->En->(En->Prop)->Prop)(tb:DS):DS:=λDn ρ M=>ti ρ M (λxs ok M1=>ya g tb Dn ok xs ρ M1) Dn.x
section
variable{X:Cx}{R:St->XK}{tg iter:Expr}{body:List Stmt}{ti:DK}{gg:TG}{g:Dt->En->(En->Prop)->Prop}{tb:DS}{pos:Pos}
def cC(hi:JK X R tg iter ti)(hg:PG X tg gg)(gd:GD X.K gg g)(hb:B2 X R body tb)(hp:PassesOwn (model X.prog X.w) X.A X.env X.xe:=by first| exact PassesOwn.never| exact PassesOwn.leaving)(hc:X.calm=true:=by rfl)(hs:∀x,foldedSetIterable iter X.env x=pure x:=by intro _;rfl):
  JS X R (.For tg iter body [] pos) (oh ti g tb):=.of (CT hp hc hi hg hb hs) λσ H G L ρ M Dn rl n h hx=>by
 refine⟨G,L,ρ,M,_,_,rl,n,h,hx,λJ H1 xz=>?_⟩;have⟨xs,ok,G1,L1,M1,e1,r1,y,h1⟩:=xz;refine⟨λi m σ' H'=>m+i=xs.length/\fc X.K G1 L1 H1 (λρ' M'=>ya g tb Dn ok (xs.drop i) ρ' M') σ' H',⟨xs.length,rfl,ρ,G1,L1,M1,.refl _ _ _,r1,n.mono e1,by rw[acH];exact h1⟩,?_⟩;rintro i m σ' H' ⟨hm,ρ',G',L',M',e',r',n',h'⟩;by_cases hi:i < xs.length
 ·right;have hd:xs[i]? =some xs[i]:=aaa hi;rw[abt hi]at h';have⟨bb,h'⟩:=h';have⟨go,yl⟩:=y.go i G' L' M' H' _ e'.g e'.l r' bb hd;refine⟨go,fc X.K G1 L1 H1 (λρ' M'=>ya g tb Dn ok (xs.drop (i+1)) ρ' M'),λσ2 H2 f=>⟨m - 1,(),(),f⟩,λv H2 hy=>?_⟩;have⟨G2,e2,r2,n2⟩:=yl v H2 hy;refine gd G2 L' M' H2 _ v ρ' σ' _ _ r2 n2 (n'.mono e2) h' λρ3 σ3 n3 h3=>?_;refine⟨G2,L',ρ3,M',_,r2,n3,h3,hx.on (e1.trans (e'.trans e2)),⟨λ_ _ f=>fc.back (e'.trans e2) f,λ_ _ f=>Fin.back (e1.trans (e'.trans e2)) f,λ_ _ f=>fc.back (e1.trans (e'.trans e2)) f,λ_ _ f=>fc.back (e'.trans e2) f⟩⟩
 ·left;rw[ab7 ()]at h';exact⟨y.stop i G' L' M' H' e'.g e'.l r' h'.1 (),ρ',G',L',M',e1.trans e',r',n',h'.2⟩
end
def ql(te:DE)(cs:En)(ok:Ms->Prop):List Dt->List Dt->Ms->(List Dt->Ms->Prop)->Prop
 | [],Η,M,k=>ok M/\k Η M
 | x::xs,Η,M,k=>ok M/\te (some x::cs) M (λd M1=>ql te cs ok xs (Η++[d]) M1 k) lT
def kR(ti:DK)(te:DE)(Ω:List Nat):DE:=λρ M q x=>ti ρ M (λxs ok M1=>xs.length<=sizeLine/\ql te (pv Ω ρ) ok xs [] M1 (λys M2=>q (.lst ys) M2)) x
def yd{te:DE}{cs:En}{ok:Ms->Prop}:∀xs,ql te cs ok xs=iL (gN 0) tM te (none::cs) ok xs
 | []=>rfl
 | x::xs=>funext λΗ=>funext λM=>funext λk=>by show(ok M/\te (some x::cs) M (λd M1=>ql te cs ok xs (Η++[d]) M1 k) lT)=(ok M/\te (some x::cs) M (λd M1=>iL (gN 0) tM te (none::cs) ok xs (Η++[d]) M1 k) lT);rw[yd xs]
section
variable{X:Cx}{R:St->XK}{elt iter:Expr}{x:Str}{px:Pos}{scope:Scope}{pos:Pos}{ti:DK}{te:DE}{ys:List Str}{Ω:List Nat}
def dX(S:Φ X scope [x] ys Ω)(hi:JK X R (.Name x px) iter ti)(he:∀C s H fp,JE (Cx.comp X (x::ys) scope C s H fp) (λ_=>E0) elt te)(hc:X.calm=true:=by rfl)(hs:∀x,foldedSetIterable iter X.env x=pure x:=by intro _;rfl):JE X R (.ListComp elt [⟨.Name x px,iter,[],0⟩] scope pos) (kR ti te Ω):=Uk false S hi (i9 S (i:=0) rfl) aG (jE (Nat.zero_lt_succ 0)) (λ_ _ _ _=>qX) he hc hs λρ M q x h=>by unfold kR at h;simp only[yd]at h;exact h
def fX{i:Nat}{y:Str}{py A3:Pos}(hN:X.N.Nodup)(T2:X.N[i]? =some y)(hy:Loc X.env.scope y)(S:Φ X scope [x] ys Ω)(hi:JK X R (.Name x px) iter ti)(he:∀C s H fp,JE (Cx.comp X (x::ys) scope C s H fp) (λ_=>E0) elt te)(hc:X.calm=true:=by rfl)(Sl:swapsWith (.ListComp elt [⟨.Name x px,iter,[],0⟩] scope pos) (some (.Name y py)) A3.line X.env=pure true:=by rfl)(hs:∀x,foldedSetIterable iter X.env x=pure x:=by intro _;rfl)(hf:X.fn y=true\/X.env.scope.names.lookup y=some .local:=by first| exact .inl rfl| exact .inr rfl| assumption):JS X R (.Assign [.Name y py] (.ListComp elt [⟨.Name x px,iter,[],0⟩] scope pos) A3) (Lv i (kR ti te Ω)):=jcS false S hi (i9 S (i:=0) rfl) aG (jE (Nat.zero_lt_succ 0)) (λ_ _ _ _=>qX) he hc hs hN T2 hy Sl hf λρ M q x h=>by unfold kR at h;simp only[yd]at h;exact h
end
def vj:∀{ns:List Int} {us:List Value},aC (ns.map V.int) us->∃ts:List (Int×Tok),us=ts.map (λp=>Value.int p.1 p.2)/\ts.map (·.1)=ns
 | [],_,h=>by cases h;exact⟨[],rfl,rfl⟩
 | n::ns,_,h=>by
  cases h with
  | cons r t=>
   have⟨tk,rfl⟩:=r;have⟨ts,rfl,rfl⟩:=vj t;exact⟨(n,tk)::ts,rfl,rfl⟩
def S4(K:fI):List V->Hp->VK->Prop:=λxs H Q=>∃(p:Addr) (ns:List Int),xs=[.ref p]/\gC K H p (ns.map V.int)/\Q (.int ns.sum) H
def Ij{X:Cx}(hc:X.calm=true):dI X (.builtin "sum") (S4 X.K):=by
 intro ζ s σ H xs us Q I r h;have⟨p,ns,rfl,hq,q⟩:=h;have⟨u,rfl,r1⟩:=lu r;cases r1;have⟨its,rv,pl,hz⟩:=I.list hq;have⟨ts,rfl,rfl⟩:=vj rv;have e:(ts.map λp=>Value.int p.1 p.2).toArray=intItems ts.toArray:=by simp[intItems]
 have hl:=pl.isList;rw[e]at hl;refine sum_intListG (I.ok.hd hc) hl λh' tk t' hk=>?_;refine⟨.int (ts.map (·.1)).sum,H,I.kept hk,⟨t',?_⟩,q⟩;rw[preSum_eq,List.take_of_length_le (by simp)]
def Qc:List Dt->Ms->DQ->Prop
 | [d],M,q=>∃ns:List Int,jq M d=some (ns.map .int)/\(∃xs ok,lV M d=some (xs,ok))/\q (.int ns.sum) M
 | _,_,_=>False
def sT{K:fI}{G:Hp}{L:List Addr}:∀{ns:List Int} {vs:List V},Ψ K G L (ns.map Dt.int) vs->vs=ns.map V.int
 | [],_,h=>h
 | _::_,_,⟨v,r,e,h1,h2⟩=>by have h1:v=_:=h1;rw[e,h1,sT h2];rfl
def nY{M:Ms}{d:Dt}{xs:List Dt}{ok:Ms->Prop}(h:lV M d=some (xs,ok)):jq M d=some xs:=by
 cases d with
 | lst ds=>cases h;rfl
 | jR ns=>cases h;rfl
 | loc k=>
  have h:(match M[k]? with| some (.lst xs)=>some (xs,λM':Ms=>M'[k]? =some (.lst xs))| _=>none)=some (xs,ok):=h;show(match M[k]? with| some (.lst xs)=>some xs| _=>none)=some xs;split at h
  ·rename_i ys hm;cases h;rfl
  ·cases h
 | _=>cases h
def WI{K:fI}:EA K (S4 K) Qc:=by
 intro G0 L0 H0 G L M H vs ds q e r n h;unfold Qc at h;split at h
 ·rename_i d;have⟨v,rfl,n1⟩:=bw n;have⟨ns,hs,⟨xs,ok,hl⟩,hq⟩:=h;have⟨a,us,rfl,sq,sr,bb⟩:=sA r n1 hl;rw[nY hl]at hs;cases hs;have⟨ws,sq2,dn⟩:=sr.at_ G L M H (.refl _) (.refl _) r bb;rw[sT dn]at sq2;exact⟨a,ns,rfl,sq2,.int ns.sum,G,L,M,e,r,rfl,hq⟩
 ·exact h.elim
def Fo:bootBuiltins "sum"=some (.builtin "sum"):=by decide+kernel
def Ca:bootBuiltins "enumerate"=some (.type "enumerate"):=by decide+kernel
section
variable{X:Cx}{R:St->XK}{e a b:Expr}{t:DA}{ta tb:DE}{p pos:Pos}
def Ot(hm:X.mg "sum"=none)(ha:JA X R [e] t)(hc:X.calm=true:=by rfl)(hg:Gl X "sum":=by rfl)(he:starEach [e] X.env=(false,eval e X.env)::starEach [] X.env:=by rfl)(gy:(backTo pos (starEach [] X.env)).any (·.1)=false:=by rfl):JE X R (.Call (.Name "sum" p) [e] [] pos) (CQ Qc t):=
 ij (Ij hc) WI hm Fo ha hg @_ @_ he gy
def Sa:Dt->Dt->Ms->DQ->Prop:=λd e M q=>∃u xs us,vv d=some u/\jq M e=some xs/\hU xs=some us/\q (.bl (Q8 u us)) M
def DG:Dt->Dt->Ms->DQ->Prop:=λd e M q=>∃u xs us,vv d=some u/\jq M e=some xs/\hU xs=some us/\q (.bl (!Q8 u us)) M
def YK{K:fI}:oz K (V0 K false) Sa:=by intro G0 L0 H0 G L M H v1 v2 d1 d2 q e r n1 n2 ⟨u,xs,us,h1,h2,h3,hq⟩;have⟨rfl,fu⟩:=k9 h1 n1;have⟨a,vs,rfl,sq,dn⟩:=n_ r n2 h2;have⟨rfl,fs⟩:=fk h3 dn;exact⟨a,vs,rfl,sq,fu,fs,.bl _,G,L,M,e,r,rfl,hq⟩
def MA{K:fI}:oz K (V0 K true) DG:=by intro G0 L0 H0 G L M H v1 v2 d1 d2 q e r n1 n2 ⟨u,xs,us,h1,h2,h3,hq⟩;have⟨rfl,fu⟩:=k9 h1 n1;have⟨a,vs,rfl,sq,dn⟩:=n_ r n2 h2;have⟨rfl,fs⟩:=fk h3 dn;exact⟨a,vs,rfl,sq,fu,fs,.bl _,G,L,M,e,r,rfl,hq⟩
def IK(ja:JE X R a ta)(jb:JE X R b tb)(hm:behindInMarks .In b=false:=by rfl):JT X R (.Compare a [.In] [b] pos) (pO (lI Sa ta tb)):=jG GO YK ja jb hm
def vy(ja:JE X R a ta)(jb:JE X R b tb)(hm:behindInMarks .NotIn b=false:=by rfl):JT X R (.Compare a [.NotIn] [b] pos) (pO (lI DG ta tb)):=jG yB MA ja jb hm
end
def Inv.v9{X:Cx}{ζ:List (Addr×Obj)}{σ:St}{H:Hp}{s:Shared}{h':Heap}{its:List Addr}{T:Addr}{o:HO}{t':Nat}(I:Inv X ζ σ H s)(k:∀b u,b∉its->s.heap.get? b=some u->h'.get? b=some u)(f:∀b∈its,ui X ζ H b)(hT:s.heap.objs.size<=T)(new:b8 X.prog X.w (upd H T o) h' T o):
  Inv X ζ σ (upd H T o) {s with heap:=h',toks:=t'}:=by
 have hn:=I.bb.fresh hT;have Se:∀b u,H b=some u->b∉its:=λb u e z=>by rw[(f b z).1]at e;cases e
 refine I.call (ch:=its) (g':=s.gens) (d':=s.drawn) (t':=t') ⟨λb u q _ _ hb=>k b u hb q,λb u q _ _ hb=>⟨u.slots,k b u hb q⟩,λb u q n _=>?_,λb u q hb=>⟨u,k b u hb q⟩,λb xs q=>?_,λb u xs q=>?_,λb ps q=>⟨#[],?_⟩⟩ (λb u e=>?_) I.bare λb hb=>?_
 ·rw[Θ (aaY (aau (aar q) hT))];exact n
 ·rw[Θ (bV q hn)];exact q
 ·rw[Θ (bV q hn)];exact q
 ·rw[Θ (bV q hn),q];simp
 ·by_cases hb:b=T
  ·subst hb;rw[af]at e;cases e;exact new
  ·rw[Θ hb]at e;refine(I.bb b u e).uF (λc v hc q=>k c v ?_ q) (λc q=>by rw[Θ (bV q hn)];exact q) λc xs q=>by rw[Θ (bV q hn)];exact q
   rcases hc with z| z
   ·rw[z];exact Se b u e
   ·exact Se c _ z
 ·have⟨f0,f1,f2,f3,f4,f5⟩:=f b hb;exact⟨f3,f1,f4,f5⟩
def Ite(K:fI)(l:Addr):It:=
 ⟨λi H=>∃xs x,gC K H l xs/\xs[i]? =some x,λi H v H'=>∃p x,H p=none/\v= .ref p/\H'=upd H p (.tup [.int i,x])/\∀xs,gC K H l xs->xs[i]? =some x,λi H=>∃xs,gC K H l xs/\xs.length<=i⟩
def Gh{P:Program}{w:World}{K:fI}{elts:List Expr}{x1:Nat}{tp:Pos}(l it e:Addr)(lL:e≠it):Turn P w K (.Tuple elts x1 tp) (Ite K l) [e,it] e (λi h=>(∃old,IsEnum h e it i old)/\h.IsListIter it l i) where
 mem:=by simp
 obj:=λi h st b hb=>by
  have⟨⟨old,he⟩,hi⟩:=st;rcases aaC.mp hb with rfl| hb
  ·exact⟨_,he,λv z=>by
    have z':Data.fields _=Data.cell v:=z
    cases z'⟩
  ·have e:b=it:=by simpa using hb
   subst e;have⟨o,e,c,d⟩:=hi;exact⟨o,e,λv z=>by rw[d]at z;cases z⟩
 keep:=λi h h' st k=>by have⟨⟨old,he⟩,hi⟩:=st;exact⟨⟨old,k e (by simp) _ he⟩,hi.at λo q=>k it (by simp) o q⟩
 item:=by
  intro X hP hw hK hc i ζ s σ H E I hf st hg;subst hP hw hK;have⟨⟨old,he⟩,hi⟩:=st;have⟨xs,x,hq,hx⟩:=hg;have⟨its,rv,p,hz⟩:=I.list hq;have⟨u,hu,ru⟩:=rv.get hx;refine wpAny_pyNext_enum_item he hi p.isList (x:=u) (by simpa using hu) lL λh' ho D_ hT hsz hk=>?_;refine⟨_,rfl,wpAny_letOwnedTupleGo_enum (s:={s with heap:=h',toks:=s.toks+1}) ho λh2 he2 sb=>?_⟩;have sb:Heap.SameBut e h' h2:=sb;have elt:e < s.heap.objs.size:=aar he;have ilt:it < s.heap.objs.size:=by have⟨o,q,_⟩:=hi;exact aar q
  have neT:s.heap.objs.size≠e:=acI elt;have hT2:h2.get? s.heap.objs.size=some {cls:=.type "tuple",data:=.seq #[.int i s.toks,u]}:=(sb.2 _ neT).trans hT;have I2:Inv X ζ σ (upd H s.heap.objs.size (.tup [.int i,x])) {s with heap:=h2,toks:=s.toks+1}:=by
   refine I.v9 (its:=[e,it]) (λb o hb q=>?_) hf (aai _) ?_
   ·have h1:b≠e:=λz=>hb (by simp[z]);have h3:b≠it:=λz=>hb (by simp[z]);exact(sb.2 b h1).trans (hk b o h1 h3 q)
   ·refine⟨by simp[sizeLine_eq],[.int i s.toks,u],.cons ⟨_,rfl⟩ (.cons ru .nil),?_⟩;exact⟨_,hT2,rfl,0,rfl⟩
  have iter:h2.IsListIter it l (i+1):=D_.at λo q=>(sb.2 it (Ne.symm lL)).trans q;refine⟨.ref s.heap.objs.size,_,I2,rfl,⟨s.heap.objs.size,x,I.bb.fresh (Nat.le_refl _),rfl,rfl,λys hy=>by rw[I.gU hy hq];exact hx⟩,⟨⟨u,by simpa using he2⟩,iter⟩,λb hb=>?_⟩;have nb:b≠s.heap.objs.size:=by
   rcases aaC.mp hb with rfl| hb
   ·exact aaY elt
   ·have:b=it:=by simpa using hb
    subst this;exact aaY ilt
  rw[Θ nb];exact(hf b hb).1
 done:=by intro X hP hw hK hc i ζ s σ H E I hf st hg;subst hP hw hK;have⟨⟨old,he⟩,hi⟩:=st;have⟨xs,hq,hx⟩:=hg;have⟨its,rv,p,hz⟩:=I.list hq;have hl:=rv.length;have⟨f0,f1,f2,f3,f4,f5⟩:=hf it (by simp);refine wpAny_pyNext_enum_end (I.ok.hd hc) he hi p.isList (by simp;omega) λh' ext=>⟨rfl,I.turned (t':=s.toks) (λb o hb q=>ext b o hb q) f0 f1 f3 f4 f5⟩
 self:=λ_ _ _ _ _ st h=>by have⟨⟨old,he⟩,_⟩:=st;exact wpAny_pyIter_enum he h
def iS:Nat->List Dt->List Dt
 | _,[]=>[]
 | n,x::xs=>.tup [.int n,x]::iS (n+1) xs
def jF:∀(n:Nat) (xs:List Dt),(iS n xs).length=xs.length
 | _,[]=>rfl
 | n,_::xs=>by unfold iS;rw[List.length_cons,List.length_cons,jF]
def pC:∀{n i:Nat} {xs:List Dt} {d:Dt},(iS n xs)[i]? =some d->∃x,xs[i]? =some x/\d= .tup [.int ((n+i:Nat):Int),x]
 | n,i,[],d,h=>by simp[iS]at h
 | n,0,x::xs,d,h=>by unfold iS at h;simp at h;exact⟨x,rfl,by rw[<-h];simp⟩
 | n,i+1,x::xs,d,h=>by unfold iS at h;have⟨y,h1,h2⟩:=pC (n:=n+1) (i:=i) (xs:=xs) (d:=d) (by simpa using h);exact⟨y,by simpa using h1,by rw[h2,show n+1+i=n+(i+1) by omega]⟩
def Iu{K:fI}{G:Hp}{L:List Addr}{a:Addr}{xs:List Dt}{ok:Ms->Prop}(s:Src K a xs ok G L):QS K (Ite K a) (iS 0 xs) ok G L where
 go:=λi G1 L1 M1 H1 d g l r k e=>by have⟨vs,hs,n⟩:=s.at_ G1 L1 M1 H1 g l r k;have⟨y,ey,rfl⟩:=pC e;have⟨v,e1,n1⟩:=n.get ey;refine⟨⟨vs,v,hs,e1⟩,λv' H' xz=>?_⟩;have⟨p,x,hp,ev,eH,hx⟩:=xz;subst ev eH;have e2:=hx vs hs;rw[e1]at e2;cases e2;refine⟨_,r.RE hp,r.ML hp,rq (ds:=[.int ((0+i:Nat):Int),y]) r hp ⟨_,_,rfl,?_,_,_,rfl,n1,rfl⟩⟩;show V.int i=V.int _;rw[Nat.zero_add]
 stop:=λi G1 L1 M1 H1 g l r k e=>by have⟨vs,hs,n⟩:=s.at_ G1 L1 M1 H1 g l r k;exact⟨vs,hs,by rw[<-n.length,<-jF 0];exact e⟩
def SO(t:DA):DK:=λρ M q x=>t ρ M (λds M1=>∃d xs ok,ds=[d]/\lV M1 d=some (xs,ok)/\q (iS 0 xs) ok M1) x
def xo{X:Cx}{R:St->XK}{elts:List Expr}{x1:Nat}{tp:Pos}{a:Expr}{t:DA}{p pos:Pos}(hm:X.mg "enumerate"=none)(ha:JA X R [a] t)(hg:Gl X "enumerate":=by rfl)(hs:starEach [a] X.env=[(false,eval a X.env)]:=by rfl):JK X R (.Tuple elts x1 tp) (.Call (.Name "enumerate" p) [a] [] pos) (SO t):=by
 intro ζ s σ H Q I ⟨G,L,ρ,M,q,x,rl,n,ht,hx,hQ⟩;refine Call_ (mL I hg hm Ca (PyProof.Rows.callWith_type1 (bH (ha pos ζ s σ H (NU X.K G L H _) I ⟨G,L,ρ,M,_,x,rl,n,ht,hx,λ_ _ f=>f⟩) λus s1 xz=>?_) hs rfl));have⟨vs,H1,I1,rv,ds,G1,L1,M1,e1,r1,n1,d,xs,ok,ed,hl,h1⟩:=xz;subst ed;have⟨v,rfl,n2⟩:=bw n1;have⟨b,ws,rfl,sq,sr,_⟩:=sA r1 n2 hl;have⟨u,rfl,ru⟩:=aC.one rv;cases ru;have⟨its,_,pl,_⟩:=I1.list sq;refine call_enumerate_list pl.isList λh' he hi hz hk=>?_;have I2:Inv X ζ σ H1 {s1 with heap:=h'}:=I1.kept (t':=s1.toks) hk;refine wpAny_pyIter_enum (s:={s1 with heap:=h'}) he ⟨s1.heap.objs.size+1,[s1.heap.objs.size+1,s1.heap.objs.size],_,_,H1,rfl,I2,Gh b s1.heap.objs.size (s1.heap.objs.size+1) (acI (abv _)),⟨⟨_,he⟩,hi⟩,λc hc=>?_,hQ _ _ ⟨_,ok,G1,L1,M1,e1,r1,Iu sr,h1⟩⟩;have hc:s1.heap.objs.size<=c:=by
  rcases aaC.mp hc with rfl| hc
  ·exact Nat.le_succ _
  ·have:c=s1.heap.objs.size:=by simpa using hc
   rw[this];exact aai _
 have f:=I1.C2 (H':=H1) hc (I1.bb.fresh hc);exact f
def JL(M:Ms):Dt->Option Value
 | .loc k=>match M[k]? with
  | some (.lst _)=>some (.type "list")
  | _=>none
 | d=>OM d
def OB(K:fI):List Dt->Ms->DQ->Prop:=λds M q=>∃d c t t' b,ds=[d,c]/\JL M d=some t/\SJ c=some t'/\PySem.W.kitOne K t t'=some b/\q (.bl b) M
section
variable{K:fI}
def Dg{G:Hp}{L:List Addr}{M:Ms}{H:Hp}{d:Dt}{v:V}{t:Value}(r:Rl K G L M H)(n:Den K G L d v)(h:JL M d=some t):lP K H v t:=by
 by_cases hd:∃k,d= .loc k
 ·have⟨k,rfl⟩:=hd;have⟨a,rfl,e⟩:=n;have h:(match M[k]? with| some (.lst _)=>some (Value.type "list")| _=>none)=some t:=h;split at h
  ·rename_i xs hm;cases h;have⟨_,vs,e1,_⟩:=r.f_ k a _ e hm;exact .lst e1
  ·cases h
 ·refine GI r n ?_;cases d with
  | loc k=>exact aaJ ⟨k,rfl⟩ hd
  | _=>exact h
def SY:EA K (λxs H Q=>∃x c t t' b,xs=[x,c]/\lP K H x t/\Ny c=some t'/\PySem.W.kitOne K t t'=some b/\Q (.bl b) H) (OB K):=by intro G0 L0 H0 G L M H vs ds q e r n ⟨d,c,t,t',b,ed,h1,h2,hb,h⟩;subst ed;have⟨v,u,rfl,n1,n2⟩:=gQ n;exact⟨v,u,t,t',b,rfl,Dg r n1 h1,LW n2 h2,hb,bG e r h⟩
end
section
variable{X:Cx}{R:St->XK}{e e2:Expr}{t:DA}{p pos:Pos}
def x8(K:fI)(hm:X.mg "isinstance"=none)(ha:JA X R [e,e2] t)(he:starEach [e,e2] X.env=(false,eval e X.env)::starEach [e2] X.env:=by rfl)(gy:(backTo pos (starEach [e2] X.env)).any (·.1)=false:=by rfl)(hg:Gl X "isinstance":=by rfl)(hK:X.K=K:=by rfl):JE X R (.Call (.Name "isinstance" p) [e,e2] [] pos) (CQ (OB K) t):=by subst hK;exact ij zx SY hm o_ ha hg @_ @_ he gy
def v_:∀{zs:List Str} {us:List Value},Paired (λ(z:Str) (u:Value)=>∃tk,u= .str z tk) zs us->aC (zs.map V.str) us
 | _,_,.nil=>.nil
 | _,_,.cons h t=>.cons h (v_ t)
def K4{x:Str}{zs:List Str}(hm:∃a o its n,X.mg x=some (.ref a)/\X.K.lookup a=some o/\o.cls= .type "tuple"/\o.data= .seq its n/\its.size<=sizeLine/\Paired (λ(z:Str) (u:Value)=>∃tk,u= .str z tk) zs its.toList)(hg:Gl X x:=by rfl)(hd:(x==("__debug__":Str))=false:=by decide):JE X R (.Name x pos) (dC (.kt (zs.map .str))):=by have⟨a,o,its,n,h1,h2,h3,h4,h5,h6⟩:=hm;exact Ro (v:=.ref a) (EF hg h1 rfl hd) λG L=>⟨a,zs.map V.str,rfl,.inr ⟨o,its,n,h2,h3,h4,h5,v_ h6⟩,wk⟩
end
def gG{te:DE}{cs:En}{ok:Ms->Prop}{f:Dt->Dt}:∀{xs Η:List Dt} {M:Ms} {k:List Dt->Ms->Prop},ok M->(∀x∈xs,∀q:DQ,q (f x) M->te (some x::cs) M q lT)->k (Η++xs.map f) M->ql te cs ok xs Η M k
 | [],Η,M,k,ho,_,h=>⟨ho,by simpa using h⟩
 | x::xs,Η,M,k,ho,hf,h=>⟨ho,hf x List.mem_cons_self _ (gG ho (λy hy=>hf y (List.mem_cons_of_mem _ hy)) (by simpa using h))⟩
def bx{g:Dt->En->(En->Prop)->Prop}{tb:DS}{Dn:l_}{ok:Ms->Prop}(J:List Dt->En->Ms->Prop)(bb:∀xs ρ M,J xs ρ M->ok M)
  (step:∀x xs ρ M,J (x::xs) ρ M->(∀ρ M,J xs ρ M->ya g tb Dn ok xs ρ M)->g x ρ λρ'=>tb {Dn with nx:=ya g tb Dn ok xs,ct:=ya g tb Dn ok xs,bk:=Dn.nx} ρ' M)
  (fin:∀ρ M,J [] ρ M->Dn.nx ρ M):∀(xs:List Dt) (ρ:En) (M:Ms),J xs ρ M->ya g tb Dn ok xs ρ M
 | [],ρ,M,h=>⟨bb _ _ _ h,fin _ _ h⟩
 | x::xs,ρ,M,h=>⟨bb _ _ _ h,step x xs ρ M h λρ' M' h'=>bx J bb step fin xs ρ' M' h'⟩
section
variable{K:fI}{G:Hp}{L:List Addr}
mutual
def O9:∀(d:Dt) (v:V),Den K G L d v->d.under L.length
 | .bF,_,_=>trivial
 | .bl _,_,_=>trivial
 | .int _,_,_=>trivial
 | .str _,_,_=>trivial
 | .tup ds,_,⟨a,vs,e,h1,h2⟩=>fE ds vs h2
 | .lst ds,_,⟨a,vs,e,h1,h2⟩=>fE ds vs h2
 | .obj C ns ds,_,⟨a,dx,vs,e,h1,hl,h2⟩=>fE ds vs h2
 | .loc k,_,⟨a,e,h1⟩=>(aaf.mp h1).1
 | .ref _,_,_=>trivial
 | .ty _,_,_=>trivial
 | .jR _,_,_=>trivial
 | .kt ds,_,⟨a,vs,e,h1,h2⟩=>fE ds vs h2
 | .exc _ _ ds,_,⟨a,od,vs,e,h1,h2,h3,h4⟩=>fE ds vs h4
 | .Ux _ _ _ _ ds,_,⟨vs,e,h2,h3,h4⟩=>fE ds vs h4
def fE:∀(ds:List Dt) (vs:List V),Ψ K G L ds vs->Dt.bM L.length ds
 | [],_,_=>trivial
 | d::ds,_,⟨v,r,e,h1,h2⟩=>⟨O9 d v h1,fE ds r h2⟩
end
def Rl.un{M:Ms}{H:Hp}(r:Rl K G L M H):∀m∈M,MO.under M.length m:=λm hm=>by
 have⟨k,hk,e⟩:=abf hm;have em:M[k]? =some m:=by rw[aaa hk,e]
 have el:L[k]? =some (L[k]'(by rw[r.len];exact hk)):=aaa _;have⟨_,q⟩:=r.f_ k _ m el em;rw[<-r.len];cases m with
 | lst ds=>have⟨vs,_,h⟩:=q;exact fE _ _ h
 | ins C ns ds=>have⟨dx,vs,_,_,h⟩:=q;exact fE _ _ h
 | eW ks ds=>have⟨vs,_,_,h⟩:=q;exact fE _ _ h
 | raw u=>trivial
end
def sD(M0:Ms)(q:DQ):DQ:=λd M=>∃E d',M=M0++E/\Hu M0.length E d d'/\q d' M0
def Fin.sD{K:fI}{G0:Hp}{L0:List Addr}{M0:Ms}{H0:Hp}{q:DQ}{v:V}{H:Hp}(r0:Rl K G0 L0 M0 H0)(f:Fin K G0 L0 H0 (sD M0 q) v H):Fin K G0 L0 H0 q v H:=by have⟨d,G,L,M,ex,r,dn,E,d',e,fz,hq⟩:=f;exact Fin.yS r0 ⟨d,G,L,M,ex,r,dn,M0,E,d',e,rfl,r0.un,fz,hq⟩
def RD(t:DE):DE:=λρ M q x=>t ρ M (sD M q) x
def bK{X:Cx}{R:St->XK}{e:Expr}{t:DE}(h:JE X R e t):JE X R e (RD t):=.of h λσ H G L ρ M q x rl n ht hx=>⟨G,L,ρ,M,_,x,rl,n,ht,hx,λv H1 f=>Fin.sD rl f⟩
def NM{M0:Ms}{q:DQ}{d:Dt}(hu:d.under M0.length)(h:q d M0):sD M0 q d M0:=⟨[],d,by simp,.old hu,h⟩
def jN{M0 E:Ms}{q:DQ}{d d':Dt}(f:Hu M0.length E d d')(h:q d' M0):sD M0 q d (M0++E):=⟨E,d',rfl,f,h⟩
def gA(f:Expr->Option Dt):List Expr->Option (List Dt)
 | []=>some []
 | e::es=>match f e,gA f es with
  | some d,some ds=>some (d::ds)
  | _,_=>none
def hW:Nat->Expr->Option Dt
 | 0,e=>match e with
  | .Constant (.int i) _ _=>some (.int i)
  | .Constant (.str x) _ _=>some (.str x)
  | _=>none
 | n+1,e=>match e with
  | .Constant (.int i) _ _=>some (.int i)
  | .Constant (.str x) _ _=>some (.str x)
  | .Tuple es _ _=>if es.length<=100 then (gA (hW n) es).map .tup else none
  | .List es _=>if es.length<=100 then (gA (hW n) es).map .lst else none
  | _=>none
def CM{n:Nat}{e:Expr}{d:Dt}{es:List Expr}{env:Env}(h:hW n e=some d):starEach (e::es) env=(false,eval e env)::starEach es env:=by cases n <;> (unfold hW at h;split at h <;> first| rfl| cases h)
def ky{f:Expr->Option Dt}:∀{es:List Expr} {ds:List Dt},gA f es=some ds->ds.length=es.length
 | [],ds,h=>by cases h;rfl
 | e::es,ds,h=>by
  unfold gA at h;split at h
  ·rename_i d uD h1 h2;cases h;rw[aay,aay,ky h2]
  ·cases h
section
variable{X:Cx}{R:St->XK}
def tT{n:Nat}(ih:∀(e:Expr) (d:Dt),hW n e=some d->JE X R e (dC d)):∀(es:List Expr) (ds:List Dt),gA (hW n) es=some ds->JA X R es (λ_ M q _=>q ds M)
 | [],ds,h=>by cases h;exact θ
 | e::es,ds,h=>by
  unfold gA at h;split at h
  ·rename_i d uD h1 h2;cases h;exact ι (ih e d h1) (tT ih es uD h2) (hs:=CM h1)
  ·cases h
def ER{n:Nat}(h:n<=100):n<=sizeLine:=aas h @_
def JE.imp{e:Expr}{t t':DE}(h:JE X R e t)(hi:∀ρ M q x,t' ρ M q x->t ρ M q x):JE X R e t':=.of h λσ H G L ρ M q x rl n ht hx=>⟨G,L,ρ,M,q,x,rl,n,hi _ _ _ _ ht,hx,λ_ _ f=>f⟩
def fM:∀(n:Nat) {e:Expr} {d:Dt},hW n e=some d->JE X R e (dC d)
 | 0,e,d,h=>by
  unfold hW at h;split at h
  ·cases h;exact ψ
  ·cases h;exact jV
  ·cases h
 | n +1,e,d,h=>by
  unfold hW at h;split at h
  ·cases h;exact ψ
  ·cases h;exact jV
  ·split at h
   ·rename_i es _ _ hl;cases hc:gA (hW n) es with
    | none=>rw[hc]at h;cases h
    | some ds=>
     rw[hc]at h;cases h;exact(fR (tT (λe d=>fM n) es ds hc)).imp λρ M q x hq=>⟨ER (by rw[ky hc];exact hl),hq⟩
   ·cases h
  ·split at h
   ·rename_i es _ hl;cases hc:gA (hW n) es with
    | none=>rw[hc]at h;cases h
    | some ds=>
     rw[hc]at h;cases h;exact(ma (tT (λe d=>fM n) es ds hc)).imp λρ M q x hq=>⟨ER (by rw[ky hc];exact hl),hq⟩
   ·cases h
  ·cases h
end
def Hg:bootBuiltins "zip"=some (.type "zip"):=by decide+kernel
def Inv.LY{X:Cx}{ζ:List (Addr×Obj)}{σ:St}{H:Hp}{s:Shared}{h':Heap}{its:List Addr}{t':Nat}(I:Inv X ζ σ H s)(k:∀b u,b∉its->s.heap.get? b=some u->h'.get? b=some u)(f:∀b∈its,ui X ζ H b):
  Inv X ζ σ H {s with heap:=h',toks:=t'}:=by
 have Se:∀b u,H b=some u->b∉its:=λb u e z=>by rw[(f b z).1]at e;cases e
 refine I.call (ch:=its) (g':=s.gens) (d':=s.drawn) (t':=t') ⟨λb u q _ _ hb=>k b u hb q,λb u q _ _ hb=>⟨u.slots,k b u hb q⟩,λb u q n _=>n,λb u q hb=>⟨u,k b u hb q⟩,λb xs q=>q,λb u xs q=>q,λb ps q=>⟨#[],by rw[q];simp⟩⟩ (λb u e=>?_) I.bare λb hb=>?_
 ·refine(I.bb b u e).uF (λc v hc q=>k c v ?_ q) (λc q=>q) λc xs q=>q;rcases hc with z| z
  ·rw[z];exact Se b u e
  ·exact Se c _ z
 ·have⟨f0,f1,f2,f3,f4,f5⟩:=f b hb;exact⟨f3,f1,f4,f5⟩
def Itz(K:fI)(l1 l2:Addr):It:=
 ⟨λi H=>∃xs ys x y,gC K H l1 xs/\gC K H l2 ys/\xs[i]? =some x/\ys[i]? =some y,
  λi H v H'=>∃p x y,H p=none/\v= .ref p/\H'=upd H p (.tup [x,y])/\(∀xs,gC K H l1 xs->xs[i]? =some x)/\∀ys,gC K H l2 ys->ys[i]? =some y,
  λi H=>∃xs ys,gC K H l1 xs/\gC K H l2 ys/\(xs.length<=i\/ys.length<=i)⟩
def JO{P:Program}{w:World}{K:fI}{elts:List Expr}{x1:Nat}{tp:Pos}{l1 l2 i1 i2 TI TO z:Addr}(D:ZipApart z TI TO i1 i2 l1 l2):Turn P w K (.Tuple elts x1 tp) (Itz K l1 l2) [z,TI,TO,i1,i2] z (λi h=>(∃a b,IsZip h z TI TO .none/\IsPair h TI (.ref i1) (.ref i2)/\IsPair h TO a b)/\h.IsListIter i1 l1 i/\h.IsListIter i2 l2 i) where
 mem:=by simp
 obj:=λi h st b hb=>by
  have⟨⟨a,c,hz,Ip,Ll⟩,h1,h2⟩:=st;simp only[List.mem_cons,List.not_mem_nil,or_false]at hb;rcases hb with rfl| rfl| rfl| rfl| rfl
  ·exact⟨_,hz,λv z=>by
    have z':Data.fields _=Data.cell v:=z
    cases z'⟩
  ·exact⟨_,Ip,λv z=>by
    have z':Data.seq _=Data.cell v:=z
    cases z'⟩
  ·exact⟨_,Ll,λv z=>by
    have z':Data.seq _=Data.cell v:=z
    cases z'⟩
  ·have⟨o,e,c,d⟩:=h1;exact⟨o,e,λv z=>by rw[d]at z;cases z⟩
  ·have⟨o,e,c,d⟩:=h2;exact⟨o,e,λv z=>by rw[d]at z;cases z⟩
 keep:=λi h h' st k=>by have⟨⟨a,c,hz,Ip,Ll⟩,h1,h2⟩:=st;exact⟨⟨a,c,k z (by simp) _ hz,k TI (by simp) _ Ip,k TO (by simp) _ Ll⟩,h1.at λo q=>k i1 (by simp) o q,h2.at λo q=>k i2 (by simp) o q⟩
 item:=by
  intro X hP hw hK hc i ζ s σ H E I hf st hg;subst hP hw hK;have⟨⟨a,c,hz,Ip,Ll⟩,h1,h2⟩:=st;have⟨xs,ys,x,y,Ss,Oh,hx,hy⟩:=hg;have⟨V',WS,p1,_⟩:=I.list Ss;have⟨u1,hu1,ru1⟩:=WS.get hx;have⟨HX,Yc,p2,_⟩:=I.list Oh;have⟨u2,hu2,ru2⟩:=Yc.get hy;refine wpAny_pyNext_zip_item D hz Ip Ll h1 h2 p1.isList p2.isList (x:=u1) (y:=u2) (by simpa using hu1) (by simpa using hu2) λh' hz' WG Zh h2' hT hsz hk=>?_;refine⟨_,rfl,wpAny_letOwnedTupleGo_zip (s:={s with heap:=h'}) hz' λh3 hz3 sb=>?_⟩;have sb:Heap.SameBut z h' h3:=sb;have zlt:z < s.heap.objs.size:=aar hz;have neT:s.heap.objs.size≠z:=acI zlt;have hT3:h3.get? s.heap.objs.size=some {cls:=.type "tuple",data:=.seq #[u1,u2]}:=(sb.2 _ neT).trans hT;have lt:∀b∈[z,TI,TO,i1,i2],b < s.heap.objs.size:=λb hb=>by
   simp only[List.mem_cons,List.not_mem_nil,or_false]at hb;rcases hb with rfl| rfl| rfl| rfl| rfl
   ·exact zlt
   ·exact aar Ip
   ·exact aar Ll
   ·have⟨o,q,_⟩:=h1;exact aar q
   ·have⟨o,q,_⟩:=h2;exact aar q
  have I2:Inv X ζ σ (upd H s.heap.objs.size (.tup [x,y])) {s with heap:=h3,toks:=s.toks}:=by
   refine I.v9 (its:=[z,TI,TO,i1,i2]) (λb o hb q=>?_) hf (aai _) ?_
   ·simp only[List.mem_cons,List.not_mem_nil,or_false,not_or]at hb;have⟨b1,b2,b3,b4,b5⟩:=hb;exact(sb.2 b b1).trans (hk b o b1 b3 b4 b5 q)
   ·refine⟨by simp[sizeLine_eq],[u1,u2],.cons ru1 (.cons ru2 .nil),?_⟩;exact⟨_,hT3,rfl,0,rfl⟩
  refine⟨.ref s.heap.objs.size,_,I2,rfl,⟨s.heap.objs.size,x,y,I.bb.fresh (aai _),rfl,rfl,λzs XF=>by rw[I.gU XF Ss];exact hx,λzs XF=>by rw[I.gU XF Oh];exact hy⟩,⟨⟨u1,u2,hz3,(sb.2 _ D.TIz).trans (hk _ _ D.TIz D.TITO D.TIi1 D.TIi2 Ip),(sb.2 _ D.TOz).trans WG⟩,Zh.at λo q=>(sb.2 i1 D.i1z).trans q,h2'.at λo q=>(sb.2 i2 D.i2z).trans q⟩,λb hb=>?_⟩;rw[Θ (aaY (lt b hb))];exact(hf b hb).1
 done:=by intro X hP hw hK hc i ζ s σ H E I hf st hg;subst hP hw hK;have⟨⟨a,c,hz,Ip,Ll⟩,h1,h2⟩:=st;have⟨xs,ys,Ss,Oh,hx⟩:=hg;have⟨V',WS,p1,_⟩:=I.list Ss;have⟨HX,Yc,p2,_⟩:=I.list Oh;have Ym:=WS.length;have Gb:=Yc.length;refine wpAny_pyNext_zip_end (I.ok.hd hc) D hz Ip Ll h1 h2 p1.isList p2.isList (by rcases hx with hx| hx;(left;simp;omega);(right;simp;omega)) λh' ext=>⟨rfl,I.LY (t':=s.toks) (its:=[z,TI,TO,i1,i2]) (λb o hb q=>?_) hf⟩;simp only[List.mem_cons,List.not_mem_nil,or_false,not_or]at hb;have⟨b1,b2,b3,b4,b5⟩:=hb;exact ext b o b1 b3 b4 b5 q
 self:=λ_ _ _ _ _ st h=>by have⟨⟨a,c,hz,_,_⟩,_⟩:=st;exact wpAny_pyIter_zip hz h
def qE(xs ys:List Dt):List Dt:=(xs.zip ys).map λp=>.tup [p.1,p.2]
def IH{xs ys:List Dt}{i:Nat}{d:Dt}(h:(qE xs ys)[i]? =some d):∃x y,xs[i]? =some x/\ys[i]? =some y/\d= .tup [x,y]:=by
 unfold qE at h;rw[aal]at h;cases e:(xs.zip ys)[i]? with
 | none=>rw[e]at h;cases h
 | some p=>
  rw[e]at h;cases h;have⟨h1,h2⟩:=List.getElem?_zip_eq_some.mp e;exact⟨p.1,p.2,h1,h2,rfl⟩
def AV(xs ys:List Dt):(qE xs ys).length=min xs.length ys.length:=by unfold qE;rw[List.length_map,List.length_zip]
def Nu{K:fI}{G:Hp}{L:List Addr}{a b:Addr}{xs ys:List Dt}{ok RL:Ms->Prop}(s:Src K a xs ok G L)(s':Src K b ys RL G L):QS K (Itz K a b) (qE xs ys) (λM=>ok M/\RL M) G L where
 go:=λi G1 L1 M1 H1 d g l r k e=>by have⟨vs,hs,n⟩:=s.at_ G1 L1 M1 H1 g l r k.1;have⟨V2,VY,n'⟩:=s'.at_ G1 L1 M1 H1 g l r k.2;have⟨x,y,ex,ey,rfl⟩:=IH e;have⟨v,e1,n1⟩:=n.get ex;have⟨v',e1',n1'⟩:=n'.get ey;refine⟨⟨vs,V2,v,v',hs,VY,e1,e1'⟩,λw H' xz=>?_⟩;have⟨p,x2,y2,hp,ev,eH,hx,hy⟩:=xz;subst ev eH;have e2:=hx vs hs;rw[e1]at e2;cases e2;have e3:=hy V2 VY;rw[e1']at e3;cases e3;exact⟨_,r.RE hp,r.ML hp,rq (ds:=[x,y]) r hp ⟨_,_,rfl,n1,_,_,rfl,n1',rfl⟩⟩
 stop:=λi G1 L1 M1 H1 g l r k e=>by have⟨vs,hs,n⟩:=s.at_ G1 L1 M1 H1 g l r k.1;have⟨V2,VY,n'⟩:=s'.at_ G1 L1 M1 H1 g l r k.2;refine⟨vs,V2,hs,VY,?_⟩;rw[<-n.length,<-n'.length];rw[AV]at e;omega
def XY(t:DA):DK:=λρ M q x=>t ρ M (λds M1=>∃d d' xs ys ok RL,ds=[d,d']/\lV M1 d=some (xs,ok)/\lV M1 d'=some (ys,RL)/\q (qE xs ys) (λM=>ok M/\RL M) M1) x
def BB{X:Cx}{R:St->XK}{elts:List Expr}{x1:Nat}{tp:Pos}{a a':Expr}{t:DA}{p pos:Pos}(hm:X.mg "zip"=none)(ha:JA X R [a,a'] t)(hg:Gl X "zip":=by rfl)(hs:starEach [a,a'] X.env=(false,eval a X.env)::starEach [a'] X.env:=by rfl)(gy:(backTo pos (starEach [a'] X.env)).any (·.1)=false:=by rfl):JK X R (.Tuple elts x1 tp) (.Call (.Name "zip" p) [a,a'] [] pos) (XY t):=by
 intro ζ s σ H Q I ⟨G,L,ρ,M,q,x,rl,n,ht,hx,hQ⟩;refine Call_ (mL I hg hm Hg (PyProof.Rows.callWith_type1 (bH (ha pos ζ s σ H (NU X.K G L H _) I ⟨G,L,ρ,M,_,x,rl,n,ht,hx,λ_ _ f=>f⟩) λus s1 xz=>?_) hs gy));have⟨vs,H1,I1,rv,ds,G1,L1,M1,e1,r1,n1,d,d',xs,ys,ok,RL,ed,hl,Xr,h1⟩:=xz;subst ed;have⟨v,v',rfl,n2,n2'⟩:=gQ n1;have⟨b,ws,rfl,sq,sr,_⟩:=sA r1 n2 hl;have⟨b',ws',rfl,sq',sr',_⟩:=sA r1 n2' Xr;cases rv with
 | cons ru rv=>
  cases rv with
  | cons ru' rv=>
   cases rv;cases ru;cases ru';have⟨its,_,pl,_⟩:=I1.list sq;have⟨its',_,yQ,_⟩:=I1.list sq';have lt1:b < s1.heap.objs.size:=by have⟨o,q,_⟩:=pl.isList;exact aar q
   have lt2:b' < s1.heap.objs.size:=by have⟨o,q,_⟩:=yQ.isList;exact aar q
   refine call_zip_2 pl.isList yQ.isList λh' hz Ip Ll hi D_ hsz hk=>?_;have I2:Inv X ζ σ H1 {s1 with heap:=h'}:=I1.kept (t':=s1.toks) hk;have D:ZipApart (s1.heap.objs.size+4) (s1.heap.objs.size+2) (s1.heap.objs.size+3) s1.heap.objs.size (s1.heap.objs.size+1) b b':=by have ne:∀i j:Nat,i≠j->s1.heap.objs.size+i≠s1.heap.objs.size+j:=λi j h z=>h (Nat.add_left_cancel z);have n1:∀i:Nat,b≠s1.heap.objs.size+i:=λi=>aaY (aau lt1 (abM _ _));have n2:∀i:Nat,b'≠s1.heap.objs.size+i:=λi=>aaY (aau lt2 (abM _ _));exact⟨ne 2 4 @_,ne 3 4 @_,ne 0 4 @_,ne 1 4 @_,ne 2 3 @_,ne 2 0 @_,ne 2 1 @_,ne 3 0 @_,ne 3 1 @_,ne 0 1 @_,n1 4,n1 3,n1 0,n1 1,n2 4,n2 3,n2 0,n2 1⟩
   refine wpAny_pyIter_zip (s:={s1 with heap:=h'}) hz ⟨s1.heap.objs.size+4,[s1.heap.objs.size+4,s1.heap.objs.size+2,s1.heap.objs.size+3,s1.heap.objs.size,s1.heap.objs.size+1],_,_,H1,rfl,I2,JO D,⟨⟨_,_,hz,Ip,Ll⟩,hi,D_⟩,λc hc=>?_,hQ _ _ ⟨_,_,G1,L1,M1,e1,r1,Nu sr sr',h1⟩⟩;have hc:s1.heap.objs.size<=c:=by
    simp only[List.mem_cons,List.not_mem_nil,or_false]at hc;rcases hc with rfl| rfl| rfl| rfl| rfl
    ·exact abM _ _
    ·exact abM _ _
    ·exact abM _ _
    ·exact aai _
    ·exact abM _ _
   have f:=I1.C2 (H':=H1) hc (I1.bb.fresh hc);exact f
section
variable{X:Cx}{R:St->XK}{elt iter c:Expr}{x y:Str}{px py tp:Pos}{scope:Scope}{pos:Pos}{ti:DK}{tc:DT}{te:DE}{ys:List Str}{Ω:List Nat}{kk:Nat}
def Kk(S:Φ X scope [x] ys Ω)(hi:JK X R (.Name x px) iter ti)(ht:∀C s H fp,JT (Cx.comp X (x::ys) scope C s H fp) (λ_=>E0) c tc)(he:∀C s H fp,JE (Cx.comp X (x::ys) scope C s H fp) (λ_=>E0) elt te)(hc:X.calm=true:=by rfl)(hs:∀x,foldedSetIterable iter X.env x=pure x:=by intro _;rfl):JE X R (.ListComp elt [⟨.Name x px,iter,[c],0⟩] scope pos) (CK 1 ti (gN 0) tc te Ω):=Uk false S hi (i9 S (i:=0) rfl) aG (jE (Nat.zero_lt_succ 0)) (λC s H fp=>E5 (ht C s H fp)) he hc hs λ_ _ _ _ h=>h
def HD(S:Φ X scope [x,y] ys Ω)(hi:JK X R (.Tuple [.Name x px,.Name y py] kk tp) iter ti)(ht:∀C s H fp,JT (Cx.comp X (x::y::ys) scope C s H fp) (λ_=>E0) c tc)(he:∀C s H fp,JE (Cx.comp X (x::y::ys) scope C s H fp) (λ_=>E0) elt te)(hc:X.calm=true:=by rfl)(hs:∀x,foldedSetIterable iter X.env x=pure x:=by intro _;rfl):JE X R (.ListComp elt [⟨.Tuple [.Name x px,.Name y py] kk tp,iter,[c],0⟩] scope pos) (CK 2 ti (g2 0 1) tc te Ω):=Uk false S hi (E6 hc S) oO (vt (Nat.zero_lt_succ 1) (abv 1)) (λC s H fp=>E5 (ht C s H fp)) he hc hs λ_ _ _ _ h=>h
end
def gu{g:Dt->En->(En->Prop)->Prop}{tc:DT}{te:DE}{ρ0:En}{ok:Ms->Prop}{M:Ms}{k:List Dt->Ms->Prop}(ho:ok M)(b:Dt->Bool)(f:Dt->Dt):∀(xs Η:List Dt),(∀x∈xs,∀(q:DQ) (p:Ms->Prop),(b x=true->q (f x) M)->(b x=false->p M)->g x ρ0 λρ'=>tc ρ' M (λb' M1=>match b' with| true=>te ρ' M1 q lT| false=>p M1) lT)->
  k (Η++(xs.filter b).map f) M->iL g tc te ρ0 ok xs Η M k
 | [],Η,_,h=>⟨ho,by simpa using h⟩
 | x::xs,Η,ht,h=>⟨ho,ht x List.mem_cons_self _ _ (λhb=>gu ho b f xs _ (λy hy=>ht y (List.mem_cons_of_mem _ hy)) (by simpa [hb] using h)) λhb=>gu ho b f xs _ (λy hy=>ht y (List.mem_cons_of_mem _ hy)) (by simpa [hb] using h)⟩
def GJ(xs:List V)(k:Nat):vh xs (some (k:Int)) none=xs.drop k:=by
 unfold vh;rw[HT.rf,HT.A0];by_cases h:k<=xs.length
 ·rw[acy h,abD (by rw[abL];omega)]
 ·rw[Nat.min_eq_right (),List.drop_eq_nil_of_le (Nat.le_refl _),List.drop_eq_nil_of_le ()];simp
section
variable{κ:Type} [DecidableEq κ]
def jZ(Ν:List (κ×V))(k:κ):Option V:=(Ν.find? λkv=>decide (kv.1=k)).map (·.2)
def iI(Ν:List (κ×V))(k:κ)(v:V):List (κ×V):=
 if (Ν.any λkv=>decide (kv.1=k))=true then Ν.map (λkv=>if kv.1=k then (kv.1,v) else kv) else Ν++[(k,v)]
def eY{p:κ×V}{r:List (κ×V)}{k:κ}(e:p.1=k):jZ (p::r) k=some p.2:=by simp[jZ,List.find?_cons,e]
def e_{p:κ×V}{r:List (κ×V)}{k:κ}(e:¬p.1=k):jZ (p::r) k=jZ r k:=by simp[jZ,List.find?_cons,e]
def nV(k:κ):∀Ν:List (κ×V),(Ν.any λkv=>decide (kv.1=k))=(jZ Ν k).isSome
 | []=>rfl
 | p::r=>by
  rw[ab2];by_cases e:p.1=k
  ·simp only[eY e,decide_eq_true e,Bool.true_or,Option.isSome_some]
  ·rw[e_ e,aaG e,Bool.false_or];exact nV k r
def vI(k j:κ)(y:V):∀Ν:List (κ×V),jZ Ν k=none->jZ (Ν++[(k,y)]) j=if j=k then some y else jZ Ν j
 | [],_=>by
  by_cases e:k=j
  ·rw[aaw e.symm];exact eY (p:=(k,y)) e
  ·rw[aav (λz=>e z.symm)];exact e_ (p:=(k,y)) e
 | p::r,hn=>by
  rw[List.cons_append];have hk:¬p.1=k:=λz=>by rw[eY z]at hn;cases hn
  rw[e_ hk]at hn;have ih:=vI k j y r hn;by_cases e:p.1=j
  ·rw[eY e,eY e,aav (λz=>hk (e.trans z))]
  ·rw[e_ e,e_ e,ih]
def lh(Ν:List (κ×V))(k:κ)(v:V):(iI Ν k v).length<=Ν.length+1:=by
 unfold iI;split
 ·rw[aac];omega
 ·rw[aag,aay,acz];omega
def IC{Ν:List (κ×V)}{k:κ}(v:V)(h:jZ Ν k=none):iI Ν k v=Ν++[(k,v)]:=by unfold iI;rw[nV,h];exact aav @_
def kI.iR{o:Option V}{u:Option Value}(r:kI o u):o.isSome=u.isSome:=by
 cases o with
 | none=>cases u with
  | none=>rfl
  | some _=>exact(show False from r).elim
 | some _=>cases u with
  | none=>exact(show False from r).elim
  | some _=>rfl
def KV.val{Ν:List (κ×V)}{vs:List (κ×Value)}(r:KV Ν vs)(k:κ):kI (jZ Ν k) (valueAt vs k):=by
 unfold KV at r
 induction r with
 | nil=>exact True.intro
 | @cons p q ps qs h t ih=>
  have⟨h1,h2⟩:=h;by_cases e:p.1=k
  ·have e':q.1=k:=h1.symm.trans e;have b:valueAt (q::qs) k=some q.2:=by simp[valueAt,List.find?_cons,e']
   rw[eY e,b];exact h2
  ·have e':¬q.1=k:=λz=>e (h1.trans z);have b:valueAt (q::qs) k=valueAt qs k:=by simp[valueAt,List.find?_cons,e']
   rw[e_ e,b];exact ih
def KV.any{Ν:List (κ×V)}{vs:List (κ×Value)}(r:KV Ν vs)(k:κ):(Ν.any λkv=>decide (kv.1=k))=vs.any λkv=>decide (kv.1=k):=by
 unfold KV at r
 induction r with
 | nil=>rfl
 | cons h t ih=>rw[ab2,ab2,ih,h.1]
def KV.Qs{Ν:List (κ×V)}{vs:List (κ×Value)}(r:KV Ν vs)(k:κ){y:V}{u:Value}(ry:aF y u):
  KV (Ν.map λkv=>if kv.1=k then (kv.1,y) else kv) (vs.map λkv=>if kv.1=k then (kv.1,u) else kv):=by
 unfold KV at r⊢
 induction r with
 | nil=>exact .nil
 | @cons p q ps qs h t ih=>
  rw[aaM,aaM];refine .cons ?_ ih;have⟨h1,h2⟩:=h;by_cases e:p.1=k
  ·rw[aaw e,aaw (h1.symm.trans e)];exact⟨h1,ry⟩
  ·rw[aav e,aav (λz=>e (h1.trans z))];exact⟨h1,h2⟩
def KV.put{Ν:List (κ×V)}{vs:List (κ×Value)}(r:KV Ν vs)(k:κ){y:V}{u:Value}(ry:aF y u):KV (iI Ν k y) (stored vs k u):=by
 unfold iI stored;rw[r.any k];by_cases e:(vs.any λkv=>decide (kv.1=k))=true
 ·rw[aaw e,aaw e];exact r.Qs k ry
 ·rw[aav e,aav e];exact Paired.snoc r ⟨rfl,ry⟩
def KV.length{Ν:List (κ×V)}{vs:List (κ×Value)}(r:KV Ν vs):Ν.length=vs.length:=Paired.length r
end
def si{P:Program}{w:World}{k:Key}{u:Value}(r:aF (kV k) u):(bI P w).is k u=true:=by
 cases k with
 | inl i=>have⟨t,e⟩:=(show∃t,u=Value.int i t from r);subst e;exact zR P w i t
 | inr x=>have⟨t,e⟩:=(show∃t,u=Value.str x t from r);subst e;exact A9 P w x t
def vG{P:Program}{w:World}:∀{ks:List Key} {us:List Value},aC (ks.map kV) us->ItemsAre (bI P w) ks us
 | [],_,r=>by rw[acJ]at r;cases r;exact .nil
 | k::ks,_,r=>by
  rw[aaM]at r;cases r with
  | cons h t=>exact .cons (si h) (vG t)
abbrev KT(H:Hp):List (List Key×V)->List (List Key×Addr×Value)->Prop:=Paired λp q=>p.1=q.1/\H q.2.1=some (.tup (p.1.map kV))/\aF p.2 q.2.2
def KT.val{H:Hp}{Ν:List (List Key×V)}{xs:List (List Key×Addr×Value)}(r:KT H Ν xs)(k:List Key):kI (jZ Ν k) ((atKey xs k).map (·.2)):=by
 induction r with
 | nil=>exact True.intro
 | @cons p q ps qs h t ih=>
  have⟨h1,_,h2⟩:=h;by_cases e:p.1=k
  ·have e':q.1=k:=h1.symm.trans e;have b:atKey (q::qs) k=some q.2:=by simp[atKey,List.find?_cons,e']
   rw[eY e,b];exact h2
  ·have e':¬q.1=k:=λz=>e (h1.trans z);have b:atKey (q::qs) k=atKey qs k:=by simp[atKey,List.find?_cons,e']
   rw[e_ e,b];exact ih
def KT.Qs{H:Hp}{Ν:List (List Key×V)}{xs:List (List Key×Addr×Value)}(r:KT H Ν xs)(k:List Key){y:V}{u:Value}(ry:aF y u):
  KT H (Ν.map λkv=>if kv.1=k then (kv.1,y) else kv) (xs.map (putAt k u)):=by
 induction r with
 | nil=>exact .nil
 | @cons p q ps qs h t ih=>
  rw[aaM,aaM];refine .cons ?_ ih;have⟨h1,h2,h3⟩:=h;unfold putAt;by_cases e:p.1=k
  ·rw[aaw e,aaw (h1.symm.trans e)];exact⟨h1,h2,ry⟩
  ·rw[aav e,aav (λz=>e (h1.trans z))];exact⟨h1,h2,h3⟩
def KT.put{H:Hp}{Ν:List (List Key×V)}{xs:List (List Key×Addr×Value)}(r:KT H Ν xs)(k:List Key){b:Addr}{y:V}{u:Value}(hb:H b=some (.tup (k.map kV)))(ry:aF y u):
  KT H (iI Ν k y) (storedH xs k b u):=by
 have e:(Ν.any λkv=>decide (kv.1=k))=(atKey xs k).isSome:=by rw[nV,(r.val k).iR,Option.isSome_map]
 unfold iI storedH;rw[e];by_cases q:(atKey xs k).isSome=true
 ·rw[aaw q,aaw q];exact r.Qs k ry
 ·rw[aav q,aav q];exact Paired.snoc r ⟨rfl,hb,ry⟩
def KT.keeps{H H':Hp}{Ν:List (List Key×V)}{xs:List (List Key×Addr×Value)}(r:KT H Ν xs)(ht:∀b ys,H b=some (.tup ys)->H' b=some (.tup ys)):KT H' Ν xs:=
 Paired.Pc r λ_ _ z=>⟨z.1,ht _ _ z.2.1,z.2.2⟩
section
variable{P:Program}{w:World}{H:Hp}{h:Heap}{a:Addr}
def N0{u:HO}(ok:lR P w H h)(e:Rd H a u):b8 P w H h a u:=e.ok ok
def nK{Ν:List (Key×V)}(ok:lR P w H h)(e:Rd H a (.dK Ν)):Ν.length<=sizeLine/\(a==sysModules)=false/\∃vs,KV Ν vs/\h.DictOf (bI P w) a vs:=
 show b8 P w H h a (.dK Ν) from N0 ok e
def Dz{Ν:List (Key×V)}(ok:lR P w H h)(e:H a=some (.dK Ν)):Ν.length<=sizeLine/\(a==sysModules)=false/\∃vs,KV Ν vs/\h.DictOf (bI P w) a vs:=nK ok (.inl e)
def sR{ks:List Key}(ok:lR P w H h)(e:H a=some (.tup (ks.map kV))):(tupleKind (bI P w)).is h ks a:=by have⟨_,its,r,o,h1,h2,n,h3⟩:=(show b8 P w H h a (.tup (ks.map kV)) from ok a _ e);exact⟨o,its.toArray,n,h1,h2,h3,by simpa using vG r⟩
def wb{Ν:List (List Key×V)}(ok:lR P w H h)(e:Rd H a (.dT Ν)):Ν.length<=sizeLine/\(a==sysModules)=false/\
  ∃xs,KT H Ν xs/\h.DictOfH (tupleKind (bI P w)) a xs:=by
 have⟨z,y,xs,r,o,es,ep,h1,h2,h3,h4,h5⟩:=(show b8 P w H h a (.dT Ν) from N0 ok e);refine⟨z,y,xs,r,o,es,ep,h1,h2,h3,h4,λx hx=>?_,h5⟩;have all:∀{l:List (List Key×V)} {m:List (List Key×Addr×Value)},KT H l m->∀x∈m,(tupleKind (bI P w)).is h x.1 x.2.1:=by
  intro l m q
  induction q with
  | nil=>intro x hx;exact nomatch hx
  | @cons p q ps qs hq t ih=>
   intro x hx;rcases aaC.mp hx with e| hx
   ·subst e;exact sR ok (by rw[<-hq.1];exact hq.2.1)
   ·exact ih x hx
 exact all r x hx
def UC{Ν:List (List Key×V)}(ok:lR P w H h)(e:H a=some (.dT Ν)):Ν.length<=sizeLine/\(a==sysModules)=false/\
  ∃xs,KT H Ν xs/\h.DictOfH (tupleKind (bI P w)) a xs:=wb ok (.inl e)
end
def xq(H:Hp)(a:Addr)(y:V)(r:Option V):Prop:=
 (∃Ν k,Rd H a (.dK Ν)/\y=kV k/\r=jZ Ν k)\/∃Ν k b,Rd H a (.dT Ν)/\y= .ref b/\H b=some (.tup (k.map kV))/\r=jZ Ν k
def Kl(H:Hp)(a:Addr)(y v:V)(H':Hp):Prop:=
 (∃Ν k,H a=some (.dK Ν)/\y=kV k/\Ν.length < sizeLine/\H'=upd H a (.dK (iI Ν k v)))\/
 ∃Ν k b,H a=some (.dT Ν)/\y= .ref b/\H b=some (.tup (k.map kV))/\Ν.length < sizeLine/\H'=upd H a (.dT (iI Ν k v))
def Kl.k{H:Hp}{a:Addr}{Ν:List (Key×V)}{k:Key}{v:V}(e:H a=some (.dK Ν))(hl:Ν.length < sizeLine):Kl H a (kV k) v (upd H a (.dK (iI Ν k v))):=.inl ⟨Ν,k,e,rfl,hl,rfl⟩
section
variable{X:Cx}{ζ:List (Addr×Obj)}{σ:St}{H:Hp}{s:Shared}{a:Addr}{y v:V}{u r:Value}{o:Option V}{A:Around}{E:Value->Shared->Prop}
def Inv.big(I:Inv X ζ σ H s):sysModules < s.heap.objs.size:=by have h:mainGlobals < s.heap.objs.size:=(I.mod.glob.keeps I.bk).lt;exact Nat.lt_trans @_ h
def GS{Q:Value->Shared->Prop}(hu:A.units+1 < cLine)(I:Inv X ζ σ H s)(g:xq H a y (some v))(ry:aF y u)(h:∀w' s',Inv X ζ σ H s'->aF v w'->Q w' s'):
  wpAny (model X.prog X.w) A (getItem (.ref a) u) Q E s:=by
 rcases g with ⟨Ν,k,e,ey,l⟩| ⟨Ν,k,b,e,ey,eb,l⟩
 ·subst ey;have⟨z,hd,vs,rel,dd⟩:=nK I.bb e;have⟨w',hw,Fm⟩:=kI.some_of (v:=v) (o:=valueAt vs k) (by rw[l];exact rel.val k);exact wpAny_getItem_of (si ry) dd.mapOf hw (h w' _ (I.tok _) Fm)
 ·subst ey;cases(show u=Value.ref b from ry);have⟨z,hd,xs,rel,dd⟩:=wb I.bb e;have⟨w',hw,Fm⟩:=kI.some_of (v:=v) (o:=(atKey xs k).map (·.2)) (by rw[l];exact rel.val k);have⟨p,hp,Tv⟩:=ab8.mp hw;refine wpAny_getItem_heap (tupleKind_room_in1 hu) (sR I.bb eb) dd hp ?_;rw[Tv];exact h w' _ (I.tok _) Fm
def ZE{Q:Value->Shared->Prop}(hu:A.units+1 < cLine)(I:Inv X ζ σ H s)(g:xq H a y o)(ry:aF y u)(h:∀s',Inv X ζ σ H s'->Q (.bool o.isSome) s'):
  wpAny (model X.prog X.w) A (compareOp .In u (.ref a)) Q E s:=by
 rcases g with ⟨Ν,k,e,ey,l⟩| ⟨Ν,k,b,e,ey,eb,l⟩
 ·subst ey;have⟨z,hd,vs,rel,dd⟩:=nK I.bb e;refine wpAny_in_of (si ry) hd dd.mapOf ?_;rw[<-(rel.val k).iR,<-l];exact h _ (I.tok _)
 ·subst ey;cases(show u=Value.ref b from ry);have⟨z,hd,xs,rel,dd⟩:=wb I.bb e;refine wpAny_in_heap (tupleKind_room_in1 hu) (sR I.bb eb) hd dd ?_;have q:=(rel.val k).iR;rw[Option.isSome_map]at q;rw[<-q,<-l];exact h _ (I.tok _)
def LS{Q:Value->Shared->Prop}(hu:A.units+1 < cLine)(I:Inv X ζ σ H s)(g:xq H a y o)(ry:aF y u)(h:∀s',Inv X ζ σ H s'->Q (.bool (!o.isSome)) s'):
  wpAny (model X.prog X.w) A (compareOp .NotIn u (.ref a)) Q E s:=by
 rcases g with ⟨Ν,k,e,ey,l⟩| ⟨Ν,k,b,e,ey,eb,l⟩
 ·subst ey;have⟨z,hd,vs,rel,dd⟩:=nK I.bb e;refine wpAny_notIn_of (si ry) hd dd.mapOf ?_;rw[<-(rel.val k).iR,<-l];exact h _ (I.tok _)
 ·subst ey;cases(show u=Value.ref b from ry);have⟨z,hd,xs,rel,dd⟩:=wb I.bb e;refine wpAny_notIn_heap (tupleKind_room_in1 hu) (sR I.bb eb) hd dd ?_;have q:=(rel.val k).iR;rw[Option.isSome_map]at q;rw[<-q,<-l];exact h _ (I.tok _)
def qP{h':Heap}{t':Nat}{ob:HO}(I:Inv X ζ σ H s)(mu:RM (H a))(hs:Heap.SameBut a s.heap h')(he:∃q,h'.get? a=some q)(new:b8 X.prog X.w (upd H a ob) h' a ob):
  Inv X ζ σ (upd H a ob) {s with heap:=h',toks:=t'}:=
 I.write (x:=a) (e:=a) mu (.inl rfl) (λb q hb z=>(hs.2 b hb).trans z) he new
def rO{P:Program}{w:World}{H':Hp}{h':Heap}{Ν:List (Key×V)}{vs:List (Key×Value)}(z:Ν.length<=sizeLine)(hd:(a==sysModules)=false)(rel:KV Ν vs)(dd:h'.DictOf (bI P w) a vs):
  b8 P w H' h' a (.dK Ν):=⟨z,hd,vs,rel,dd⟩
def FJ{H':Hp}{Q:Unit->Shared->Prop}(hu:A.units+1 < cLine)(I:Inv X ζ σ H s)(g:Kl H a y v H')(ry:aF y u)(rv:aF v r)(h:∀s',Inv X ζ σ H' s'->Q Unit.unit s'):
  wpAny (model X.prog X.w) A (setItem (.ref a) u r) Q E s:=by
 rcases g with ⟨Ν,k,e,ey,l,eH⟩| ⟨Ν,k,b,e,ey,eb,l,eH⟩
 ·subst ey eH;have⟨z,hd,vs,rel,dd⟩:=Dz I.bb e;have hz:vs.length<=sizeLine:=by rw[<-rel.length];exact z
  have hl:(iI Ν k v).length<=sizeLine:=by have:=lh Ν k v;omega
  refine wpAny_setItem_pairs (hsz:=hz) (si ry) dd λh' NB hs=>h _ ?_;have he:∃q,h'.get? a=some q:=let ⟨q,_,_,hq,_⟩:=NB;⟨q,hq⟩
  exact qP I (by rw[e];exact True.intro) hs he (rO hl hd (rel.put k rv) NB)
 ·subst ey eH;cases(show u=Value.ref b from ry);have⟨z,hd,xs,rel,dd⟩:=UC I.bb e;have hz:xs.length<=sizeLine:=by rw[<-Paired.length rel];exact z
  have hl:(iI Ν k v).length<=sizeLine:=by have:=lh Ν k v;omega
  refine wpAny_setItem_heap (hsz:=hz) (tupleKind_room_in1 hu) (sR I.bb eb) dd λh' NB hs=>h _ ?_;have⟨q,es,ep,hq,h2,h3,h4,_,h5⟩:=NB;refine qP I (by rw[e];exact True.intro) hs ⟨q,hq⟩ ⟨hl,hd,_,(rel.put k eb rv).keeps λc ys ec=>?_,q,es,ep,hq,h2,h3,h4,h5⟩;rw[Θ (TC ec e (λz=>nomatch z))];exact ec
end
section
variable{X:Cx}{ζ:List (Addr×Obj)}{σ:St}{H:Hp}{s:Shared}{a:Addr}{Ν:List (Key×V)}{k:Key}{u:Value}{A:Around}{E:Value->Shared->Prop}
def U4{Q:Value->Shared->Prop}(I:Inv X ζ σ H s)(e:Rd H a (.dK Ν))(h:∀t s',Inv X ζ σ H s'->Q (.int Ν.length t) s'):wpAny (model X.prog X.w) A (call (.builtin "len") [.ref a]) Q E s:=by have⟨z,hd,vs,rel,dd⟩:=nK I.bb e;refine call_len_dict hd dd (by rw[<-rel.length];rw[sizeLine_eq]at z;omega) ?_;rw[<-rel.length];exact h _ _ (I.tok _)
end
def CF(i:Expr):Prop:=∀ov iv,subscripted i false ov iv=operate [ov,iv] (getItem ov iv)
def xE{prog:Program}{w:World}{A:Around}{E:Value->Shared->Prop}{s:Shared}{env:Env}{value slice:Expr}{pos:Pos}{T id:String}{Q:Value->Shared->Prop}
  (hl:typeLookup (.type T) "__getitem__"=pure (some (.builtin id))) (hs:CF slice)
  (h:wpAny (model prog w) A (eval value env) (λo s₁=>wpAny (model prog w) A (eval slice env) (λi s₂=>s₂.TypeIs o T/\wpAny (model prog w) A (getItem o i) Q E s₂) E s₁) E s):
  wpAny (model prog w) A (eval (.Subscript value slice pos) env) Q E s:=by
 refine Subscript_ (acd h (λo s₁ h₁=>acd h₁ (λi s₂ h₂=>?_) λ_ _ x=>x) λ_ _ x=>x);have⟨hT,h₂⟩:=h₂;unfold subscriptTail;refine aaH ?_;rw[getitemInPython_of_ne hT.not_modules];refine aaH (wpAny_specialOf hT hl ?_);have fin:wpAny (model prog w) A (subscripted slice false o i) (λr s₃=>wpAny (model prog w) A (letTemporaryGo value o r >>= λ_=>pure r) Q E s₃) E s₂:=by rw[hs o i];exact wpAny_operating (acd h₂ (λr s₃ h₃=>aaH (wpAny_letTemporaryGo (aba h₃))) λ_ _ x=>x)
 first
  | exact aba (aaH fin)
  | exact aaH (aba (aaH fin))
  | exact aaH fin
def Aw{X:Cx}{ζ:List (Addr×Obj)}{σ:St}{H:Hp}{s:Shared}{a:Addr}{y:V}{o:Option V}(I:Inv X ζ σ H s)(g:xq H a y o):s.TypeIs (.ref a) "dict":=by
 rcases g with ⟨Ν,k,e,_,_⟩| ⟨Ν,k,b,e,_,_,_⟩
 ·have⟨_,_,vs,_,dd⟩:=nK I.bb e;exact dd.typeIs
 ·have⟨_,_,xs,_,dd⟩:=wb I.bb e;exact dd.typeIs
def U6(td ty:TE):TE:=λσ H Q=>td σ H λx H1=>ty σ H1 λy H2=>∃a v,x= .ref a/\xq H2 a y (some v)/\Q v H2
def T1(td ty tv:TE):TS:=λD σ H=>tv σ H λv H1=>td σ H1 λx H2=>ty σ H2 λy H3=>∃a H4,x= .ref a/\Kl H3 a y v H4/\D.nx σ H4
section
variable{X:Cx}{o i e value:Expr}{pos pos' uI:Pos}{td ty tv:TE}
def LC(hu:X.A.units+1 < cLine)(ho:PE X o td)(hi:PE X i ty)(hs:CF i):PE X (.Subscript o i pos) (U6 td ty):=by intro ζ s σ H Q I h;refine xE aci.lookup hs (bH (ho ζ s σ H _ I h) fun u s1 ⟨x,H1,I1,rx,q1⟩=>bH (hi ζ s1 σ H1 _ I1 q1) λiv s2 xz=>?_);have⟨y,H2,I2,ry,a,v,ex,g,q2⟩:=xz;subst ex;obtain rfl:u=Value.ref a:=rx;exact⟨Aw I2 g,GS hu I2 g ry λw' s3 I3 Fm=>⟨v,H2,I3,Fm,q2⟩⟩
def L8(hu:X.A.units+1 < cLine)(ho:PE X o td)(hi:PE X i ty)(hv:PE X value tv)(hs:swapsWith value (some (.Subscript o i pos')) pos.line X.env=pure false):
  PS X (.Assign [.Subscript o i pos'] value pos) (T1 td ty tv):=by
 intro ζ s σ H D I h;refine wpAny_Assign_Subscript (bH (hv ζ s σ H _ I h) fun r s1 ⟨v,H1,I1,rv,q1⟩=>bH (ho ζ s1 σ H1 _ I1 q1) fun u s2 ⟨x,H2,I2,rx,q2⟩=>bH (hi ζ s2 σ H2 _ I2 q2) λiv s3 xz=>?_) hs;have⟨y,H3,I3,ry,a,H4,ex,g,q3⟩:=xz;subst ex;obtain rfl:u=Value.ref a:=rx;exact FJ hu I3 g ry rv λs4 I4=>⟨σ,H4,I4,q3⟩
end
def AR{P:Program}{w:World}{H:Hp}(h:Heap)(hb:sysModules < h.objs.size):b8 P w H (h.push {cls:=.type "dict",data:=.dict #[]}) h.objs.size (.dK []):=
 ⟨ab9 _,beq_eq_false_iff_ne.mpr (Ne.symm (aaY hb)),[],.nil,Heap.DictOf.new h⟩
def Qz:TE:=λ_ H Q=>∀p,H p=none->Q (.ref p) (upd H p (.dK []))
section
variable{X:Cx}{pos:Pos}
def KQ:PE X (.Dict [] [] pos) Qz:=λζ s σ H Q I h=>
 wpAny_Dict_empty ⟨.ref s.heap.objs.size,_,I.laid (a:=s.heap.objs.size) (o:=.dK []) (t':=s.toks) (λ_ _ q=>aak _ q) (aai _) (AR s.heap I.big),rfl,h _ (I.bb.fresh (aai _))⟩
end
def Bk:List (TE×TE)->St->Hp->(List (V×V)->Hp->Prop)->Prop
 | [],_,H,Q=>Q [] H
 | (tk,tv)::r,σ,H,Q=>tk σ H λx H1=>tv σ H1 λy H2=>Bk r σ H2 λps H3=>Q ((x,y)::ps) H3
abbrev VV:List (V×V)->List (Value×Value)->Prop:=Paired λp q=>aF p.1 q.1/\aF p.2 q.2
def V6(X:Cx)(pos:Pos)(keys:List (Option Expr))(values:List Expr)(L_:List (TE×TE)):Prop:=
 ∀(ζ:List (Addr×Obj)) (s:Shared) (σ:St) (H:Hp) (Q:List (V×V)->Hp->Prop),Inv X ζ σ H s->Bk L_ σ H Q->
  wpAny (model X.prog X.w) X.A (evalPairs (pairTrees keys values X.env pos)) (λvs s'=>∃ps H',Inv X ζ σ H' s'/\VV ps vs/\Q ps H') X.xe s
def Ej{X:Cx}{pos:Pos}:V6 X pos [] [] []:=λζ s σ H Q I h=>pairTrees_nil_walk ⟨[],H,I,.nil,h⟩
def sZ{X:Cx}{pos:Pos}{k v:Expr}{ks:List (Option Expr)}{vs:List Expr}{tk tv:TE}{L_:List (TE×TE)}(hk:PE X k tk)(hv:PE X v tv)(hr:V6 X pos ks vs L_):
  V6 X pos (some k::ks) (v::vs) ((tk,tv)::L_):=λζ s σ H Q I h=>
 pairTrees_cons_walk (bH (hk ζ s σ H _ I h) fun u s1 ⟨x,H1,I1,rx,q1⟩=>bH (hv ζ s1 σ H1 _ I1 q1) fun w2 s2 ⟨y,H2,I2,ry,q2⟩=>
  bH (hr ζ s2 σ H2 _ I2 q2) λws s3 ⟨ps,H3,I3,rel,q3⟩=>⟨(x,y)::ps,H3,I3,.cons ⟨rx,ry⟩ rel,q3⟩)
def iu(Ν more:List (Key×V)):List (Key×V):=more.foldl (λΗ kv=>iI Η kv.1 kv.2) Ν
def KV.merge:∀{more:List (Key×V)} {rs:List (Key×Value)} {Ν:List (Key×V)} {vs:List (Key×Value)},KV more rs->KV Ν vs->KV (iu Ν more) (merged vs rs):=by
 intro more rs Ν vs r;unfold KV at r
 induction r generalizing Ν vs with
 | nil=>intro q;exact q
 | @cons p q ps qs h t ih=>
  intro r0;have e:KV (iI Ν p.1 p.2) (stored vs q.1 q.2):=by have:=r0.put p.1 h.2;rw[<-h.1];exact this
  exact ih e
def iE:∀(more Ν:List (Key×V)),(iu Ν more).length<=Ν.length+more.length
 | [],Ν=>by show Ν.length<=Ν.length+0;omega
 | p::r,Ν=>by have h1:=iE r (iI Ν p.1 p.2);have h2:=lh Ν p.1 p.2;show(iu (iI Ν p.1 p.2) r).length<=_;rw[aay];omega
def rL{P:Program}{w:World}:∀{Ν:List (Key×V)} {ws:List (Value×Value)},VV (Ν.map λkv=>(kV kv.1,kv.2)) ws->∃rs,Carries (bI P w) ws rs/\KV Ν rs
 | [],_,r=>by rw[acJ]at r;cases r;exact⟨[],True.intro,.nil⟩
 | p::Ν,_,r=>by
  rw[aaM]at r;cases r with
  | @cons a b as bs h t=>
   have⟨rs,c,q⟩:=rL (P:=P) (w:=w) t;have⟨b1,b2⟩:=b;exact⟨(p.1,b2)::rs,⟨si h.1,rfl,c⟩,.cons ⟨rfl,h.2⟩ q⟩
def TU(L_:List (TE×TE)):TE:=λσ H Q=>∀p,H p=none->Bk L_ σ (upd H p (.dK [])) λps H2=>H2 p=some (.dK [])/\∃Ν:List (Key×V),ps=Ν.map (λkv=>(kV kv.1,kv.2))/\Ν.length<=15/\Q (.ref p) (upd H2 p (.dK (iu [] Ν)))
def EV{X:Cx}{pos:Pos}{keys:List (Option Expr)}{values:List Expr}{L_:List (TE×TE)}(h:V6 X pos keys values L_)(OO:keys.all (·.isSome)=true)(hl:keys.length=values.length)(h0:keys≠[])
  (h15:keys.length<=15):PE X (.Dict keys values pos) (TU L_):=by
 intro ζ s σ H Q I q;have hn:=I.bb.fresh (aai s.heap.objs.size);have I1:=I.laid (a:=s.heap.objs.size) (o:=.dK []) (h':=s.heap.push {cls:=.type "dict",data:=.dict #[]}) (t':=s.toks) (λ_ _ q=>aak _ q) (aai _) (AR s.heap I.big);refine wpAny_Dict_walk (knd:=bI X.prog X.w) OO hl h0 h15 (bH (h ζ _ σ _ _ I1 (q _ hn)) λws s2 xz=>?_);have⟨ps,H2,I2,rel,e,Ν,ep,lk,q2⟩:=xz;subst ep;have⟨rs,c,rk⟩:=rL (P:=X.prog) (w:=X.w) rel;have⟨z,hd,vs0,r0,dd⟩:=Dz I2.bb e;cases r0;refine⟨rs,c,dd,λh' NB hs=>⟨.ref s.heap.objs.size,_,?_,rfl,q2⟩⟩;have hz:(iu [] Ν).length<=sizeLine:=by have h1:=iE Ν [];rw[acz]at h1;rw[sizeLine_eq];omega
 have he:∃q,h'.get? s.heap.objs.size=some q:=let ⟨q,_,_,hq,_⟩:=NB;⟨q,hq⟩
 exact qP I2 (by rw[e];exact True.intro) hs he (rO hz hd (rk.merge .nil) NB)
structure M1(X:Cx)(o:Expr)(m:Str)(apos:Pos)(e:Expr)(cZ:Pos):Prop where
 base:attributeBase o m X.env (eval o X.env)=eval o X.env
 few:((backTo cZ (starEach [e] X.env)).all (λx=> !x.1)&&(backToKw cZ (keywordEach [] X.env)).all (λx=>x.1.isSome)
  &&decide (([e]:List Expr).length+([]:List Keyword).length+(if ([]:List Keyword).isEmpty then 0 else 1) < 30))=true
 line:(apos.endLine==cZ.line)=true
 trees:backTo cZ (starEach [e] X.env)=[(false,eval e X.env)]
def IsD(H:Hp)(a:Addr):Prop:=(∃Ν,Rd H a (.dK Ν))\/∃Ν,Rd H a (.dT Ν)
def Py{X:Cx}{ζ:List (Addr×Obj)}{σ:St}{H:Hp}{s:Shared}{a:Addr}(I:Inv X ζ σ H s)(d:IsD H a):
  s.TypeIs (.ref a) "dict"/\(∀b,Value.ref a= .ref b->∃ob,s.heap.get? b=some ob/\ob.dict=none)/\(a==sysModules)=false:=by
 rcases d with ⟨Ν,e⟩| ⟨Ν,e⟩
 ·have⟨_,hd,vs,_,dd⟩:=nK I.bb e;refine⟨dd.typeIs,λb q=>?_,hd⟩;cases q;have⟨ob,_,_,h1,h2,_⟩:=dd;exact⟨ob,h1,h2.2.1⟩
 ·have⟨_,hd,xs,_,dd⟩:=wb I.bb e;refine⟨dd.typeIs,λb q=>?_,hd⟩;cases q;have⟨ob,_,_,h1,h2,_⟩:=dd;exact⟨ob,h1,h2.2.1⟩
section
variable{X:Cx}{ζ:List (Addr×Obj)}{σ:St}{H:Hp}{s:Shared}{a:Addr}{Ν:List (Key×V)}{A:Around}{E:Value->Shared->Prop}
def Kq{Q:Value->Shared->Prop}(I:Inv X ζ σ H s)(e:Rd H a (.dK Ν))(h:∀p s',H p=none->Inv X ζ σ (upd H p (.dK Ν)) s'->Q (.ref p) s'):wpAny (model X.prog X.w) A (call (.type "dict") [.ref a]) Q E s:=by have⟨z,hd,vs,rel,dd⟩:=nK I.bb e;refine kt_call_dict hd dd (by rw[<-rel.length];exact z) λh' NB hs=>?_;refine h _ _ (I.bb.fresh (aai _)) (I.laid (a:=s.heap.objs.size) (o:=.dK Ν) (t':=s.toks) (λb q hq=>?_) (aai _) (rO z (beq_eq_false_iff_ne.mpr (Ne.symm (aaY I.big))) rel NB));exact(hs.2 b (aaY (aar hq))).trans (aak _ hq)
end
end L2
namespace Att
open PySem PySem.W PySem.Calls PyProof.Rows
end Att
namespace L2
open PySem PySem.Spec PyProof.Rows
end L2
/- THE Wv LP (shape;LID,My.* are T5):
  My.Adr:a structure of NH addresses Xc Yw SS names (classes,FK);My.Txt K t:a structure (Prop) of NH equations qN K;
  My.CI:{K} {implicit addresses ..} (e1:nsIn K mainGlobals "law"=some (some (.ref f))) (e2:K.lookup f=some ⟨oc,od,.func (fnOf "law" "law" params body scope dV kV doc pm an aX ct),sl⟩) (e3:codeIn K aX "law"=true) .. :∃t,My.Txt K t
set_option maxRecDepth 100000 in
set_option maxHeartbeats 0 in
def PySem.Challenge.cw_LID_holds : PySem.Challenge.rw_LID.Holds := by
 w_on;o_law;k_head;(case hw=>w_witness2)
 k_fill
 refine L2.yK (l:=PySem.Challenge.rw_LID) (n:=63) (k:=40) (x:="script") (CX:=fun w=>..) (sp:=fun _=>My.Rn) rfl @_ rfl ⟨rfl,@_,@_⟩ (fun w h Y=>PySem.W.kIn_of Y) ?F ?S ?C
 case F=>
  intro w mg fa h KX G Mp;have T:∃t,My.Txt (L2.XJ KX) t:=by
   dsimp only[L2.XJ]
   refine' My.CI ?e1 ?e2 ?e3 ..
   (case e1=>PySem.W.k_is)
   (case e2=>PySem.W.k_is)
   ..
  have⟨t,T⟩:=T;have e0:=Mp.symm.trans (PySem.W.mg_of KX G T.law);cases e0;exact⟨_,λs u=>.of_eq rfl,λbase kb nb=>My.Cv T kb nb⟩
 case S=>exactλw H a ns hl hO hS=>..
 case C=>exact ..
(NH tactic k_is has no namespace:write k_is) -/
namespace L2
open PySem PySem.Spec PyProof.Rows
section
variable{X:Cx}
def GA:dI X (.builtin "len") (λxs H Q=>∃a Ν,xs=[V.ref a]/\H a=some (.dK Ν)/\Q (.int Ν.length) H):=by intro ζ s σ H xs us Q I r h;have⟨a,Ν,rfl,ha,q⟩:=h;have⟨u,rfl,ru⟩:=lu r;cases ru;exact U4 I (.inl ha) λt s' I'=>⟨.int Ν.length,H,I',⟨t,rfl⟩,q⟩
end
variable{X:Cx}{G:Hp}{L:List Addr}{d:Dt}{v:V}{pos apos:Pos}{R:St->XK}{o i e tg:Expr}{to ti te ta tb:DE}{p a f:Addr}{k' n:Nat}{x:Str}{ζ:List (Addr×Obj)}{σ:St}{s:Shared}{b:Bool}{M:Ms}{ds:List Dt}{vs:List V}{t:DA}{ks:List Key}{P:Program}{w:World}{Ν:List (Key×V)}{st:Stmt}{its:Array Value}{fd:FuncData}{ps:List Str}
def BS:Dt->Option Key
 | .int i=>some (.inl i)
 | .str z=>some (.inr z)
 | _=>none
def dw(ks:List Key)(ds:List Dt)(k:Key):Option Dt:=((ks.zip ds).find? λp=>decide (p.1=k)).map (·.2)
def lJ{K:fI}{k:Key}(h:BS d=some k)(n:Den K G L d v):v=kV k:=by
 cases d with
 | int i=>cases h;exact n
 | str z=>cases h;exact n
 | _=>cases h
def pD{K:fI}{G:Hp}{L:List Addr}{k:Key}:∀{ks:List Key} {ds:List Dt} {vs:List V} {d:Dt},Ψ K G L ds vs->dw ks ds k=some d->∃v,jZ (ks.zip vs) k=some v/\Den K G L d v
 | [],_,_,_,_,h=>by cases h
 | _::_,[],_,_,_,h=>by cases h
 | c::ks,d0::ds,_,d,⟨v0,vs,e,n0,n⟩,h=>by
  subst e;rw[abA];by_cases hc:c=k
  ·have h':dw (c::ks) (d0::ds) k=some d0:=by unfold dw;rw[List.zip_cons_cons,List.find?_cons_of_pos (by simpa using hc)];rfl
   rw[h']at h;cases h;exact⟨v0,eY hc,n0⟩
  ·have h':dw (c::ks) (d0::ds) k=dw ks ds k:=by unfold dw;rw[List.zip_cons_cons,List.find?_cons_of_neg (by simpa using hc)]
   rw[h']at h;have⟨v,h1,h2⟩:=pD n h;exact⟨v,by rw[e_ hc];exact h1,h2⟩
def Oi(to ti:DE):DE:=λρ M q x=>to ρ M (λd M1=>ti ρ M1 (λdi M2=>∃k ks ds key v,d= .loc k/\M2[k]? =some (.eW ks ds)/\BS di=some key/\dw ks ds key=some v/\q v M2) x) x
def qd:∀(more Η:List (Key×V)),(∀p∈more,jZ Η p.1=none)->(more.map (·.1)).Nodup->iu Η more=Η++more
 | [],Η,_,_=>by show Η=Η++[];rw[aa1]
 | p::more,Η,h,nd=>by
  show iu (iI Η p.1 p.2) more=_;rw[IC p.2 (h p aae),qd more _ (λq hq=>?_) (abQ.mp nd).2]
  ·simp
  ·have e:=vI p.1 q.1 p.2 Η (h p aae);rw[show(Η++[(p.1,p.2)])=Η++[(p.1,p.2)] from rfl,e,aav]
   ·exact h q (aad _ hq)
   ·intro z;exact(abQ.mp nd).1 (aah.mpr ⟨q,hq,z⟩)
def tCs(z:Str):TE:=λ_ H Q=>Q (.str z) H
def ZQ{z:Str}{k:Nat}:PE X (.Constant (.str z) k pos) (tCs z):=K7
section
variable{p:Pos}
def pI(hr:bT k' X.A)(ho:JE X R o to)(hi:JE X R i ti)(hs:CF i:=by intro _ _;rfl):JE X R (.Subscript o i pos) (Oi to ti):=
 .of (LC (DP hr) ho hi hs) λσ H G L ρ M q x rl n h hx=>by refine⟨G,L,ρ,M,_,x,rl,n,h,hx,λv H1 xz=>?_⟩;have⟨d1,G1,L1,M1,e1,r1,n1,h1⟩:=xz;refine⟨G1,L1,ρ,M1,_,x,r1,n.mono e1,h1,hx.on e1,λv2 H2 xz=>?_⟩;have⟨d2,G2,L2,M2,e2,r2,n2,k,ks,ds,key,y,ed,hm,hk,hg,h2⟩:=xz;subst ed;have⟨a,rfl,JN⟩:=n1;have QA:=e2.l.get JN;have⟨_,vs,hH,hl,dn⟩:=r2.f_ k a _ QA hm;have⟨u,hu,du⟩:=pD dn hg;refine⟨a,u,rfl,.inl ⟨_,key,.inl hH,lJ hk n2,hu.symm⟩,fin_same (e1.trans e2) r2 du h2⟩
end
structure RC(K:fI)(w:World)(mg:Str->Option Value)(x:Str)(tab:List (Str×Str)):Prop where
 ex:∃a es n,mg x=some (.ref a)/\K.lookup a=some ⟨.type "dict",none,.dict es n,#[]⟩/\PySem.W.KeysLit w.params es.toList/\∀z y,tab.lookup z=some y->∃tk,PySem.W.nsIn K a z=some (some (.str y tk))
def Uw(tab:List (Str×Str))(ti:DE):DE:=λρ M q x=>ti ρ M (λd M1=>∃z y,d= .str z/\tab.lookup z=some y/\q (.str y) M1) x
def XB(tab:List (Str×Str))(ti:TE):TE:=λσ H Q=>ti σ H λv H1=>∃z y,v= .str z/\tab.lookup z=some y/\Q (.str y) H1
section
variable{p:Pos}{tab:List (Str×Str)}
def QD{ti:TE}(T:RC X.K X.w X.mg x tab)(hi:PE X i ti)(hs:CF i)(hg:Gl X x)(uR:(x==("__debug__":Str))=false):PE X (.Subscript (.Name x p) i pos) (XB tab ti):=by have⟨a,es,n,hm,hl,hk,ht⟩:=T.ex;intro ζ s σ H Q I h;refine xE aci.lookup hs (rA I hg hm ?_ uR);refine bH (hi ζ s σ H _ I h) λiv s2 xz=>?_;have⟨v,H2,I2,rv,z,y,ev,hy,q2⟩:=xz;subst ev;have⟨t,rfl⟩:=rv;have⟨tk,hn⟩:=ht z y hy;have hM:=PySem.W.mapOf_K (prog:=X.prog) (w:=X.w) I2.qy hl hk;exact⟨hM.typeIs,wpAny_getItem_of (strKind_is X.prog X.w z t) hM (PySem.W.find_K hl hn) ⟨.str y,H2,I2.tok _,⟨tk,rfl⟩,q2⟩⟩
def Vb(T:RC X.K X.w X.mg x tab)(hi:JE X R i ti)(hs:CF i:=by intro _ _;rfl)(hg:Gl X x:=by rfl)(uR:(x==("__debug__":Str))=false:=by decide):JE X R (.Subscript (.Name x p) i pos) (Uw tab ti):=
 .of (QD T hi hs hg uR) λσ H G L ρ M q x rl n h hx=>by refine⟨G,L,ρ,M,_,x,rl,n,h,hx,λv H1 xz=>?_⟩;have⟨d1,G1,L1,M1,e1,r1,n1,z,y,ed,hy,h1⟩:=xz;subst ed;exact⟨z,y,n1,hy,bG e1 r1 h1⟩
end
inductive Jh(K:fI)(H:Hp):Nat->V->V->Bool->Prop
 | flat {n:Nat} {x y:V} (h1:eQ x=true) (h2:eQ y=true):Jh K H n x y (qL x y)
 | tup {n:Nat} {a b:Addr} {xs ys:List V} {f:Nat->Bool} (h1:nv K H a xs) (h2:nv K H b ys) (h:∀j x y,xs[j]? =some x->ys[j]? =some y->Jh K H n x y (f j)):Jh K H (n+1) (.ref a) (.ref b) ((List.range (min xs.length ys.length)).all f&&xs.length==ys.length)
 | lst {n:Nat} {a b:Addr} {xs ys:List V} {f:Nat->Bool} (h1:gC K H a xs) (h2:gC K H b ys) (hl:xs.length=ys.length) (h:∀j x y,xs[j]? =some x->ys[j]? =some y->Jh K H n x y (f j)):Jh K H (n+1) (.ref a) (.ref b) ((List.range xs.length).all f)
 | len {n:Nat} {a b:Addr} {xs ys:List V} (h1:gC K H a xs) (h2:gC K H b ys) (hl:xs.length≠ys.length):Jh K H (n+1) (.ref a) (.ref b) false
def KL{x:V}(h:eQ x=true):qL x x=true:=by cases x <;> first| rfl| (show(_==_)=true;simp)| cases h
section
variable{H:Hp}
def zv(I:Inv X ζ σ H s){x y:V}(h:Jh X.K H n x y b):x=y->b=true:=by
 induction h with
 | flat h1 h2=>intro e;subst e;exact KL h1
 | @tup n a b xs ys f h1 h2 h ih=>
  intro e;cases e;cases I.vF h1 h2;rw[Nat.min_self,ack,Bool.and_true];refine abN.mpr λj hj=>?_;have hj:=aa4.mp hj;exact ih j _ _ (aaa hj) (aaa hj) rfl
 | @lst n a b xs ys f h1 h2 hl h ih=>
  intro e;cases e;cases I.gU h1 h2;refine abN.mpr λj hj=>?_;have hj:=aa4.mp hj;exact ih j _ _ (aaa hj) (aaa hj) rfl
 | len h1 h2 hl=>
  intro e;cases e;cases I.gU h1 h2;exact aaJ rfl hl
def dQ{xs:List V}{its:List Value}(r:aC xs its){j:Nat}(h:j < its.toArray.size):∃x,xs[j]? =some x/\aF x its.toArray[j]:=by
 have hj:j < its.length:=by simpa using h
 have hx:j < xs.length:=by rw[r.length];exact hj
 have⟨u,g,ru⟩:=r.get (aaa hx);rw[aaa hj]at g;cases g;exact⟨_,List.getElem?_eq_getElem hx,by simpa using ru⟩
def xa(I:Inv X ζ σ H s){x y:V}(h:Jh X.K H n x y b):∀{A:Around} {u v:Value},aF x u->aF y v->A.units+n < cLine->SeqAt.EqAt A s u v b:=by
 induction h with
 | flat h1 h2=>exactλru rv _=>xT ru rv h1 h2
 | @tup n a b xs ys f h1 h2 h ih=>
  intro A u v ru rv hu;cases ru;cases rv;by_cases e:a=b
  ·have:=zv I (.tup h1 h2 h) (aaX V.ref e);rw[this,e];exact SeqAt.EqAt.same _
  ·have⟨i1,v1,t1,_⟩:=I.tuple h1;have⟨i2,v2,t2,_⟩:=I.tuple h2
   have:=SeqAt.RcAt.tuples (A:=A) (e:=f) (show s.heap.IsTuple a i1.toArray from t1) (show s.heap.IsTuple b i2.toArray from t2) () (λj g1 g2=>by
    have⟨x,hx,rx⟩:=dQ v1 g1;have⟨y,hy,ry⟩:=dQ v2 g2
    exact ih j x y hx hy rx ry (by show A.units+1+n < cLine;omega))
   rw[aaI,aaI,<-v1.length,<-v2.length]at this;exact SeqAt.EqAt.of_refs e this
 | @lst n a b xs ys f h1 h2 hl h ih=>
  intro A u v ru rv hu;cases ru;cases rv;by_cases e:a=b
  ·have:=zv I (.lst h1 h2 hl h) (aaX V.ref e);rw[this,e];exact SeqAt.EqAt.same _
  ·have⟨i1,v1,t1,_⟩:=I.list h1;have⟨i2,v2,t2,_⟩:=I.list h2
   have:=SeqAt.RcAt.lists (A:=A) (e:=f) t1.isList t2.isList (by rw[aaI,aaI,<-v1.length,<-v2.length];exact hl) () (λj g1 g2=>by
    have⟨x,hx,rx⟩:=dQ v1 g1;have⟨y,hy,ry⟩:=dQ v2 g2
    exact ih j x y hx hy rx ry (by show A.units+1+n < cLine;omega))
   rw[aaI,<-v1.length]at this;exact SeqAt.EqAt.of_refs e this
 | @len n a b xs ys h1 h2 hl=>
  intro A u v ru rv hu;cases ru;cases rv;have e:a≠b:=λe=>by subst e;cases I.gU h1 h2;exact hl rfl
  have⟨i1,v1,t1,_⟩:=I.list h1;have⟨i2,v2,t2,_⟩:=I.list h2;exact SeqAt.EqAt.of_refs e (SeqAt.RcAt.lists_lengths t1.isList t2.isList (by rw[List.size_toArray,List.size_toArray,<-v1.length,<-v2.length];simpa using hl) ())
end
def Ue(K:fI)(n:Nat):R2:=λx y H Q=>∃a b c,x= .ref a/\y= .ref b/\Jh K H n x y c/\Q (.bl (!c)) H
section
def Pn(hu:X.A.units+n < cLine):jS X (compareOp .NotEq) (Ue X.K n):=by
 intro ζ s σ H x y v u Q I rx ry h;have⟨a,b,c,rfl,rfl,h,q⟩:=h;cases rx;cases ry;cases h with
 | flat h1 h2=>cases h1
 | @tup n _ _ xs ys f h1 h2 h=>
  have⟨i1,v1,t1,_⟩:=I.tuple h1;have⟨i2,v2,t2,_⟩:=I.tuple h2;refine SeqAt.RcNeAt.tuples (e:=f) (show s.heap.IsTuple a i1.toArray from t1) (show s.heap.IsTuple b i2.toArray from t2) () (λj g1 g2=>?_) _ _ _ _ ?_
  ·have⟨x,hx,rx⟩:=dQ v1 g1;have⟨y,hy,ry⟩:=dQ v2 g2;exact xa I (h j x y hx hy) rx ry (by show X.A.units+1+n < cLine;omega)
  ·rw[aaI,aaI,<-v1.length,<-v2.length];exact⟨.bl _,H,I,rfl,q⟩
 | @lst n _ _ xs ys f h1 h2 hl h=>
  have⟨i1,v1,t1,_⟩:=I.list h1;have⟨i2,v2,t2,_⟩:=I.list h2;refine SeqAt.RcNeAt.lists (e:=f) t1.isList t2.isList (by rw[aaI,aaI,<-v1.length,<-v2.length];exact hl) () (λj g1 g2=>?_) _ _ _ _ ?_
  ·have⟨x,hx,rx⟩:=dQ v1 g1;have⟨y,hy,ry⟩:=dQ v2 g2;exact xa I (h j x y hx hy) rx ry (by show X.A.units+1+n < cLine;omega)
  ·rw[aaI,<-v1.length];exact⟨.bl _,H,I,rfl,q⟩
 | @len n _ _ xs ys h1 h2 hl=>
  have⟨i1,v1,t1,_⟩:=I.list h1;have⟨i2,v2,t2,_⟩:=I.list h2;exact SeqAt.RcNeAt.lists_lengths t1.isList t2.isList (by rw[List.size_toArray,List.size_toArray,<-v1.length,<-v2.length];simpa using hl) () _ _ _ _ ⟨.bl _,H,I,rfl,q⟩
end
def kQ(M:Ms):Dt->Option (List Dt)
 | .lst xs=>some xs
 | .jR ns=>some (ns.map .int)
 | .loc k=>match M[k]? with
  | some (.lst xs)=>some xs
  | _=>none
 | _=>none
inductive ow(M:Ms):Nat->Dt->Dt->Bool->Prop
 | flat {n:Nat} {d e:Dt} {x y:V} (h1:vv d=some x) (h2:vv e=some y):ow M n d e (qL x y)
 | tup {n:Nat} {ds es:List Dt} {f:Nat->Bool} (h:∀j d e,ds[j]? =some d->es[j]? =some e->ow M n d e (f j)):ow M (n+1) (.tup ds) (.tup es) ((List.range (min ds.length es.length)).all f&&ds.length==es.length)
 | lst {n:Nat} {d e:Dt} {ds es:List Dt} {f:Nat->Bool} (h1:kQ M d=some ds) (h2:kQ M e=some es) (hl:ds.length=es.length) (h:∀j d e,ds[j]? =some d->es[j]? =some e->ow M n d e (f j)):ow M (n+1) d e ((List.range ds.length).all f)
 | len {n:Nat} {d e:Dt} {ds es:List Dt} (h1:kQ M d=some ds) (h2:kQ M e=some es) (hl:ds.length≠es.length):ow M (n+1) d e false
def fF{K:fI}{H:Hp}{xs:List Dt}(r:Rl K G L M H)(n:Den K G L d v)(h:kQ M d=some xs):∃a vs,v= .ref a/\gC K H a vs/\Ψ K G L xs vs:=by
 cases d with
 | lst ds=>cases h;have⟨a,vs,rfl,e,m⟩:=n;exact⟨a,vs,rfl,.of (r.sub _ _ e),m⟩
 | jR ns=>cases h;have⟨a,rfl,e⟩:=n;exact⟨a,_,rfl,r.sub.seq e,iN⟩
 | loc k=>
  have⟨a,rfl,e⟩:=n;have h:(match M[k]? with| some (.lst xs)=>some xs| _=>none)=some xs:=h;split at h
  ·rename_i ys hm;cases h;have⟨_,vs,e1,m1⟩:=r.f_ k a _ e hm;exact⟨a,vs,rfl,.of e1,m1⟩
  ·cases h
 | _=>cases h
def Ψ.back{K:fI}{i:Nat}(h:Ψ K G L ds vs)(e:vs[i]? =some v):∃d,ds[i]? =some d/\Den K G L d v:=by
 have hi:i < ds.length:=by rw[h.length];exact(aaf.mp e).1
 have⟨v',e',n⟩:=h.get (aaa hi);rw[e]at e';cases e';exact⟨_,aaa hi,n⟩
def N9{K:fI}{H:Hp}(r:Rl K G L M H){e:Dt}(h:ow M n d e b):∀{v u:V},Den K G L d v->Den K G L e u->Jh K H n v u b:=by
 induction h with
 | flat h1 h2=>
  intro v u n1 n2;have⟨rfl,f1⟩:=k9 h1 n1;have⟨rfl,f2⟩:=k9 h2 n2;exact .flat f1 f2
 | @tup n ds es f h ih=>
  intro v u n1 n2;have⟨a,vs,rfl,e1,m1⟩:=n1;have⟨b,us,rfl,e2,m2⟩:=n2;rw[m1.length,m2.length];refine .tup (.of (r.sub _ _ e1)) (.of (r.sub _ _ e2)) λj x y hx hy=>?_;have⟨d,hd,dn⟩:=m1.back hx;have⟨e,he,en⟩:=m2.back hy;exact ih j d e hd he dn en
 | @lst n d e ds es f h1 h2 hl h ih=>
  intro v u n1 n2;have⟨a,vs,rfl,s1,m1⟩:=fF r n1 h1;have⟨b,us,rfl,s2,m2⟩:=fF r n2 h2;rw[m1.length];refine .lst s1 s2 (by rw[<-m1.length,<-m2.length];exact hl) λj x y hx hy=>?_;have⟨d,hd,dn⟩:=m1.back hx;have⟨e,he,en⟩:=m2.back hy;exact ih j d e hd he dn en
 | @len n d e ds es h1 h2 hl=>
  intro v u n1 n2;have⟨a,vs,rfl,s1,m1⟩:=fF r n1 h1;have⟨b,us,rfl,s2,m2⟩:=fF r n2 h2;exact .len s1 s2 (by rw[<-m1.length,<-m2.length];exact hl)
def O8(M:Ms)(d:Dt):Prop:=(∃ds,d= .tup ds)\/∃xs,kQ M d=some xs
def D5{K:fI}{H:Hp}(r:Rl K G L M H)(n:Den K G L d v)(h:O8 M d):∃a,v= .ref a:=by
 rcases h with ⟨ds,rfl⟩| ⟨xs,h⟩
 ·have⟨a,vs,rfl,_⟩:=n;exact⟨a,rfl⟩
 ·have⟨a,vs,rfl,_⟩:=fF r n h;exact⟨a,rfl⟩
def T9(n:Nat):Dt->Dt->Ms->DQ->Prop:=λd e M q=>∃b,O8 M d/\O8 M e/\ow M n d e b/\q (.bl (!b)) M
def Zn{K:fI}:oz K (Ue K n) (T9 n):=by intro G0 L0 H0 G L M H v1 v2 d1 d2 q e r n1 n2 ⟨b,h1,h2,h,hq⟩;have⟨a,rfl⟩:=D5 r n1 h1;have⟨a',rfl⟩:=D5 r n2 h2;exact⟨a,a',b,rfl,rfl,N9 r h n1 n2,bG e r hq⟩
section
variable{a b l u:Expr}{tl tu:DE}{p p2:Pos}
def RZ{A:Around}{k:Nat}(hr:bT k A)(hn:n<=64):A.units+n < cLine:=aaV (Nat.add_le_add_left hn _) hr.units
def HR(n:Nat)(hr:bT k' X.A)(ja:JE X R a ta)(jb:JE X R b tb)(hn:n<=64:=by decide)(hm:behindInMarks .NotEq b=false:=by rfl):JT X R (.Compare a [.NotEq] [b] pos) (pO (lI (T9 n) ta tb)):=jG (Pn (RZ hr hn)) Zn ja jb hm
def Gv(xs:List V)(k:Nat):vh xs none (some (k:Int))=xs.take k:=by
 unfold vh;rw[HT.rf,HT.A0,acH,Nat.sub_zero];by_cases h:k<=xs.length
 ·rw[acy h]
 ·rw[Nat.min_eq_right (),abD (aai _),abD ()]
def T8(te tl:DE):DE:=λρ M q x=>te ρ M (λd M1=>tl ρ M1 (λdi M2=>∃ds n,kQ M2 d=some ds/\di= .int (n:Nat)/\q (.loc M2.length) (M2++[.lst (ds.drop n)])) x) x
def oE(he:JE X R e te)(hl:JE X R l tl):JE X R (.Subscript e (.Slice (some l) none none p2) pos) (T8 te tl):=
 .of (t_ yk he (lN hl) DD) λσ H G L ρ M q x rl n h hx=>by refine⟨G,L,ρ,M,_,x,rl,n,h,hx,λv H1 xz=>?_⟩;have⟨d1,G1,L1,M1,e1,r1,n1,h1⟩:=xz;refine⟨G1,L1,ρ,M1,_,x,r1,n.mono e1,h1,hx.on e1,λv2 H2 xz=>?_⟩;have⟨d2,G2,L2,M2,e2,r2,n2,ds,k,ed,ei,h2⟩:=xz;subst ei;have⟨a,vs,rfl,sq,m⟩:=fF r2 (Den.mono e2.g e2.l _ _ n1) ed;have n2:v2= .int k:=n2;subst n2;refine⟨k,rfl,a,vs,rfl,sq,λp hp=>?_⟩;rw[GJ];exact jj (e1.trans e2) r2 hp (Ψ.of (rJ k m.pair)) h2
end
open PySem PySem.SeqAt
def Dd(M:Ms):Dt->Option (List Dt)
 | .lst xs=>some xs
 | .loc k=>match M[k]? with
  | some (.lst xs)=>some xs
  | _=>none
 | _=>none
def xU{K:fI}{H:Hp}{xs:List Dt}(r:Rl K G L M H)(n:Den K G L d v)(h:Dd M d=some xs):∃a vs,v= .ref a/\H a=some (.lst vs)/\Ψ K G L xs vs:=by
 cases d with
 | lst ds=>cases h;have⟨a,vs,rfl,e,m⟩:=n;exact⟨a,vs,rfl,r.sub _ _ e,m⟩
 | loc k=>
  have⟨a,rfl,e⟩:=n;have h:(match M[k]? with| some (.lst xs)=>some xs| _=>none)=some xs:=h;split at h
  ·rename_i ys hm;cases h;have⟨_,vs,e1,m1⟩:=r.f_ k a _ e hm;exact⟨a,vs,rfl,e1,m1⟩
  ·cases h
 | _=>cases h
def Og:Dt->Dt->Ms->DQ->Prop:=λd e M q=>∃xs ys,Dd M d=some xs/\Dd M e=some ys/\xs.length+ys.length<=sizeLine/\q (.lst (xs++ys)) M
def UQ{K:fI}:oz K O3 Og:=by intro G0 L0 H0 G L M H v1 v2 d1 d2 q e r n1 n2 ⟨xs,ys,h1,h2,hz,hq⟩;have⟨p1,w1,rfl,e1,m1⟩:=xU r n1 h1;have⟨p2,w2,rfl,e2,m2⟩:=xU r n2 h2;refine⟨p1,p2,w1,w2,rfl,rfl,e1,e2,by rw[<-m1.length,<-m2.length];exact hz,λp hp=>?_⟩;exact lO e r hp (q5 r hp (m1.app m2)) hq
section
variable{a b:Expr}
def mI(ja:JE X R a ta)(jb:JE X R b tb):JE X R (.BinOp a .Add b pos) (lI Og ta tb):=wJ IX UQ ja jb
end
section
variable{l:Expr}{tl:DE}{p2:Pos}
def JD(te tl:DE):DE:=λρ M q x=>te ρ M (λd M1=>tl ρ M1 (λdi M2=>∃ds n,kQ M2 d=some ds/\di= .int (n:Nat)/\q (.loc M2.length) (M2++[.lst (ds.take n)])) x) x
def yh(he:JE X R e te)(hl:JE X R l tl):JE X R (.Subscript e (.Slice none (some l) none p2) pos) (JD te tl):=
 .of (t_ yk he DD (lN hl)) λσ H G L ρ M q x rl n h hx=>by refine⟨G,L,ρ,M,_,x,rl,n,h,hx,λv H1 xz=>?_⟩;have⟨d1,G1,L1,M1,e1,r1,n1,h1⟩:=xz;refine⟨G1,L1,ρ,M1,_,x,r1,n.mono e1,h1,hx.on e1,λv2 H2 xz=>?_⟩;have⟨d2,G2,L2,M2,e2,r2,n2,ds,k,ed,ei,h2⟩:=xz;subst ei;have⟨a,vs,rfl,sq,m⟩:=fF r2 (Den.mono e2.g e2.l _ _ n1) ed;have n2:v2= .int k:=n2;subst n2;refine⟨k,rfl,a,vs,rfl,sq,λp hp=>?_⟩;rw[Gv];exact jj (e1.trans e2) r2 hp (Ψ.of (s_ k m.pair)) h2
end
def zK(g:Dt->En->(En->Prop)->Prop)(te:DE)(ρ0:En)(ok:Ms->Prop):List Dt->List Dt->Ms->(List Dt->Ms->Prop)->Prop
 | [],Η,M,k=>ok M/\k Η M
 | x::xs,Η,M,k=>ok M/\g x ρ0 λρ'=>te ρ' M (λd M2=>zK g te ρ0 ok xs (Η++[d]) M2 k) lT
def Bm(n:Nat)(ti:DK)(g:Dt->En->(En->Prop)->Prop)(te:DE)(Ω:List Nat):DE:=λρ M q x=>ti ρ M (λxs ok M1=>xs.length<=sizeLine/\zK g te (List.replicate n none++pv Ω ρ) ok xs [] M1 (λys M2=>q (.lst ys) M2)) x
def DU{g:Dt->En->(En->Prop)->Prop}{te:DE}{cs:En}{ok:Ms->Prop}:∀xs,zK g te cs ok xs=iL g tM te cs ok xs
 | []=>rfl
 | x::xs=>funext λΗ=>funext λM=>funext λk=>by show(ok M/\g x cs λρ'=>te ρ' M (λd M1=>zK g te cs ok xs (Η++[d]) M1 k) lT)=(ok M/\g x cs λρ'=>te ρ' M (λd M1=>iL g tM te cs ok xs (Η++[d]) M1 k) lT);rw[DU xs]
section
variable{elt iter:Expr}{y:Str}{px py tp:Pos}{scope:Scope}{ti:DK}{ys:List Str}{Ω:List Nat}{kk:Nat}
def Dw(S:Φ X scope [x,y] ys Ω)(hi:JK X R (.Tuple [.Name x px,.Name y py] kk tp) iter ti)(he:∀C s H fp,JE (Cx.comp X (x::y::ys) scope C s H fp) (λ_=>E0) elt te)(hc:X.calm=true:=by rfl)(hs:∀x,foldedSetIterable iter X.env x=pure x:=by intro _;rfl):JE X R (.ListComp elt [⟨.Tuple [.Name x px,.Name y py] kk tp,iter,[],0⟩] scope pos) (Bm 2 ti (g2 0 1) te Ω):=Uk false S hi (E6 hc S) oO (vt (Nat.zero_lt_succ 1) (Nat.lt_succ_self 1)) (λ_ _ _ _=>qX) he hc hs λρ M q x h=>by unfold Bm at h;simp only[DU]at h;exact h
end
def oN{g:Dt->En->(En->Prop)->Prop}{te:DE}{ρ0:En}{ok:Ms->Prop}{M:Ms}{k:List Dt->Ms->Prop}(ho:ok M)(f:Dt->Dt):∀(xs Η:List Dt),(∀x∈xs,∀q:DQ,q (f x) M->g x ρ0 λρ'=>te ρ' M q lT)->k (Η++xs.map f) M->zK g te ρ0 ok xs Η M k
 | [],Η,_,h=>⟨ho,by simpa using h⟩
 | x::xs,Η,ht,h=>⟨ho,ht x List.mem_cons_self _ (oN ho f xs _ (λy hy=>ht y (List.mem_cons_of_mem _ hy)) (by simpa using h))⟩
def Hc(xs:List V)(a b:Nat):vh xs (some (a:Int)) (some (b:Int))=(xs.drop a).take (b - a):=by
 unfold vh;rw[HT.rf,HT.rf];by_cases ha:a<=xs.length
 ·rw[acy ha];by_cases hb:b<=xs.length
  ·rw[acy hb]
  ·rw[Nat.min_eq_right (),abD (by rw[abL];omega),abD (by rw[abL];omega)]
 ·have h1:min a xs.length=xs.length:=Nat.min_eq_right ();rw[h1,List.drop_of_length_le (aai xs.length),List.drop_of_length_le (show xs.length<=a by omega)];simp
section
variable{l u a b:Expr}{tl tu:DE}{p2:Pos}
def TQ(te tl tu:DE):DE:=λρ M q x=>te ρ M (λd M1=>tl ρ M1 (λdi M2=>∃n:Nat,di= .int n/\tu ρ M2 (λdu M3=>∃ds m,kQ M3 d=some ds/\du= .int (m:Nat)/\q (.loc M3.length) (M3++[.lst ((ds.drop n).take (m - n))])) x) x) x
def vE(he:JE X R e te)(hl:JE X R l tl)(hu:JE X R u tu):JE X R (.Subscript e (.Slice (some l) (some u) none p2) pos) (TQ te tl tu):=
 .of (t_ yk he (lN hl) (lN hu)) λσ H G L ρ M q x rl n h hx=>by refine⟨G,L,ρ,M,_,x,rl,n,h,hx,λv H1 xz=>?_⟩;have⟨d1,G1,L1,M1,e1,r1,n1,h1⟩:=xz;refine⟨G1,L1,ρ,M1,_,x,r1,n.mono e1,h1,hx.on e1,λv2 H2 xz=>?_⟩;have⟨d2,G2,L2,M2,e2,r2,n2,k,ek,h2⟩:=xz;subst ek;have n2:v2= .int k:=n2;subst n2;refine⟨k,rfl,G2,L2,ρ,M2,_,x,r2,(n.mono e1).mono e2,h2,(hx.on e1).on e2,λv3 H3 xz=>?_⟩;have⟨d3,G3,L3,M3,e3,r3,n3,ds,m,ed,em,h3⟩:=xz;subst em;have Ha:=e2.trans e3;have⟨a,vs,rfl,sq,dn⟩:=fF r3 (Den.mono Ha.g Ha.l _ _ n1) ed;have n3:v3= .int m:=n3;subst n3;refine⟨m,rfl,a,vs,rfl,sq,λp hp=>?_⟩;rw[Hc];exact jj (e1.trans Ha) r3 hp (Ψ.of (s_ (m - k) (rJ k dn.pair))) h3
def Oq:Dt->Dt->Ms->DQ->Prop:=λd e M q=>∃xs k,Dd M d=some xs/\e= .int k/\ -(2 ^ 63)<=k/\k < 2 ^ 63/\xs.length * k.toNat<=sizeLine/\q (.loc M.length) (M++[.lst (List.replicate k.toNat xs).flatten])
def S8{K:fI}:oz K Pw Oq:=by intro G0 L0 H0 G L M H v1 v2 d1 d2 q e r n1 n2 ⟨xs,k,h1,h2,a,b,hz,hq⟩;have⟨p1,w1,rfl,e1,m1⟩:=xU r n1 h1;subst h2;have n2:v2= .int k:=n2;subst n2;refine⟨p1,k,w1,rfl,rfl,e1,a,b,by rw[<-m1.length];exact hz,λp hp=>?_⟩;exact jj e r hp (Ψ.of (yi m1.pair k.toNat)) hq
def CP(ja:JE X R a ta)(jb:JE X R b tb):JE X R (.BinOp a .Mult b pos) (lI Oq ta tb):=wJ IM S8 ja jb
end
def Jq(ks:List Key)(k:Key):Bool:=ks.any λc=>decide (c=k)
def nz{k:Key}:∀{ks:List Key} {vs:List V},ks.length=vs.length->(jZ (ks.zip vs) k).isSome=Jq ks k
 | [],[],_=>rfl
 | c::ks,v::vs,h=>by
  have h:ks.length=vs.length:=by simpa using h
  rw[abA];by_cases e:c=k
  ·rw[eY e];subst e;simp[Jq]
  ·rw[e_ e,nz h];unfold Jq;rw[ab2,aaG e,Bool.false_or]
section
variable{a b:Expr}{p:Pos}
def wz:JE X R (.Dict [] [] pos) (λ_ M q _=>q (.loc M.length) (M++[.eW [] []])):=
 .of KQ λσ H G L ρ M q x rl n h hx=>by intro p hp;exact⟨.loc M.length,G,L++[p],_,rl.V5 hp,rl.Nl (m:=.eW [] []) hp ⟨[],af,rfl,rfl⟩,⟨p,rfl,by rw[<-rl.len,List.getElem?_append_right (Nat.le_refl _)];simp⟩,h⟩
def Si:Dt->Dt->Ms->DQ->Prop:=λdi d M q=>∃k ks ds key,d= .loc k/\M[k]? =some (.eW ks ds)/\BS di=some key/\q (.bl (Jq ks key)) M
def O0(hu:X.A.units+1 < cLine):jS X (compareOp .In) (λy x H Q=>∃a o,x=V.ref a/\xq H a y o/\Q (.bl o.isSome) H):=by intro ζ s σ H x y u v Q I rx ry ⟨a,o,ex,g,q⟩;subst ex;obtain rfl:v=Value.ref a:=ry;exact ZE hu I g rx λs3 I3=>⟨.bl o.isSome,H,I3,rfl,q⟩
def WR{K:fI}:oz K (λy x H Q=>∃a o,x=V.ref a/\xq H a y o/\Q (.bl o.isSome) H) Si:=by intro G0 L0 H0 G L M H v1 v2 d1 d2 q e r n1 n2 ⟨k,ks,ds,key,ed,hm,hk,h⟩;subst ed;have⟨a,rfl,JN⟩:=n2;have⟨_,vs,hH,hl,dn⟩:=r.f_ k a _ JN hm;refine⟨a,_,rfl,.inl ⟨_,key,.inl hH,lJ hk n1,rfl⟩,?_⟩;have Gb:ks.length=vs.length:=hl.trans dn.length;rw[nz Gb];exact bG e r h
def U9(hr:bT k' X.A)(ja:JE X R a ta)(jb:JE X R b tb)(hm:behindInMarks .In b=false:=by rfl):JE X R (.Compare a [.In] [b] pos) (lI Si ta tb):=vB (O0 (DP hr)) WR ja jb hm
end
def gm(ks:List Key)(k:Key):List Key:=if Jq ks k=true then ks else ks++[k]
def me{α:Type}(k:Key)(v:α):List Key->List α->List α
 | c::ks,x::xs=>(if c=k then v else x)::me k v ks xs
 | _,_=>[]
def eL{α:Type}(ks:List Key)(k:Key)(xs:List α)(v:α):List α:=if Jq ks k=true then me k v ks xs else xs++[v]
def p8{α:Type}{k:Key}{v:α}:∀{ks:List Key} {xs:List α},ks.length=xs.length->(me k v ks xs).length=ks.length
 | [],[],_=>rfl
 | _::ks,_::xs,h=>by
  have h:ks.length=xs.length:=by simpa using h
  show(me k v ks xs).length+1=ks.length+1;rw[p8 h]
def vz{k:Key}{v:V}:∀{ks:List Key} {vs:List V},ks.length=vs.length->(ks.zip vs).map (λkv=>if kv.1=k then (kv.1,v) else kv)=ks.zip (me k v ks vs)
 | [],[],_=>rfl
 | c::ks,x::vs,h=>by
  have h:ks.length=vs.length:=by simpa using h
  rw[abA,aaM,vz h];show _=(c,if c=k then v else x)::ks.zip (me k v ks vs)
  congr 1
  show(if c=k then (c,v) else (c,x))=_;split <;> rfl
def pw{K:fI}{G:Hp}{L:List Addr}{k:Key}{d:Dt}{v:V}(n:Den K G L d v):∀{ks:List Key} {ds:List Dt} {vs:List V},Ψ K G L ds vs->ks.length=ds.length->Ψ K G L (me k d ks ds) (me k v ks vs)
 | [],[],_,h,_=>by cases h;rfl
 | c::ks,x::ds,_,⟨y,vs,e,n0,ns⟩,hl=>by
  subst e;have hl:ks.length=ds.length:=by simpa using hl
  refine⟨_,_,rfl,?_,pw n ns hl⟩;show Den K G L (if c=k then d else x) (if c=k then v else y);split
  ·exact n
  ·exact n0
def JJ{k:Key}(h:ks.length=vs.length):iI (ks.zip vs) k v=(gm ks k).zip (eL ks k vs v):=by
 unfold iI gm eL;rw[nV,nz h];split
 ·exact vz h
 ·rw[List.zip_append h];rfl
def xf(to ti tv:DE):DS:=λDn ρ M=>tv ρ M (λy M1=>to ρ M1 (λd M2=>ti ρ M2 (λdi M3=>∃k ks ds key,d= .loc k/\M3[k]? =some (.eW ks ds)/\BS di=some key/\ks.length < 1000/\Dn.nx ρ (M3.set k (.eW (gm ks key) (eL ks key ds y)))) Dn.x) Dn.x) Dn.x
section
variable{value:Expr}{tv:DE}{pos':Pos}
def qW(hr:bT k' X.A)(ho:JE X R o to)(hi:JE X R i ti)(hv:JE X R value tv)(hs:swapsWith value (some (.Subscript o i pos')) pos.line X.env=pure false:=by rfl):JS X R (.Assign [.Subscript o i pos'] value pos) (xf to ti tv):=
 .of (L8 (DP hr) ho hi hv hs) λσ H G L ρ M Dn rl n h hx=>by
  refine⟨G,L,ρ,M,_,_,rl,n,h,hx,λv H1 xz=>?_⟩;have⟨dv,G1,L1,M1,e1,r1,n1,h1⟩:=xz;refine⟨G1,L1,ρ,M1,_,_,r1,n.mono e1,h1,hx.on e1,λov H2 xz=>?_⟩;have⟨d,G2,L2,M2,e2,r2,n2,h2⟩:=xz;refine⟨G2,L2,ρ,M2,_,_,r2,(n.mono e1).mono e2,h2,(hx.on e1).on e2,λiv H3 xz=>?_⟩;have⟨di,G3,L3,M3,e3,r3,n3,k,ks,ds,key,ed,hm,hk,hlen,h3⟩:=xz;subst ed;have⟨a,rfl,HA⟩:=n2;have By:=e3.l.get HA;have⟨_,vs,hH,hl,dn⟩:=r3.f_ k a _ By hm;have Ha:=e2.trans e3;have V3:=Den.mono Ha.g Ha.l _ _ n1;have Gb:ks.length=vs.length:=hl.trans dn.length;obtain rfl:iv=kV key:=lJ hk n3;have z:(ks.zip vs).length < sizeLine:=by rw[abB];exact aaV (Nat.min_le_left _ _) (Nat.lt_trans hlen @_)
  refine⟨a,_,rfl,Kl.k hH z,ρ,G3,L3,_,((e1.trans e2).trans e3).trans (r3.J5 By),r3.setM (m:=.eW (gm ks key) (eL ks key ds dv)) By ⟨eL ks key vs v,by rw[af,JJ Gb],?_,?_⟩,(((n.mono e1).mono e2).mono e3).mono (r3.J5 (o:=.own a) By),h3⟩
  ·unfold gm eL;split
   ·rw[p8 hl]
   ·rw[aag,aag,hl];rfl
  ·unfold eL;split
   ·exact pw V3 dn hl
   ·exact dn.app ⟨_,_,rfl,V3,rfl⟩
end
section
variable{f a b v1 v2:Expr}{tx t1 t2:DE}{p cZ:Pos}
def EN:Dt->Dt->Ms->DQ->Prop:=λdi d M q=>∃k ks ds key,d= .loc k/\M[k]? =some (.eW ks ds)/\BS di=some key/\q (.bl (!Jq ks key)) M
def Fh(hu:X.A.units+1 < cLine):jS X (compareOp .NotIn) (λy x H Q=>∃a o,x=V.ref a/\xq H a y o/\Q (.bl (!o.isSome)) H):=by intro ζ s σ H x y u v Q I rx ry ⟨a,o,ex,g,q⟩;subst ex;obtain rfl:v=Value.ref a:=ry;exact LS hu I g rx λs3 I3=>⟨.bl (!o.isSome),H,I3,rfl,q⟩
def NK{K:fI}:oz K (λy x H Q=>∃a o,x=V.ref a/\xq H a y o/\Q (.bl (!o.isSome)) H) EN:=by intro G0 L0 H0 G L M H v1 v2 d1 d2 q e r n1 n2 ⟨k,ks,ds,key,ed,hm,hk,h⟩;subst ed;have⟨a,rfl,JN⟩:=n2;have⟨_,vs,hH,hl,dn⟩:=r.f_ k a _ JN hm;refine⟨a,_,rfl,.inl ⟨_,key,.inl hH,lJ hk n1,rfl⟩,?_⟩;have Gb:ks.length=vs.length:=hl.trans dn.length;rw[nz Gb];exact bG e r h
def Ga(hr:bT k' X.A)(ja:JE X R a ta)(jb:JE X R b tb)(hm:behindInMarks .NotIn b=false:=by rfl):JT X R (.Compare a [.NotIn] [b] pos) (pO (lI EN ta tb)):=jG (Fh (DP hr)) NK ja jb hm
def yn:dI X (.type "dict") (λxs H Q=>∃a Ν,xs=[V.ref a]/\Rd H a (.dK Ν)/\∀p,H p=none->Q (.ref p) (upd H p (.dK Ν))):=by
 intro ζ s σ H xs us Q I r ⟨a,Ν,ex,e,q⟩;subst ex;cases r with
 | cons r1 r2=>
  cases r2;cases r1;exact Kq I e λp s' hp I'=>⟨.ref p,_,I',rfl,q p hp⟩
def Jz:List Dt->Ms->DQ->Prop
 | [d],M,q=>∃k ks ds,d= .loc k/\M[k]? =some (.eW ks ds)/\q (.loc M.length) (M++[.eW ks ds])
 | _,_,_=>False
def Tq{K:fI}:EA K (λxs H Q=>∃a Ν,xs=[V.ref a]/\Rd H a (.dK Ν)/\∀p,H p=none->Q (.ref p) (upd H p (.dK Ν))) Jz:=by
 intro G0 L0 H0 G L M H vs ds q e r n h;unfold Jz at h;split at h
 ·rename_i d;have⟨v,rfl,n1⟩:=bw n;have⟨k,ks,ds,ed,hm,h⟩:=h;subst ed;have⟨a,rfl,hk⟩:=n1;have⟨_,vs,hH,hl,dn⟩:=r.f_ k a _ hk hm;refine⟨a,_,rfl,.inl hH,λp hp=>?_⟩;exact⟨.loc M.length,G,L++[p],_,e.trans (r.V5 hp),r.Nl (m:=.eW ks ds) hp ⟨vs,af,hl,Ψ.mono (.refl _) ⟨[p],rfl⟩ _ _ dn⟩,⟨p,rfl,by rw[<-r.len,List.getElem?_append_right (Nat.le_refl _)];simp⟩,h⟩
 ·exact h.elim
def Ce:bootBuiltins "dict"=some (.type "dict"):=by decide+kernel
def Bl(hm:X.mg "dict"=none)(ha:JA X R [e] t)(hg:Gl X "dict":=by rfl)(he:starEach [e] X.env=(false,eval e X.env)::starEach [] X.env:=by rfl)(gy:(backTo pos (starEach [] X.env)).any (·.1)=false:=by rfl):JE X R (.Call (.Name "dict" p) [e] [] pos) (CQ Jz t):=
 ub yn Tq hm Ce ha hg @_ @_ he gy
end
section
variable{f v1 v2:Expr}{tx t1 t2:DE}{cZ:Pos}
def Fb{K:fI}{G1:Hp}{L1:List Addr}{H1:Hp}{H:Hp}{q:DQ}(e:Ex G1 L1 H1 G L H)(r:Rl K G L M H)(Hw:H1 p=none)(hg:G p=none)(hl:p∉L)(h:H p=some (.dK (ks.zip vs)))(hk:ks.length=ds.length)(n:Ψ K G L ds vs)(k:q (.loc M.length) (M++[.eW ks ds])):Fin K G1 L1 H1 q (.ref p) H:=by
 refine⟨.loc M.length,G,L++[p],M++[.eW ks ds],⟨e.g,e.l.trans ⟨[p],rfl⟩,e.fr,e.out,λb hb=>?_,e.Cg⟩,⟨r.sub,by rw[List.length_append,List.length_append,r.len];rfl,List.nodup_append.mpr ⟨r.nd,by simp,λa ha b hb=>?_⟩,λk a m h1 h2=>?_⟩,⟨p,rfl,by rw[<-r.len,List.getElem?_append_right (Nat.le_refl _)];simp⟩,k⟩
 ·rcases aa0.mp hb with z| z
  ·exact e.new b z
  ·have e:b=p:=by simpa using z
   right;rw[e];exact Hw
 ·have e:b=p:=by simpa using hb
  rw[e];exactλz=>hl (z▸ha)
 ·by_cases Ao:k < L.length
  ·rw[aat Ao]at h1;rw[aat (by rw[<-r.len];exact Ao)]at h2;have⟨q1,q2⟩:=r.f_ k a m h1 h2;exact⟨q1,q2.mono (.refl _) ⟨[p],rfl⟩ rfl⟩
  ·have e:k=L.length:=by have:=(aaf.mp h1).1;rw[aag]at this;simp at this;omega
   rw[e,aan (aai _)]at h1;rw[e,r.len,aan (aai _)]at h2;simp at h1 h2;subst h1 h2;exact⟨hg,vs,h,hk,Ψ.mono (.refl _) ⟨[p],rfl⟩ _ _ n⟩
def NJ{z1 z2:Str}{c1 c2:Nat}{p1 p2:Pos}(W0:JE X R v1 t1)(hv2:JE X R v2 t2)(lL:z1≠z2:=by decide):
  JE X R (.Dict [some (.Constant (.str z1) c1 p1),some (.Constant (.str z2) c2 p2)] [v1,v2] pos) (λρ M q x=>t1 ρ M (λd1 M1=>t2 ρ M1 (λd2 M2=>q (.loc M2.length) (M2++[.eW [Sum.inr z1,Sum.inr z2] [d1,d2]])) x) x):=
 .of (EV (sZ ZQ W0 (sZ ZQ hv2 Ej)) rfl rfl (by simp) (by show 2<=15;decide)) λσ H G L ρ M q x rl n h hx=>by
  intro p hp;have gn:G p=none:=rl.sub.free hp;have ln:p∉L:=rl.MM hp;have e0:Ex G L H G L (upd H p (.dK [])):=⟨.refl _,.refl _,λ_ h _=>h,λb u h1 _=>by rw[Θ (λz=>by rw[z,hp]at h1;cases h1)];exact h1,λ_ h=>.inl h,λb h=>by rw[Θ (λz=>h (by rw[z];exact hp))];exact h⟩
  have r0:Rl X.K G L M (upd H p (.dK [])):=⟨λb u e=>by rw[Θ (λz=>by rw[z,gn]at e;cases e)];exact rl.sub b u e,rl.len,rl.nd,λi a m h1 h2=>by
   have⟨q1,q2⟩:=rl.f_ i a m h1 h2
   exact⟨q1,q2.mono (.refl _) (.refl _) (Θ λz=>q2.there (by rw[z];exact hp))⟩⟩
  refine⟨G,L,ρ,M,_,x,r0,n,h,hx.on e0,λu1 H1 xz=>?_⟩;have⟨d1,G1,L1,M1,e1,r1,n1,h1⟩:=xz;have Hw:H1 p=some (.dK []):=e1.out _ _ af ln;have g1:G1 p=none:=e1.fr _ gn (by rw[af];simp);have l1:p∉L1:=λz=>(e1.new _ z).elim ln λq=>by rw[af]at q;cases q
  refine⟨G1,L1,ρ,M1,_,x,r1,n.mono (e0.trans e1),h1,hx.on (e0.trans e1),λu2 H2 xz=>?_⟩;have⟨d2,G2,L2,M2,e2,r2,n2,h2⟩:=xz;have Tv:H2 p=some (.dK []):=e2.out _ _ Hw l1;have g2:G2 p=none:=e2.fr _ g1 (by rw[Hw];simp);have l2:p∉L2:=λz=>(e2.new _ z).elim l1 λq=>by rw[Hw]at q;cases q
  refine⟨Tv,[(Sum.inr z1,u1),(Sum.inr z2,u2)],rfl,by show 2<=15;decide,?_⟩;rw[qd _ [] (λ_ _=>rfl) (by simp[lL]),List.nil_append];have RX:=(e0.trans e1).trans e2;have Ye:∀{b:Addr} {w:HO},G2 b=some w->b≠p:=λe z=>by rw[z,g2]at e;cases e
  refine Fb (G:=G2) (L:=L2) (M:=M2) (ks:=[Sum.inr z1,Sum.inr z2]) (ds:=[d1,d2]) (vs:=[u1,u2]) ⟨RX.g,RX.l,RX.fr,λb w h1 h2=>?_,RX.new,λb h=>?_⟩ ⟨λb w e=>?_,r2.len,r2.nd,λi a m h1 h2=>?_⟩ hp g2 l2 af rfl ⟨_,_,rfl,Den.mono e2.g e2.l _ _ n1,_,_,rfl,n2,rfl⟩ h2
  ·rw[Θ (λz=>by rw[z,hp]at h1;cases h1)];exact RX.out b w h1 h2
  ·by_cases hb:b=p
   ·rw[hb,af];simp
   ·rw[Θ hb];exact RX.Cg b h
  ·rw[Θ (Ye e)];exact r2.sub b w e
  ·have⟨q1,q2⟩:=r2.f_ i a m h1 h2;exact⟨q1,q2.mono (.refl _) (.refl _) (Θ λz=>l2 (by rw[<-z];exact aam h1))⟩
end
def iV{α:Type}(is:List Nat)(xs:List α):List α:=is.filterMap λi=>xs[i]?
def CL{α β:Type}{F:α->β->Prop}:∀{xs:List α} {ys:List β},Paired F xs ys->∀{i:Nat} {x:α},xs[i]? =some x->∃y,ys[i]? =some y/\F x y
 | _,_,.nil,i,x,h=>by simp at h
 | _,_,.cons r t,0,x,h=>by obtain rfl:=aax h;exact⟨_,rfl,r⟩
 | _,_,.cons r t,i+1,x,h=>by have⟨y,e,f⟩:=CL t (show _=some x by simpa using h);exact⟨y,by simpa using e,f⟩
def tV{α β:Type}{F:α->β->Prop}{xs:List α}{ys:List β}(p:Paired F xs ys):∀is:List Nat,Paired F (iV is xs) (iV is ys)
 | []=>.nil
 | i::is=>by
  have ih:=tV p is;unfold iV at ih⊢;rw[acn,acn];cases hx:xs[i]? with
  | none=>
   have:ys[i]? =none:=by rw[List.getElem?_eq_none_iff]at hx⊢;rw[<-Paired.length p];exact hx
   rw[this];exact ih
  | some x=>
   have⟨y,hy,r⟩:=CL p hx;rw[hy];exact .cons r ih
def FN{a b:Nat}(its:List Value)(hb:0 < b)(ha:a<=its.length):slicePick its.toArray (some (a:Int)) none (some (b:Int))=(iV (sliceRange a its.length b) its).toArray:=by
 have hs:sliceBounds (some (a:Int)) none (some (b:Int)) its.length=((a:Int),(its.length:Int),(b:Int)):=by
  unfold sliceBounds;have h1:(b:Int) > 0:=()
  have h2:¬(a:Int) < 0:=()
  simp only[Option.getD_some,h1,if_true,h2,if_false];refine Prod.ext ?_ rfl;show max (0:Int) (min (a:Int) (its.length:Int))=a;omega
 unfold slicePick;rw[aaI,hs]
 congr 1
 unfold iV
 congr 1
 funext i
 simp
section
variable{l k:Expr}{te tl tk:TE}{p2:Pos}
def Sf(K:fI)(a b:Nat)(te tl tk:TE):TE:=λσ H Q=>te σ H λx H1=>tl σ H1 λy H2=>∃i:Int,y= .int i/\some i=some (a:Int)/\tk σ H2 λz H3=>∃j:Int,z= .int j/\some j=some (b:Int)/\∃c xs,x= .ref c/\gC K H3 c xs/\a<=xs.length/\(sliceRange a xs.length b).length<=xs.length/\∀p,H3 p=none->Q (.ref p) (upd H3 p (.lst (iV (sliceRange a xs.length b) xs)))
def HE{α:Type}{xs:List α}:∀is:List Nat,(iV is xs).length<=is.length:=λis=>List.length_filterMap_le _ _
def ND{a b:Nat}(hb:0 < b)(he:PE X e te)(hl:PE X l tl)(hk:PE X k tk):PE X (.Subscript e (.Slice (some l) none (some k) p2) pos) (Sf X.K a b te tl tk):=by intro ζ s σ H Q I h;refine Subscript_ (bH (he ζ s σ H _ I h) λv s1 xz=>?_);have⟨x,H1,I1,r1,q1⟩:=xz;refine wpAny_Slice (bH (lN hl ζ s1 σ H1 (λo H2=>o=some (a:Int)/\tk σ H2 λz H3=>∃j:Int,z= .int j/\some j=some (b:Int)/\∃c xs,x= .ref c/\gC X.K H3 c xs/\a<=xs.length/\(sliceRange a xs.length b).length<=xs.length/\∀p,H3 p=none->Q (.ref p) (upd H3 p (.lst (iV (sliceRange a xs.length b) xs)))) I1 q1) λvl s2 xz=>?_);have⟨o1,H2,I2,pl,el,q2⟩:=xz;rw[evalPart_none];refine aba ?_;refine bH (lN hk ζ s2 σ H2 (λo H3=>o=some (b:Int)/\∃c xs,x= .ref c/\gC X.K H3 c xs/\a<=xs.length/\(sliceRange a xs.length b).length<=xs.length/\∀p,H3 p=none->Q (.ref p) (upd H3 p (.lst (iV (sliceRange a xs.length b) xs)))) I2 q2) λvs s3 xz=>?_;have⟨o,H3,I3,ps,eo,c,xs,ex,hx,ha,hn,q⟩:=xz;subst el eo ex;cases r1;have I4:Inv X ζ σ H3 {s3 with heap:=s3.heap.push {cls:=.type "slice",data:=.fields #[vl,.none,vs]}}:=I3.kept (t':=s3.toks) λb ob q=>aak _ q;have⟨its,r,ht,hz⟩:=I4.list hx;have hlen:=r.length;show wpAny (model X.prog X.w) X.A (subscriptTail e (.Slice (some l) none (some k) p2) (.ref c) (.ref s3.heap.objs.size)) (EP X ζ σ Q) X.xe {s3 with heap:=s3.heap.push {cls:=.type "slice",data:=.fields #[vl,.none,vs]}};refine tail_any (ops:=[.ref c,.ref s3.heap.objs.size]) ht.isList.typeIs slot_list_getitem.lookup ?_ (by with_unfolding_all rfl);refine wpAny_getItem_list_slice ht.isList (Heap.IsSliceOf.new ..) pl .none ps (λz=>by injection z with z;omega) ?_ (by rw[aaI] <;> omega);rw[FN its hb (),<-hlen];refine⟨.ref _,_,I4.laid (t':=s3.toks) (o:=.lst (iV (sliceRange a xs.length b) xs)) (λb ob q=>aak _ q) (aai _) ?_,rfl,q _ (I4.bb.fresh (aai _))⟩;exact⟨aas (HE _) (aas hn hz),_,0,tV r _,aaS _ rfl⟩
end
def Up(td te:TE):TE:=λσ H Q=>td σ H λx H1=>∃a,x= .ref a/\IsD H1 a/\te σ H1 λy H2=>∃b Ν more,y= .ref b/\a≠b/\H2 a=some (.dK Ν)/\Rd H2 b (.dK more)/\Ν.length+more.length<=sizeLine/\Q .bF (upd H2 a (.dK (iu Ν more)))
section
variable{cZ:Pos}{td te:TE}
def LX(ho:PE X o td)(he:PE X e te)(m:M1 X o "update" apos e cZ):PE X (.Call (.Attribute o "update" apos) [e] [] cZ) (Up td te):=by
 intro ζ s σ H Q I h;refine wpAny_Call_method m.base m.few m.line PySem.F.plainAttrs_dict PySem.F.slot_dict_update PySem.F.type_dict_update (bH (ho ζ s σ H _ I h) λu s1 xz=>?_);have⟨x,H1,I1,rx,a,ex,d,q1⟩:=xz;subst ex;obtain rfl:u=Value.ref a:=rx;have⟨t1,t2,_⟩:=Py I1 d;refine⟨t1,t2,?_⟩;rw[m.trees];refine Calls.callWith_builtin rfl (Calls.evalArgs_plain (Calls.spliced_cons (bH (he ζ s1 σ H1 _ I1 q1) fun iv s2 ⟨y,H2,I2,ry,b,Ν,more,ey,lL,hA,hB,hz,q2⟩=>Calls.spliced_nil ?_)));subst ey;obtain rfl:iv=Value.ref b:=ry;have⟨z1,d1,vs,r1,dd1⟩:=Dz I2.bb hA;have⟨z2,d2,rs,r2,VM⟩:=nK I2.bb hB;refine call_meetsIn PySem.F.slot_dict_update dd1.typeIs PySem.F.entry_dict_update (PySem.F.args_dict_update_2 _ _) (meets_dict_update (bI X.prog X.w) a b lL d2) ⟨vs,rs,dd1,VM,by rw[<-r1.length,<-r2.length];exact hz,λh' hm _ hs=>?_⟩;have hex:∃q,h'.get? a=some q:=let ⟨q,_,_,hq,_⟩:=hm;⟨q,hq⟩
 exact⟨.bF,_,qP (t':=s2.toks) I2 (by rw[hA];exact True.intro) hs hex (rO (aas (iE more Ν) hz) d1 (KV.merge r2 r1) hm),rfl,q2⟩
end
section
variable{l k a b:Expr}{tl tk:DE}{p2 cZ:Pos}
def Ol(a b:Nat)(te tl tk:DE):DE:=λρ M q x=>te ρ M (λd M1=>tl ρ M1 (λdi M2=>di= .int a/\tk ρ M2 (λdk M3=>∃ds,kQ M3 d=some ds/\dk= .int b/\a<=ds.length/\(sliceRange a ds.length b).length<=ds.length/\q (.loc M3.length) (M3++[.lst (iV (sliceRange a ds.length b) ds)])) x) x) x
def P6{a b:Nat}(he:JE X R e te)(hl:JE X R l tl)(hk:JE X R k tk)(hb:0 < b:=by decide):JE X R (.Subscript e (.Slice (some l) none (some k) p2) pos) (Ol a b te tl tk):=
 .of (ND hb he hl hk) λσ H G L ρ M q x rl n h hx=>by refine⟨G,L,ρ,M,_,x,rl,n,h,hx,λv H1 xz=>?_⟩;have⟨d1,G1,L1,M1,e1,r1,n1,h1⟩:=xz;refine⟨G1,L1,ρ,M1,_,x,r1,n.mono e1,h1,hx.on e1,λv2 H2 xz=>?_⟩;have⟨d2,G2,L2,M2,e2,r2,n2,ei,h2⟩:=xz;subst ei;have n2:v2= .int a:=n2;subst n2;refine⟨_,rfl,rfl,G2,L2,ρ,M2,_,x,r2,(n.mono e1).mono e2,h2,(hx.on e1).on e2,λv3 H3 xz=>?_⟩;have⟨d3,G3,L3,M3,e3,r3,n3,ds,ed,ek,ha,hn,h3⟩:=xz;subst ek;have n3:v3= .int b:=n3;subst n3;have Ha:=e2.trans e3;have⟨c,vs,rfl,sq,m⟩:=fF r3 (Den.mono Ha.g Ha.l _ _ n1) ed;have hl:=m.length;refine⟨_,rfl,rfl,c,vs,rfl,sq,by rw[<-hl];exact ha,by rw[<-hl];exact hn,λp hp=>?_⟩;rw[<-hl];exact jj (e1.trans Ha) r3 hp (Ψ.of (tV m.pair _)) h3
def qi(ks:List Key):List Key->List Key
 | []=>ks
 | k::r=>qi (gm ks k) r
def sN(ks:List Key)(ds:List Dt):List Key->List Dt->List Dt
 | k::r,d::z7=>sN (gm ks k) (eL ks k ds d) r z7
 | _,_=>ds
def Qr{α:Type}{k:Key}{xs:List α}{v:α}(h:ks.length=xs.length):(gm ks k).length=(eL ks k xs v).length:=by
 unfold gm eL;split
 ·rw[p8 h]
 ·rw[aag,aag,h];rfl
def Qf{K:fI}{k:Key}(n:Den K G L d v)(h:Ψ K G L ds vs)(hl:ks.length=ds.length):Ψ K G L (eL ks k ds d) (eL ks k vs v):=by
 unfold eL;split
 ·exact pw n h hl
 ·exact h.app ⟨_,_,rfl,n,rfl⟩
def DM{K:fI}{G:Hp}{L:List Addr}:∀{vq:List Key} {z7:List Dt} {Ln:List V} {ks:List Key} {ds:List Dt} {vs:List V},vq.length=z7.length->Ψ K G L z7 Ln->ks.length=ds.length->Ψ K G L ds vs->
  ∃us,iu (ks.zip vs) (vq.zip Ln)=(qi ks vq).zip us/\(qi ks vq).length=(sN ks ds vq z7).length/\Ψ K G L (sN ks ds vq z7) us
 | [],[],_,ks,ds,vs,_,h2,hl,h=>by cases h2;exact⟨vs,rfl,hl,h⟩
 | k::vq,d::z7,_,ks,ds,vs,Gb,⟨v,Ln,e,n0,ns⟩,hl,h=>by
  subst e;have Gb:vq.length=z7.length:=by simpa using Gb
  have⟨us,e1,e2,e3⟩:=DM (ks:=gm ks k) (ds:=eL ks k ds d) (vs:=eL ks k vs v) Gb ns (Qr hl) (Qf n0 h hl);refine⟨us,?_,e2,e3⟩;rw[abA];show iu (iI (ks.zip vs) k v) (vq.zip Ln)=(qi (gm ks k) vq).zip us;rw[JJ (hl.trans h.length),e1]
def Ek(to te:DE):DE:=λρ M q x=>to ρ M (λd M1=>(∃k ks ds,d= .loc k/\M1[k]? =some (.eW ks ds))/\te ρ M1 (λd2 M2=>∃k k2 ks ds vq z7,d= .loc k/\d2= .loc k2/\k≠k2/\M2[k]? =some (.eW ks ds)/\M2[k2]? =some (.eW vq z7)/\ks.length+vq.length<=1000/\q .bF (M2.set k (.eW (qi ks vq) (sN ks ds vq z7)))) x) x
def CY(ho:JE X R o to)(he:JE X R e te)(m:M1 X o "update" apos e cZ:=by exact⟨rfl,rfl,rfl,rfl⟩):JE X R (.Call (.Attribute o "update" apos) [e] [] cZ) (Ek to te):=
 .of (LX ho he m) λσ H G L ρ M q x rl n h hx=>by
  refine⟨G,L,ρ,M,_,x,rl,n,h,hx,λv H1 xz=>?_⟩;have⟨d1,G1,L1,M1,e1,r1,n1,⟨k0,ks0,ds0,ed0,hm0⟩,h1⟩:=xz;subst ed0;have⟨a,rfl,hk⟩:=n1;have⟨_,vs0,hH0,_,_⟩:=r1.f_ k0 a _ hk hm0;refine⟨a,rfl,.inl ⟨_,.inl hH0⟩,G1,L1,ρ,M1,_,x,r1,n.mono e1,h1,hx.on e1,λv2 H2 xz=>?_⟩;have⟨d2,G2,L2,M2,e2,r2,n2,k,k2,ks,ds,vq,z7,ed,ed2,lL,hm,YU,hz,h3⟩:=xz;cases ed;subst ed2;have By:=e2.l.get hk;have⟨b,rfl,So⟩:=n2;have⟨_,vs,hH,hl,dn⟩:=r2.f_ k0 a _ By hm;have⟨_,Ln,VI,Gb,RS⟩:=r2.f_ k2 b _ So YU;have z1:(ks.zip vs).length<=ks.length:=by rw[abB];exact Nat.min_le_left _ _
  have z2:(vq.zip Ln).length<=vq.length:=by rw[abB];exact Nat.min_le_left _ _
  have sz:(1000:Nat)<=sizeLine:=@_
  have⟨us,u1,u2,u3⟩:=DM Gb RS hl dn;have ab:a≠b:=λz=>by subst z;have i1:=(aaf.mp By).1;have:=(List.getElem?_inj (l:=L2) i1 r2.nd).mp (By.trans So.symm);exact lL this
  refine⟨b,_,_,rfl,ab,hH,.inl VI,(),?_⟩;exact⟨.bF,G2,L2,_,(e1.trans e2).trans (r2.J5 By),r2.setM (m:=.eW (qi ks vq) (sN ks ds vq z7)) By ⟨us,by rw[af,u1],u2,u3⟩,rfl,h3⟩
end
def HV(P:Program)(w:World)(a:Addr)(Ν:List (Key×V))(ep:Nat)(h:Heap):Prop:=Ν.length<=sizeLine/\(a==sysModules)=false/\∃vs,KV Ν vs/\h.DictAt (bI P w) a vs ep
def Bo(P:Program)(w:World)(a:Addr)(Ν:List (Key×V))(ep:Nat):HO:=.ext (HV P w a Ν ep)
section
variable{P':Program}{w':World}{H:Hp}{h:Heap}{ep:Nat}
def DZ(ok:lR P w H h)(e:H a=some (Bo P' w' a Ν ep)):HV P' w' a Ν ep h:=(ok a _ e).1
def Ra(x:HV P' w' a Ν ep h):b8 P w H h a (Bo P' w' a Ν ep):=by
 refine⟨x,?_,λh1 h2 y k=>?_⟩
 ·have⟨_,_,vs,_,o,es,e,_⟩:=x;exact⟨o,e⟩
 ·have⟨z,hd,vs,r,o,es,e,c⟩:=y;exact⟨z,hd,vs,r,o,es,k _ e,c⟩
end
section
variable{H:Hp}{ep:Nat}
def Inv.Px(I:Inv X ζ σ H s)(mu:RM (H a))(x:HV X.prog X.w a Ν ep s.heap):Inv X ζ σ (upd H a (Bo X.prog X.w a Ν ep)) s:=by
 have he:∃u,s.heap.get? a=some u:=let ⟨_,_,_,_,o,_,e,_⟩:=x;⟨o,e⟩
 exact I.write (x:=a) (e:=a) (h':=s.heap) (t':=s.toks) mu (.inl rfl) (λb u _ q=>q) he (Ra x)
def Inv.walkOut(I:Inv X ζ σ H s)(e:H a=some (Bo X.prog X.w a Ν ep)):Inv X ζ σ (upd H a (.dK Ν)) s:=by
 have⟨z,hd,vs,r,dd⟩:=DZ I.bb e;have he:∃u,s.heap.get? a=some u:=let ⟨o,_,e,_⟩:=dd;⟨o,e⟩
 exact I.write (x:=a) (e:=a) (h':=s.heap) (t':=s.toks) (by rw[e];exact True.intro) (.inl rfl) (λb u _ q=>q) he (rO z hd r dd.dictOf)
def S5{k:Key}{u:Value}(h:(bI P w).is k u=true):aF (kV k) u:=by
 rcases bC h with ⟨i,t,rfl,rfl⟩| ⟨x,t,rfl,rfl⟩
 ·exact⟨t,rfl⟩
 ·exact⟨t,rfl⟩
end
def Yz(P:Program)(w:World)(a:Addr)(Ν:List (Key×V))(ep:Nat):It:=
 ⟨λi H=>H a=some (Bo P w a Ν ep)/\i < Ν.length,λi H x H'=>H'=H/\∃kv,Ν[i]? =some kv/\x=kV kv.1,λi H=>H a=some (Bo P w a Ν ep)/\Ν.length<=i⟩
def GK{K:fI}(a it:Addr)(Ν:List (Key×V))(ep:Nat):Turn P w K tg (Yz P w a Ν ep) [it] it (λi h=>h.IsKeyIter it a i Ν.length ep) where
 mem:=by simp
 obj:=λi h st b hb=>by
  have e:b=it:=by simpa using hb
  subst e;have⟨o,e,c,d⟩:=st;exact⟨o,e,λv z=>by rw[d]at z;cases z⟩
 keep:=λi h h' st k=>by have⟨o,e,r⟩:=st;exact⟨o,k it (by simp) o e,r⟩
 item:=by
  intro X hP hw hK hc i ζ s σ H E I hf st hg;subst hP hw hK;have⟨hq,hi⟩:=hg;have⟨z,hd,vs,rel,dd⟩:=DZ I.bb hq;have⟨f0,f1,f2,f3,f4,f5⟩:=hf it (by simp);have hx:Ν[i]? =some Ν[i]:=aaa hi;have⟨q,Oh,r1,r2⟩:=CL rel hx;have⟨k,v⟩:=q;have X6:s.heap.IsKeyIter it a i vs.length ep:=by rw[<-rel.length];exact st
  refine wpAny_pyNext_dict_item X6 dd Oh λkey h' hk wx sb=>?_;have wx:h'.IsKeyIter it a (i+1) Ν.length ep:=by rw[rel.length];exact wx
  have I1:Inv X ζ σ H {s with heap:=h'}:=I.turned (t':=s.toks) (λb o hb e=>(sb.2 b hb).trans e) f0 f1 f3 f4 f5;have⟨o,e,c,d⟩:=id wx;exact⟨key,rfl,vQ (s:={s with heap:=h'}) e c d @_ ⟨kV k,H,I1,S5 hk,⟨rfl,Ν[i],hx,by rw[r1]⟩,wx,λb hb=>(hf b hb).1⟩⟩
 done:=by
  intro X hP hw hK hc i ζ s σ H E I hf st hg;subst hP hw hK;have⟨hq,hi⟩:=hg;have⟨z,hd,vs,rel,dd⟩:=DZ I.bb hq;have⟨f0,f1,f2,f3,f4,f5⟩:=hf it (by simp);have X6:s.heap.IsKeyIter it a i vs.length ep:=by rw[<-rel.length];exact st
  exact wpAny_pyNext_dict_end (I.ok.hd hc) X6 dd (abT (by rw[<-rel.length];exact hi)) λh' eb=>⟨rfl,I.turned (t':=s.toks) (λb o hb e=>eb b o hb e) f0 f1 f3 f4 f5⟩
 self:=λ_ _ _ _ _ st h=>wpAny_pyIter_keyiter st h
section
variable{H:Hp}{Q:It->Hp->Prop}{E:Value->Shared->Prop}
def LH(I:Inv X ζ σ H s)(e:H a=some (.dK Ν))(q:∀ep,Q (Yz X.prog X.w a Ν ep) (upd H a (Bo X.prog X.w a Ν ep))):wpAny (model X.prog X.w) X.A (pyIter (.ref a)) (Lo X ζ σ tg Q) E s:=by
 have⟨z,hd,vs,rel,dd⟩:=Dz I.bb e;have⟨ep,dd⟩:=dd.dictAt;refine wpAny_pyIter_dict hd dd ?_;have I1:=I.Px (by rw[e];exact True.intro) (show HV X.prog X.w a Ν ep s.heap from⟨z,hd,vs,rel,dd⟩);refine⟨s.heap.objs.size,[s.heap.objs.size],_,_,_,rfl,I1.kept (t':=s.toks) λb o e=>aak _ e,GK a _ Ν ep,⟨_,aaS _ rfl,rfl,by rw[rel.length];rfl⟩,λb hb=>?_,q ep⟩;have e:b=s.heap.objs.size:=by simpa using hb
 subst e;exact I1.C2 (aai _) (I1.bb.fresh (aai _))
end
def Z9(P:Program)(w:World)(D:yL):St->Hp->Prop:=λσ H=>∃a Ν ep,H a=some (Bo P w a Ν ep)/\D.nx σ (upd H a (.dK Ν))
section
variable{t:TS}{td ty:TE}
def FU(h:PS X st t):PS X st (λD σ H=>t {D with nx:=Z9 X.prog X.w D} σ H):=by
 intro ζ s σ H D I h';refine bH (h ζ s σ H _ I h') λf s' sp=>?_;cases f with
 | next=>
  have⟨σ',H',I',a,Ν,ep,e,q⟩:=sp;exact⟨σ',_,I'.walkOut e,q⟩
 | brk=>exact sp
 | cont=>exact sp
 | ret u=>exact sp
def Rv(P:Program)(w:World)(td ty:TE):TE:=λσ H Q=>td σ H λx H1=>ty σ H1 λy H2=>∃a Ν ep k v,x= .ref a/\H2 a=some (Bo P w a Ν ep)/\y=kV k/\jZ Ν k=some v/\Q v H2
def Jr(ho:PE X o td)(hi:PE X i ty)(hs:CF i):PE X (.Subscript o i pos) (Rv X.prog X.w td ty):=by intro ζ s σ H Q I h;refine xE aci.lookup hs (bH (ho ζ s σ H _ I h) fun u s1 ⟨x,H1,I1,rx,q1⟩=>bH (hi ζ s1 σ H1 _ I1 q1) λiv s2 xz=>?_);have⟨y,H2,I2,ry,a,Ν,ep,k,v,ex,e,ey,l,q2⟩:=xz;subst ex ey;obtain rfl:u=Value.ref a:=rx;have⟨z,hd,vs,rel,dd⟩:=DZ I2.bb e;have dd:=dd.dictOf;have⟨w',hw,Fm⟩:=kI.some_of (v:=v) (o:=valueAt vs k) (by rw[<-l];exact rel.val k);exact⟨dd.typeIs,wpAny_getItem_of (si ry) dd.mapOf hw ⟨v,H2,I2.tok _,Fm,q2⟩⟩
end
def Kj:Key->Dt
 | .inl i=>.int i
 | .inr x=>.str x
def Mq{K:fI}{G:Hp}{L:List Addr}:∀k:Key,Den K G L (Kj k) (kV k)
 | .inl _=>rfl
 | .inr _=>rfl
def uk{K:fI}{G:Hp}{L:List Addr}:∀is:List Int,Ψ K G L (is.map Dt.int) (is.map V.int)
 | []=>rfl
 | _::is=>⟨_,_,rfl,rfl,uk is⟩
def AO{K:fI}{G:Hp}{L:List Addr}:∀{is:List Int} {vs:List V},Ψ K G L (is.map Dt.int) vs->vs=is.map V.int
 | [],vs,h=>h
 | i::is,vs,h=>by have⟨v,r,rfl,h1,h2⟩:=h;have h1:v= .int i:=h1;rw[h1,AO h2];rfl
def N8(P:Program)(w:World)(ks:List Key)(is:List Int)(ep:Nat):Addr->HO:=λa=>Bo P w a (ks.zip (is.map V.int)) ep
def u6(g:Dt->En->(En->Prop)->Prop)(tb:DS)(Dn:l_)(k:Nat)(u:Addr->HO)(m:MO):List Key->En->Ms->Prop
 | [],ρ,M=>M[k]? =some (.raw u)/\Dn.nx ρ (M.set k m)
 | x::xs,ρ,M=>M[k]? =some (.raw u)/\g (Kj x) ρ λρ'=>tb {Dn with nx:=u6 g tb Dn k u m xs,ct:=u6 g tb Dn k u m xs,bk:=λρ M=>M[k]? =some (.raw u)/\Dn.nx ρ (M.set k m)} ρ' M
def Uh(P:Program)(w:World)(te:DE)(g:Dt->En->(En->Prop)->Prop)(tb:DS):DS:=λDn ρ M=>te ρ M (λd M1=>∃k ks is,d= .loc k/\M1[k]? =some (.eW ks (is.map Dt.int))/\∀ep,u6 g tb Dn k (N8 P w ks is ep) (.eW ks (is.map Dt.int)) ks ρ (M1.set k (.raw (N8 P w ks is ep)))) Dn.x
def QU(P:Program)(w:World)(t:TE):TI:=λσ H R=>t σ H λv H1=>∃a Ν,v= .ref a/\H1 a=some (.dK Ν)/\∀ep,R (Yz P w a Ν ep) (upd H1 a (Bo P w a Ν ep))
def M9{t:TE}(h:PE X e t):PI X tg e (QU X.prog X.w t):=by intro ζ s σ H R I ht;refine bH (h ζ s σ H _ I ht) λu s1 xz=>?_;have⟨v,H1,I1,rv,a,Ν,ev,ha,q⟩:=xz;subst ev;obtain rfl:u=Value.ref a:=rv;exact LH I1 ha q
section
variable{iter:Expr}{body:List Stmt}{gg:TG}{g:Dt->En->(En->Prop)->Prop}{tb:DS}
def NL(hi:JE X R iter te)(hg:PG X tg gg)(gd:GD X.K gg g)(hb:B2 X R body tb)(hp:PassesOwn (model X.prog X.w) X.A X.env X.xe:=by first| exact PassesOwn.never| exact PassesOwn.leaving)(hc:X.calm=true:=by rfl)(hs:∀x,foldedSetIterable iter X.env x=pure x:=by intro _;rfl):
  JS X R (.For tg iter body [] pos) (Uh X.prog X.w te g tb):=.of (FU (CT hp hc (M9 hi) hg hb hs)) λσ H G L ρ M Dn rl n h hx=>by
 refine⟨G,L,ρ,M,_,_,rl,n,h,hx,λv H1 xz=>?_⟩;have⟨d,G1,L1,M1,e1,r1,n1,k,ks,is,ed,hk,h1⟩:=xz;subst ed;have⟨a,rfl,HA⟩:=n1;have⟨hGa,vs,hH,hl,dn⟩:=r1.f_ k a _ HA hk;have hvs:=AO dn;subst hvs;rw[aac]at hl;refine⟨a,_,rfl,hH,λep=>?_⟩;have h1:=h1 ep;generalize hu:N8 X.prog X.w ks is ep=u at h1;have V4:Bo X.prog X.w a (ks.zip (is.map V.int)) ep=u a:=by rw[<-hu];rfl
 have r2:Rl X.K G1 L1 (M1.set k (.raw u)) (upd H1 a (Bo X.prog X.w a (ks.zip (is.map V.int)) ep)):=r1.setM (m:=.raw u) HA (show upd H1 a _ a=some (u a) by rw[af,V4]);have e2:Ex G1 L1 H1 G1 L1 (upd H1 a (Bo X.prog X.w a (ks.zip (is.map V.int)) ep)):=r1.J5 HA;have zl:(ks.zip (is.map V.int)).length=ks.length:=by rw[abB,aac];omega
 generalize VI:upd H1 a (Bo X.prog X.w a (ks.zip (is.map V.int)) ep)=H2 at r2 e2;have JM:=e1.trans e2;have out:∀{G':Hp} {L':List Addr} {H':Hp} {M':Ms} {ρ':En} {σ':St},Ex G1 L1 H2 G' L' H'->Rl X.K G' L' M' H'->md X.K G' L' ρ' σ'->M'[k]? =some (.raw u)->Dn.nx ρ' (M'.set k (.eW ks (is.map Dt.int)))->Z9 X.prog X.w (u_ X.K G L H Dn) σ' H':=λ{G' L' H' M' ρ' σ'} e' r' n' hm UB=>by have BJ:=e'.l.get HA;have Uj:H' a=some (u a):=(r'.f_ k a _ BJ hm).2;refine⟨a,ks.zip (is.map V.int),ep,by rw[V4];exact Uj,ρ',G',L',_,(JM.trans e').trans (r'.J5 BJ),r'.setM (m:=.eW ks (is.map Dt.int)) BJ ⟨is.map V.int,af,by rw[aac];exact hl,uk is⟩,n'.mono (r'.J5 (o:=.own a) BJ),UB⟩
 refine⟨λi m σ' H'=>m+i=ks.length/\fc X.K G1 L1 H2 (λρ' M'=>u6 g tb Dn k u (.eW ks (is.map Dt.int)) (ks.drop i) ρ' M') σ' H',⟨ks.length,rfl,ρ,G1,L1,_,.refl _ _ _,r2,n.mono e1,by rw[acH];exact h1⟩,?_⟩;rintro i m σ' H' ⟨hm,ρ',G',L',M',e',r',n',h'⟩;have BJ:=e'.l.get HA;by_cases hi:i < ks.length
 ·right;rw[abt hi]at h';have⟨NQ,h'⟩:=h';have Uj:H' a=some (u a):=(r'.f_ k a _ BJ NQ).2;refine⟨⟨by rw[V4];exact Uj,()⟩,fc X.K G1 L1 H2 (λρ' M'=>u6 g tb Dn k u (.eW ks (is.map Dt.int)) (ks.drop (i+1)) ρ' M'),λσ2 H3 f=>⟨m - 1,(),(),f⟩,λv H3 hy=>?_⟩;have⟨rfl,kv,hkv,rfl⟩:=hy;have JN:kv.1=ks[i]:=by rw[List.getElem?_zip_eq_some]at hkv;have:=hkv.1;rw[aaa hi]at this;exact(aax this).symm
  rw[JN];refine gd G' L' M' H3 _ _ ρ' σ' _ _ r' (Mq _) n' h' λρ3 σ3 n3 h3=>?_;refine⟨G',L',ρ3,M',_,r',n3,h3,hx.on (JM.trans e'),⟨λ_ _ f=>fc.back e' f,λ_ _ f=>Fin.back (JM.trans e') f,λσ4 H4 f=>?_,λ_ _ f=>fc.back e' f⟩⟩;have⟨ρ4,G4,L4,M4,e4,r4,n4,hm4,h4⟩:=f;exact out (e'.trans e4) r4 n4 hm4 h4
 ·left;rw[ab7 ()]at h';have Uj:H' a=some (u a):=(r'.f_ k a _ BJ h'.1).2;exact⟨⟨by rw[V4];exact Uj,()⟩,out e' r' n' h'.1 h'.2⟩
def Rr(P:Program)(w:World)(to ti:DE):DE:=λρ M q x=>to ρ M (λd M1=>ti ρ M1 (λdi M2=>∃k ks is ep key j,d= .loc k/\M2[k]? =some (.raw (N8 P w ks is ep))/\BS di=some key/\dw ks (is.map Dt.int) key=some (.int j)/\q (.int j) M2) x) x
def LV(ho:JE X R o to)(hi:JE X R i ti)(hs:CF i:=by intro _ _;rfl):JE X R (.Subscript o i pos) (Rr X.prog X.w to ti):=
 .of (Jr ho hi hs) λσ H G L ρ M q x rl n h hx=>by refine⟨G,L,ρ,M,_,x,rl,n,h,hx,λv H1 xz=>?_⟩;have⟨d1,G1,L1,M1,e1,r1,n1,h1⟩:=xz;refine⟨G1,L1,ρ,M1,_,x,r1,n.mono e1,h1,hx.on e1,λv2 H2 xz=>?_⟩;have⟨d2,G2,L2,M2,e2,r2,n2,k,ks,is,ep,key,j,ed,hm,hk,hg,h2⟩:=xz;subst ed;have⟨a,rfl,JN⟩:=n1;have QA:=e2.l.get JN;have hH:H2 a=some (N8 X.prog X.w ks is ep a):=(r2.f_ k a _ QA hm).2;obtain rfl:v2=kV key:=lJ hk n2;have⟨v,hv,dv⟩:=pD (K:=X.K) (G:=G2) (L:=L2) (uk is) hg;exact⟨a,_,ep,key,v,rfl,hH,rfl,hv,_,G2,L2,M2,e1.trans e2,r2,dv,h2⟩
end
section
variable{k1 v1 k2 v2:Expr}{s1 t1 s2 t2:DE}
structure Hn(K:fI)(G0:Hp)(L0:List Addr)(H0:Hp)(p:Addr)(G:Hp)(L:List Addr)(M:Ms)(H:Hp):Prop where
 ex:Ex G0 L0 (upd H0 p (.dK [])) G L H
 rl:Rl K G L M H
 at_:H p=some (.dK [])
 g:G p=none
 l:p∉L
def Hn.on{K:fI}{G0:Hp}{L0:List Addr}{H0:Hp}{H:Hp}(a:Hn K G0 L0 H0 p G L M H){G':Hp}{L':List Addr}{M':Ms}{H':Hp}(e:Ex G L H G' L' H')(r:Rl K G' L' M' H'):Hn K G0 L0 H0 p G' L' M' H':=
 ⟨a.ex.trans e,r,e.out _ _ a.at_ a.l,e.fr _ a.g (by rw[a.at_];simp),λz=>(e.new _ z).elim a.l λq=>by rw[a.at_]at q;cases q⟩
def SU{K:fI}{H:Hp}(rl:Rl K G L M H)(hp:H p=none):Ex G L H G L (upd H p (.dK []))/\Hn K G L H p G L M (upd H p (.dK [])):=by
 have gn:G p=none:=rl.sub.free hp;have ln:p∉L:=rl.MM hp;have e0:Ex G L H G L (upd H p (.dK [])):=⟨.refl _,.refl _,λ_ h _=>h,λb u h1 _=>by rw[Θ (λz=>by rw[z,hp]at h1;cases h1)];exact h1,λ_ h=>.inl h,λb h=>by rw[Θ (λz=>h (by rw[z];exact hp))];exact h⟩
 have r0:Rl K G L M (upd H p (.dK [])):=⟨λb u e=>by rw[Θ (λz=>by rw[z,gn]at e;cases e)];exact rl.sub b u e,rl.len,rl.nd,λi a m h1 h2=>by
  have⟨q1,q2⟩:=rl.f_ i a m h1 h2
  exact⟨q1,q2.mono (.refl _) (.refl _) (Θ λz=>q2.there (by rw[z];exact hp))⟩⟩
 exact⟨e0,.refl _ _ _,r0,af,gn,ln⟩
def Hn.fin{K:fI}{G0:Hp}{L0:List Addr}{H0:Hp}{H:Hp}{q:DQ}(a:Hn K G0 L0 H0 p G L M H)(e0:Ex G0 L0 H0 G0 L0 (upd H0 p (.dK [])))(hp:H0 p=none)(hk:ks.length=ds.length)(n:Ψ K G L ds vs)(k:q (.loc M.length) (M++[.eW ks ds])):Fin K G0 L0 H0 q (.ref p) (upd H p (.dK (ks.zip vs))):=by
 have e:=e0.trans a.ex;have Ye:∀{b:Addr} {w:HO},G b=some w->b≠p:=λe z=>by rw[z,a.g]at e;cases e
 refine Fb (G:=G) (L:=L) (M:=M) (ks:=ks) (ds:=ds) (vs:=vs) ⟨e.g,e.l,e.fr,λb w h1 h2=>?_,e.new,λb h=>?_⟩ ⟨λb w e=>?_,a.rl.len,a.rl.nd,λi c m h1 h2=>?_⟩ hp a.g a.l af hk n k
 ·rw[Θ (λz=>by rw[z,hp]at h1;cases h1)];exact e.out b w h1 h2
 ·by_cases hb:b=p
  ·rw[hb,af];simp
  ·rw[Θ hb];exact e.Cg b h
 ·rw[Θ (Ye e)];exact a.rl.sub b w e
 ·have⟨q1,q2⟩:=a.rl.f_ i c m h1 h2;exact⟨q1,q2.mono (.refl _) (.refl _) (Θ λz=>a.l (by rw[<-z];exact aam h1))⟩
def Ig(s1 t1:DE):DE:=λρ M q x=>s1 ρ M (λc1 M1=>t1 ρ M1 (λd1 M2=>∃y1,BS c1=some y1/\q (.loc M2.length) (M2++[.eW [y1] [d1]])) x) x
def Ji(JN:JE X R k1 s1)(W0:JE X R v1 t1):JE X R (.Dict [some k1] [v1] pos) (Ig s1 t1):=
 .of (EV (sZ JN W0 Ej) rfl rfl (by simp) (by show 1<=15;decide)) λσ H G L ρ M q x rl n h hx=>by intro p hp;have⟨e0,a0⟩:=SU rl hp;refine⟨G,L,ρ,M,_,x,a0.rl,n,h,hx.on e0,λu1 H1 xz=>?_⟩;have⟨d1,G1,L1,M1,e1,r1,n1,h1⟩:=xz;have a1:=a0.on e1 r1;refine⟨G1,L1,ρ,M1,_,x,r1,n.mono (e0.trans e1),h1,hx.on (e0.trans e1),λu2 H2 xz=>?_⟩;have⟨d2,G2,L2,M2,e2,r2,n2,y1,hy,h2⟩:=xz;have a2:=a1.on e2 r2;obtain rfl:u1=kV y1:=lJ hy n1;refine⟨a2.at_,[(y1,u2)],rfl,by show 1<=15;decide,?_⟩;rw[qd _ [] (λ_ _=>rfl) (by simp),List.nil_append];exact a2.fin (ks:=[y1]) (ds:=[d2]) (vs:=[u2]) e0 hp rfl ⟨_,_,rfl,n2,rfl⟩ h2
end
def KR:List Dt->Ms->DQ->Prop
 | [d],M,q=>∃k ks ds,d= .loc k/\M[k]? =some (.eW ks ds)/\q (.int ks.length) M
 | _,_,_=>False
def S2{K:fI}:EA K (λxs H Q=>∃a Ν,xs=[V.ref a]/\H a=some (.dK Ν)/\Q (.int Ν.length) H) KR:=by
 intro G0 L0 H0 G L M H vs ds q e r n h;unfold KR at h;split at h
 ·have⟨k,ks,ds,rfl,hm,h⟩:=h;have⟨v,rfl,n1⟩:=bw n;have⟨a,rfl,hk⟩:=n1;have⟨_,vs,hH,hl,dn⟩:=r.f_ k a _ hk hm;refine⟨a,_,rfl,hH,.int ks.length,G,L,M,e,r,?_,h⟩;show V.int _=V.int _;rw[abB,<-dn.length,<-hl,Nat.min_self]
 ·exact h.elim
section
variable{p:Pos}
def Iq(hm:X.mg "len"=none)(ha:JA X R [e] t)(hg:Gl X "len":=by rfl)(he:starEach [e] X.env=(false,eval e X.env)::starEach [] X.env:=by rfl)(gy:(backTo pos (starEach [] X.env)).any (·.1)=false:=by rfl):JE X R (.Call (.Name "len" p) [e] [] pos) (CQ KR t):=
 ij GA S2 hm PySem.boot_len ha hg @_ @_ he gy
end
structure FG(K:fI)(x:Str)(st:Stmt)(T:Addr)(its:Array Value)(f:Addr)(fd:FuncData):Prop where
 ex:∃(oc:Value) (od:Option Addr) (kV doc pm:Value) (an:Option Addr) (aX ct:Value) (Be:Array (Option Value)),
  fd=PySem.W.fnOf x x (gz st) (dY st) (τ st) (.ref T) kV doc pm an aX ct/\K.lookup f=some ⟨oc,od,.func fd,Be⟩/\PySem.W.codeIn K aX x=true
 tup:∃o n,K.lookup T=some o/\o.data= .seq its n
 kp:PySem.W.keepIn K (.ref f)=true
section
variable{K:fI}{mg:Str->Option Value}{base:Heap}
def FG.dE{U:Addr}{N:List Str}{k:Nat}{T:DF}(F:FG K x st U its f fd)(S:Ε N ps (τ st))(len:∀ds M q x,T ds M q x->ds.length=ps.length)
  (sV:∀(aX:Value) (A:Around) (outer:List Env) (s:Shared) (H:Hp) (E:XK),bT k (A.deeper (envOfC x (τ st) s.heap.objs.size f aX))->
   ∃t,B2 (uV (bY P w) P w K mg base N x (τ st) f aX A outer s H E) (λ_=>E) (dY st) t/\∀ds M q x,T ds M q x->t {nx:=λ_ M'=>q .bF M',rt:=q,x:=λ_=>x} (kF N ds) M):
  av P w K mg base (bY P w) (k+1) f fd ps (cK K T):=by
 have⟨oc,od,kV,doc,pm,an,aX,ct,Be,rfl,lk,Dv⟩:=F.ex;refine OC lk Dv S (λvs H Q E h=>?_) λA outer s H vs Q E hr h=>?_
 ·have⟨G,L,ds,M,q,x,rl,n,hT,_⟩:=h;rw[<-n.length];exact len _ _ _ _ hT
 ·have⟨t,j,ht⟩:=sV aX A outer s H E hr;have⟨G,L,ds,M,q,x,rl,n,hT,hQ,hE⟩:=h;refine⟨_,j,G,L,kF N ds,M,_,rl,zd n,ht ds M q x hT,λσ ρ C fs M' G' L' H' od hx e r _ y=>hE C fs M' G' L' H' od hx e r y,⟨λσ' H' ⟨ρ',G',L',M',e,r,_,h⟩=>hQ _ _ ⟨.bF,G',L',M',e,r,rfl,h⟩,λv H' f=>hQ v H' f,λ_ _ ⟨_,_,_,_,_,_,_,h⟩=>h.elim,λ_ _ ⟨_,_,_,_,_,_,_,h⟩=>h.elim⟩⟩
def FG.binds{U:Addr}{ds:List Value}(F:FG K x st U its f fd)
  (h:∀(kV doc pm:Value) (an:Option Addr) (aX ct:Value) (us:List Value),(us++ds).length=ps.length->∃k,bindArgs (PySem.W.fnOf x x (gz st) (dY st) (τ st) (.ref U) kV doc pm an aX ct) ⟨us,[]⟩=(seqItems? (.ref U) >>= k)/\k (some its)=pure (ps.zip (us++ds))):iq K fd ps ds:=by
 have⟨oc,od,kV,doc,pm,an,aX,ct,Be,rfl,lk,Dv⟩:=F.ex;have⟨o,n,l,e⟩:=F.tup;intro s us hK hl;have⟨k,h1,h2⟩:=h kV doc pm an aX ct us hl;exact BindsTo.of_defaults rfl (hK _ _ l) e h1 h2
structure PU(P:Program)(w:World)(K:fI)(mg:Str->Option Value)(base:Heap)(k:Nat)(x:Str)(ps:List Str)(T:DF)(OQ:List Dt)(f:Addr)(fd:FuncData):Prop where
 ok:av P w K mg base (bY P w) k f fd ps (cK K T)
 b:∃(oy:List V) (ds:List Value),iq K fd ps ds/\aC oy ds/\∀G L,Ψ K G L OQ oy
 m:mg x=some (.ref f)
 kp:PySem.W.keepIn K (.ref f)=true
end
def zV{K:fI}{G:Hp}{L:List Addr}:∀{ds es:List Dt} {vs us:List V},Ψ K G L ds vs->Ψ K G L es us->Ψ K G L (ds++es) (vs++us)
 | [],_,vs,us,h,k=>by obtain rfl:vs=[]:=h;exact k
 | _::_,_,_,_,⟨v,r,e,a,b⟩,h=>by subst e;exact⟨v,_,rfl,a,zV b h⟩
def P4(T:DF)(OQ:List Dt)(t:DA):DE:=λρ M q x=>t ρ M (λds M1=>T (ds++OQ) M1 q (λC fs M'=>x ρ C fs M')) x
section
variable{T:DF}{k:Nat}{OQ:List Dt}{p:Pos}{es:List Expr}
def T'(C:PU X.prog X.w X.K X.mg X.base k x ps T OQ f fd)(hr:bT k' X.A)(hx:df (bY X.prog X.w) X R)(ha:JA X R (e::es) t)(hk:k<=k':=by decide)(hg:Gl X x:=by rfl)(uR:(x==("__debug__":Str))=false:=by decide)
  (he:starEach (e::es) X.env=(false,eval e X.env)::starEach es X.env:=by rfl) (gy:(backTo pos (starEach es X.env)).any (·.1)=false:=by rfl):JE X R (.Call (.Name x p) (e::es) [] pos) (P4 T OQ t):=by
 have⟨oy,ds,hb,hv,hd⟩:=C.b;refine .of (zS C.ok (hr.mono hk) hg C.m C.kp hb hv hx ha uR he gy) λσ H G L ρ M q x rl n h hx=>?_;refine⟨G,L,ρ,M,_,x,rl,n,h,hx,λvs H1 xz=>?_⟩;have⟨ds,G1,L1,M1,e1,r1,n1,h1⟩:=xz;exact⟨G1,L1,ds++OQ,M1,q,_,r1,zV n1 (hd G1 L1),h1,λv H' f=>Fin.back e1 f,λC fs M' G' L' H' od hq e' r' y=>hx σ ρ C fs M' G' L' H' od hq (e1.trans e') r' (n.mono (e1.trans e')) y⟩
end
def UN(K:fI)(n:Nat):R2:=λx y H Q=>∃p xs,∃f:Nat->Bool,y= .ref p/\gC K H p xs/\(∀j z,xs[j]? =some z->Jh K H n z x (f j))/\Q (.bl ((List.range xs.length).any f)) H
def Rj(hu:X.A.units+(n+1) < cLine):jS X (compareOp .In) (UN X.K n):=by
 intro ζ s σ H x y v u Q I rx ry h;have⟨p,xs,f,rfl,hq,hf,q⟩:=h;cases ry;have⟨its,r,pl,hz⟩:=I.list hq
 classical
 have hu':X.A.in1.units+n < cLine:=by show X.A.units+1+n < cLine;omega
 refine SeqAt.in_listAt (λw=>decide (∃j z,xs[j]? =some z/\aF z w/\f j=true)) pl.isList (λw hw=>?_) ⟨.bl _,H,I,rfl,?_⟩
 ·have⟨j,hj,rfl⟩:=Array.mem_iff_getElem.mp hw;have⟨z,hz,rz⟩:=dQ r hj;by_cases c:∃j' z,xs[j']? =some z/\aF z its.toArray[j]/\f j'=true
  ·rw[aaB c];have⟨j',z',h1,h2,h3⟩:=c;exact h3▸xa I (hf j' z' h1) h2 rx hu'
  ·rw[aaG c];have:f j=false:=by
    cases e:f j with
    | false=>rfl
    | true=>exact aaJ ⟨j,z,hz,rz,e⟩ c
   exact this▸xa I (hf j z hz) rz rx hu'
 ·have:its.toArray.any (λw=>decide (∃j z,xs[j]? =some z/\aF z w/\f j=true))=(List.range xs.length).any f:=by
   rw[acw,Array.any_eq_true,List.any_eq_true];refine⟨fun⟨i,hi,h⟩=>?_,fun⟨j,hj,h⟩=>?_⟩
   ·have⟨j,z,h1,_,h3⟩:=aaA h;exact⟨j,aa4.mpr (aaf.mp h1).1,h3⟩
   ·have hj:=aa4.mp hj;have hi:j < its.toArray.size:=by rw[aaI,<-r.length];exact hj
    have⟨z,hz,rz⟩:=dQ r hi;exact⟨j,hi,aaB ⟨j,z,hz,rz,h⟩⟩
  rw[this];exact q
def Qy(n:Nat):Dt->Dt->Ms->DQ->Prop:=λd e M q=>∃xs,∃f:Nat->Bool,kQ M e=some xs/\(∀j z,xs[j]? =some z->ow M n z d (f j))/\q (.bl ((List.range xs.length).any f)) M
def YY{K:fI}:oz K (UN K n) (Qy n):=by intro G0 L0 H0 G L M H v1 v2 d1 d2 q e r n1 n2 ⟨xs,f,h1,h2,hq⟩;have⟨a,vs,rfl,sq,m⟩:=fF r n2 h1;refine⟨a,vs,f,rfl,sq,λj z hz=>?_,by rw[<-m.length];exact bG e r hq⟩;have⟨d,hd,dn⟩:=m.back hz;exact N9 r (h2 j d hd) dn n1
section
variable{a b:Expr}
def Oj(n:Nat)(hr:bT k' X.A)(ja:JE X R a ta)(jb:JE X R b tb)(hn:n+1<=64:=by decide)(hm:behindInMarks .In b=false:=by rfl):JE X R (.Compare a [.In] [b] pos) (lI (Qy n) ta tb):=vB (Rj (RZ hr hn)) YY ja jb hm
end
end L2
namespace Fr0
variable{b t:Int}
def g(a b:Int):Int:=(Int.gcd a b:Nat)
def zW{a:Int}(h:b≠0):0 < g a b:=by have:=Int.gcd_pos_of_ne_zero_right a h;unfold g;omega
def I0{a:Int}(h:0<=a):g a 0=a:=by unfold g;rw[Int.gcd_zero_right];omega
def J3{a:Int}(hb:0 < b):g b (a.fmod b)=g a b:=by
 unfold g;rw[abS a (aaj hb),Int.gcd_comm a b]
 congr 1
 refine Int.gcd_right_eq_iff.mpr λc hc=>?_;rw[Int.emod_def];constructor
 ·intro h;have:=Int.dvd_add h (Int.dvd_mul_of_dvd_left (c:=a / b) hc);rwa[Int.sub_add_cancel]at this
 ·intro h;exact Int.dvd_sub h (Int.dvd_mul_of_dvd_left (c:=a / b) hc)
def Oy(a b:Int):g (if a < 0 then -a else a) (if b < 0 then -b else b)=g a b:=by unfold g;split <;> split <;> simp
def dv(t b:Int):Int:=if b < 0 then -(g t b) else g t b
def aA(t b:Int):Int×Int:=(t.fdiv (dv t b),b.fdiv (dv t b))
def EC(h:b≠0):dv t b≠0:=by have:=zW (a:=t) h;unfold dv;split <;> omega
def AN{k p:Int}(h:k≠0):(k * p).fdiv k=p:=by rw[aa7];exact Int.mul_fdiv_cancel p h
def Kw(h:b≠0):∃p q:Int,t=dv t b * p/\b=dv t b * q/\0 < q/\Int.gcd p q=1:=by
 have hg:=zW (a:=t) h;have h0:0 < Int.gcd t b:=Int.gcd_pos_of_ne_zero_right t h;have⟨p,hp⟩:=Int.gcd_dvd_left t b;have⟨q,hq⟩:=Int.gcd_dvd_right t b;have hc:Int.gcd p q=1:=by
  have e:=Int.gcd_ediv_gcd_ediv_gcd h0;have n0:(Int.gcd t b:Int)≠0:=()
  have e1:t / (Int.gcd t b:Int)=p:=by
   conv=>lhs;arg 1;rw[hp]
   exact abx p n0
  have e2:b / (Int.gcd t b:Int)=q:=by
   conv=>lhs;arg 1;rw[hq]
   exact abx q n0
  rwa[e1,e2]at e
 have Al:t=g t b * p:=hp;have qp:b=g t b * q:=hq;by_cases hb:b < 0
 ·have hd:dv t b= -(g t b):=by unfold dv;rw[if_pos hb]
  refine⟨-p,-q,?_,?_,?_,?_⟩
  ·rw[hd,Int.neg_mul_neg];exact Al
  ·rw[hd,Int.neg_mul_neg];exact qp
  ·have:g t b * q < 0:=by rw[<-qp];exact hb
   by_cases q0:0<=q
   ·exact aaJ (abi (aaj hg) q0) ()
   ·omega
  ·simpa using hc
 ·have hd:dv t b=g t b:=by unfold dv;rw[if_neg hb]
  refine⟨p,q,by rw[hd];exact Al,by rw[hd];exact qp,?_,hc⟩;have:0 < g t b * q:=by rw[<-qp];omega
  exact Int.pos_of_mul_pos_right this hg
def gH  (h : b ≠ 0) : ∃p q : Int,aA t b = (p,q) /\ 0 < q /\ Int.gcd p q = 1 /\ t = dv t b * p /\ b = dv t b * q :=by
  obtain⟨p,q,hp,hq,h0,hc⟩ :=Kw (t :=t) h;have n0 :=EC (t :=t) h;refine⟨p,q,?_,h0,hc,hp,hq⟩;unfold aA
  have e1 : t.fdiv (dv t b) = p := by conv => lhs; arg 1; rw [hp]
                                      exact AN n0
  have e2 : b.fdiv (dv t b) = q := by conv => lhs; arg 1; rw [hq]
                                      exact AN n0
  rw[e1,e2]
def cE(h:b≠0):t * (aA t b).2=b * (aA t b).1:=by
 have⟨p,q,e,_,_,hp,hq⟩:=gH (t:=t) h;rw[e];show t * q=b * p
 calc t * q=dv t b * p * q:=by rw[<-hp]
  _=dv t b * q * p:=by rw[acA,aa7 p q,<-acA]
  _=b * p:=by rw[<-hq]
def cM(h:b≠0):0 < (aA t b).2:=by have⟨p,q,e,h0,_⟩:=gH (t:=t) h;rw[e];exact h0
def Am(h:b≠0):Int.gcd (aA t b).1 (aA t b).2=1:=by have⟨p,q,e,_,hc,_⟩:=gH (t:=t) h;rw[e];exact hc
def qv{k m n:Int}(h:k∣m * n)(hc:Int.gcd k m=1):k∣n:=by have:=(Int.dvd_gcd_mul_iff_dvd_mul (k:=k) (n:=m) (m:=n)).mpr h;rw[hc]at this;simpa using this
def CA{p q p' q':Int}(hq:0 < q)(qp:0 < q')(h:Int.gcd p q=1)(h':Int.gcd p' q'=1)(e:p * q'=p' * q):p=p'/\q=q':=by
 have d1:q∣q':=by have:q∣p * q':=⟨p',by rw[e,aa7]⟩;exact qv this (by rw[Int.gcd_comm];exact h)
 have d2:q'∣q:=by have:q'∣p' * q:=⟨p,by rw[<-e,aa7]⟩;exact qv this (by rw[Int.gcd_comm];exact h')
 have eq:q=q':=Int.le_antisymm (ace qp d1) (ace hq d2);subst eq;exact⟨Int.eq_of_mul_eq_mul_right () e,rfl⟩
def xh{p q:Int}(h:b≠0)(hq:0 < q)(hc:Int.gcd p q=1)(e:t * q=b * p):aA t b=(p,q):=by
 have h1:=cE (t:=t) h;have h2:=cM (t:=t) h;have h3:=Am (t:=t) h;have h4:(aA t b).1 * q=p * (aA t b).2:=by
  have:b * ((aA t b).1 * q)=b * (p * (aA t b).2):=by rw[<-acA,<-h1,Int.mul_right_comm,e,acA]
  exact aaZ h this
 have:=CA h2 hq h3 hc h4;exact Prod.ext this.1 this.2
def wm{p q:Int}(hq:0 < q)(hc:Int.gcd p q=1):aA p q=(p,q):=xh () hq hc (aa7 _ _)
def wH(h:b≠0):(dv t b).natAbs<=b.natAbs:=by
 have e:(dv t b).natAbs=Int.gcd t b:=by unfold dv g;split <;> omega
 rw[e];exact Int.gcd_le_natAbs_right t h
def uo  (h : b ≠ 0) : (aA t b).1.natAbs <= t.natAbs :=by
  obtain⟨p,q,e,_,_,hp,_⟩ :=gH (t :=t) h;have n0 :=EC (t :=t) h;rw[e];show p.natAbs <= t.natAbs
  have : t.natAbs = (dv t b).natAbs * p.natAbs := by conv => lhs; rw [hp]
                                                     exact abj _ _
  rw[this];exact Nat.le_mul_of_pos_left _ ()
def kZ  (h : b ≠ 0) : (aA t b).2.natAbs <= b.natAbs :=by
  obtain⟨p,q,e,_,_,_,hq⟩ :=gH (t :=t) h;have n0 :=EC (t :=t) h;rw[e];show q.natAbs <= b.natAbs
  have : b.natAbs = (dv t b).natAbs * q.natAbs := by conv => lhs; rw [hq]
                                                     exact abj _ _
  rw[this];exact Nat.le_mul_of_pos_left _ ()
def M8(h:0 < b):aA t b=(t.fdiv (g t b),b.fdiv (g t b)):=by unfold aA dv;rw[aav ()]
end Fr0
namespace Tx
open PySem PySem.NumText
end Tx
namespace Bz
variable{f:Nat->Int}{n i a m:Nat}{ν ρ:List Nat}{d B:Int}
abbrev Row:=Nat->Int
variable{γ:List Row}{A W:Nat->Row}{w:Row}
abbrev Fn:=List Nat->Int
def Lx(x:Row):Fn->Fn
 | _,[]=>0
 | F,c::cs=>x c * F cs - Lx x (λt=>F (c::t)) cs
def BX(x:Row):∀(cs:List Nat) (F G:Fn),Lx x (λt=>F t+G t) cs=Lx x F cs+Lx x G cs
 | [],F,G=>by simp[Lx]
 | c::cs,F,G=>by have:=BX x cs (λt=>F (c::t)) (λt=>G (c::t));simp only[Lx];rw[this];grind
def mF(x:Row)(k:Int):∀(cs:List Nat) (F:Fn),Lx x (λt=>k * F t) cs=k * Lx x F cs
 | [],F=>by simp[Lx]
 | c::cs,F=>by have:=mF x k cs (λt=>F (c::t));simp only[Lx];rw[this];grind
def JG(x:Row)(cs:List Nat)(F G:Fn):Lx x (λt=>F t - G t) cs=Lx x F cs - Lx x G cs:=by
 have h1:=BX x cs F (λt=>(-1) * G t);have h2:=mF x (-1) cs G;have e:(λt=>F t - G t)=λt=>F t+(-1) * G t:=by funext t;grind
 rw[e,h1,h2];grind
def EG(x:Row):∀(cs:List Nat),Lx x (λ_=>0) cs=0
 | []=>rfl
 | c::cs=>by simp only[Lx];rw[EG x cs];simp
def xK(x y:Row):∀(cs:List Nat) (F:Fn),Lx x (Lx y F) cs= - Lx y (Lx x F) cs
 | [],F=>rfl
 | c::cs,F=>by have ih:=xK x y cs (λt=>F (c::t));have e1:(λt=>Lx y F (c::t))=λt=>y c * F t - Lx y (λu=>F (c::u)) t:=rfl;have e2:(λt=>Lx x F (c::t))=λt=>x c * F t - Lx x (λu=>F (c::u)) t:=rfl;show x c * Lx y F cs - Lx x (λt=>Lx y F (c::t)) cs= -(y c * Lx x F cs - Lx y (λt=>Lx x F (c::t)) cs);rw[e1,e2,JG,JG,mF,mF,ih];grind
def NO(x:Row)(cs:List Nat)(F:Fn):Lx x (Lx x F) cs=0:=by have:=xK x x cs F;omega
def xS(x:Row)(d:Nat):∀(cs:List Nat) (F:Fn),Lx x F (cs++[d])=Lx x (λt=>F (t++[d])) cs+(-1) ^ cs.length * (x d * F cs)
 | [],F=>by simp[Lx]
 | c::cs,F=>by have:=xS x d cs (λt=>F (c::t));show x c * F (cs++[d]) - Lx x (λt=>F (c::t)) (cs++[d])=_;rw[this];show _=(x c * F (cs++[d]) - Lx x (λt=>F (c::(t++[d]))) cs)+(-1) ^ (cs.length+1) * (x d * F (c::cs));have e:(λt=>F (c::(t++[d])))=λt=>(λu=>F (c::u)) (t++[d]):=rfl;rw[e,abU];grind
def AU(x:Row){F G:Fn}{n:Nat}:∀(cs:List Nat),(∀t,t.length+1=cs.length->F t=G t)->Lx x F cs=Lx x G cs:=by
 intro cs
 induction cs generalizing F G with
 | nil=>intro _;rfl
 | cons c cs ih=>
  intro h;simp only[Lx];rw[h cs (by simp),ih (F:=λt=>F (c::t)) (G:=λt=>G (c::t)) λt ht=>h (c::t) (by simp;omega)]
def Δ(f:Nat->Int):Nat->Int
 | 0=>0
 | n+1=>Δ f n+f n
def gW(f g:Nat->Int):∀n,Δ (λi=>f i+g i) n=Δ f n+Δ g n
 | 0=>rfl
 | n+1=>by simp only[Δ];rw[gW f g n];omega
def Χ(k:Int)(f:Nat->Int):∀n,Δ (λi=>k * f i) n=k * Δ f n
 | 0=>by simp[Δ]
 | n+1=>by simp only[Δ];rw[Χ k f n,Int.mul_add]
def χ{f g:Nat->Int}:∀{n:Nat},(∀i,i < n->f i=g i)->Δ f n=Δ g n
 | 0,_=>rfl
 | n+1,h=>by simp only[Δ];rw[χ λi hi=>h i (),h n ()]
def iP(h:∀i,i < n->f i=0):Δ f n=0:=by
 rw[χ h];clear h
 induction n with
 | zero=>rfl
 | succ n ih=>simp only[Δ];rw[ih];rfl
def i5{j:Nat}(hj:j < n)(h:∀i,i < n->i≠j->f i=0):Δ f n=f j:=by
 induction n with
 | zero=>omega
 | succ n ih=>
  simp only[Δ];by_cases e:j=n
  ·subst e;rw[iP λi hi=>h i () ()];omega
  ·rw[ih () λi hi lL=>h i () lL,h n () ()];omega
def nc(f:Nat->Int):∀n,Δ f (n+1)=f 0+Δ (λi=>f (i+1)) n
 | 0=>by simp[Δ]
 | n+1=>by have:=nc f n;rw[show Δ f (n+1+1)=Δ f (n+1)+f (n+1) from rfl,this];simp only[Δ];omega
def dq(f:Nat->Nat->Int)(m:Nat):∀n,Δ (λi=>Δ (f i) m) n=Δ (λj=>Δ (λi=>f i j) n) m
 | 0=>by rw[show Δ (λi=>Δ (f i) m) 0=0 from rfl];exact(iP λ_ _=>rfl).symm
 | n+1=>by rw[show Δ (λi=>Δ (f i) m) (n+1)=Δ (λi=>Δ (f i) m) n+Δ (f n) m from rfl,dq f m n,<-gW];rfl
def xJ(x:Row):∀(cs:List Nat) (F:Fn),Lx x F cs=Δ (λp=>(-1) ^ p * (x (cs.getD p 0) * F (cs.eraseIdx p))) cs.length
 | [],F=>rfl
 | c::cs,F=>by
  have ih:=xJ x cs (λt=>F (c::t));show x c * F cs - Lx x (λt=>F (c::t)) cs=_;rw[aay,nc,ih];have e:Δ (λp=>(-1) ^ (p+1) * (x ((c::cs).getD (p+1) 0) * F ((c::cs).eraseIdx (p+1)))) cs.length= -1 * Δ (λp=>(-1) ^ p * (x (cs.getD p 0) * F (c::cs.eraseIdx p))) cs.length:=by rw[<-Χ];refine χ λp _=>?_;simp only[List.getD_cons_succ,List.eraseIdx_cons_succ];rw[Int.pow_succ];grind
  rw[e];simp only[List.getD_cons_zero,List.eraseIdx_cons_zero,Int.pow_zero];omega
def F0:Fn:=λcs=>if cs=[] then 1 else 0
def D:List Row->Fn
 | []=>F0
 | x::xs=>Lx x (D xs)
def nG(y:Row):∀(xs ys:List Row) (cs:List Nat),D (xs++y::ys) cs=(-1) ^ xs.length * D (y::(xs++ys)) cs
 | [],ys,cs=>by simp
 | x::xs,ys,cs=>by
  show Lx x (D (xs++y::ys)) cs=_;have e:D (xs++y::ys)=λt=>(-1) ^ xs.length * D (y::(xs++ys)) t:=by funext t;exact nG y xs ys t
  rw[e,mF];show(-1) ^ xs.length * Lx x (Lx y (D (xs++ys))) cs=(-1) ^ (xs.length+1) * Lx y (Lx x (D (xs++ys))) cs;rw[xK x y,Int.pow_succ];grind
def Sj(y:Row)(xs ys zs:List Row)(cs:List Nat):D (xs++y::(ys++y::zs)) cs=0:=by
 rw[nG];have e:D (y::(xs++(ys++y::zs))) cs=Lx y (λt=>D (xs++(ys++y::zs)) t) cs:=rfl;have e2:(λt=>D (xs++(ys++y::zs)) t)=λt=>(-1) ^ (xs++ys).length * Lx y (D (xs++ys++zs)) t:=by
  funext t
  rw[<-aaO,nG];rfl
 rw[e,e2,mF,NO];simp
def ff(γ:List Row)(ν:List Nat)(p k:Nat):Int:=(-1) ^ (p+k) * D (γ.eraseIdx k) (ν.eraseIdx p)
def zr:Row:=λ_=>0
def QX(n:Nat):((-1:Int) ^ n) * (-1) ^ n=1:=by
 induction n with
 | zero=>rfl
 | succ n ih=>rw[Int.pow_succ];grind
def IW{α:Type}:∀{l:List α} {k:Nat} (h:k < l.length),l=l.take k++l[k]::l.drop (k+1):=by intro l k h;rw[List.getElem_cons_drop,List.take_append_drop]
def Ho{α:Type}{l:List α}{k:Nat}(hi:i < l.length)(lL:i≠k):l[i]∈l.eraseIdx k:=by rw[List.mem_eraseIdx_iff_getElem];exact⟨i,hi,lL,rfl⟩
def PA{k:Nat}(hl:ν.length=γ.length)(hi:i < γ.length)(hk:k < γ.length):Δ (λp=>γ.getD i zr (ν.getD p 0) * ff γ ν p k) γ.length=if i=k then D γ ν else 0:=by
 have gi:γ.getD i zr=γ[i]:=by rw[aab,aaa hi];rfl
 have e:Δ (λp=>γ.getD i zr (ν.getD p 0) * ff γ ν p k) γ.length=(-1) ^ k * D (γ.getD i zr::γ.eraseIdx k) ν:=by show _=(-1) ^ k * Lx (γ.getD i zr) (D (γ.eraseIdx k)) ν;rw[xJ,<-Χ,hl];refine χ λp _=>?_;unfold ff;rw[Int.pow_add];grind
 rw[e,gi];by_cases h:i=k
 ·subst h;rw[aaw rfl];have s:=IW hi;have f:=nG γ[i] (γ.take i) (γ.drop (i+1)) ν;rw[<-s,ab6,acy ()]at f;rw[f,List.eraseIdx_eq_take_drop_succ]
 ·rw[aav h];have⟨ys,zs,e2⟩:=List.append_of_mem (Ho hi h);rw[e2];have:=Sj γ[i] [] ys zs ν;rw[show D (γ[i]::(ys++γ[i]::zs)) ν=0 from this];simp
def wy(x:Row)(g:Nat->Int)(F:Nat->Fn)(cs:List Nat):∀n,Lx x (λt=>Δ (λk=>g k * F k t) n) cs=Δ (λk=>g k * Lx x (F k) cs) n
 | 0=>EG x cs
 | n+1=>by have:=BX x cs (λt=>Δ (λk=>g k * F k t) n) (λt=>g n * F n t);show Lx x (λt=>Δ (λk=>g k * F k t) n+g n * F n t) cs=_;rw[this,wy x g F cs n,mF];rfl
def N7(c:Nat):∀(γ:List Row) (t:List Nat),D γ (t++[c])=Δ (λk=>(-1) ^ (t.length+k) * (γ.getD k zr c * D (γ.eraseIdx k) t)) γ.length
 | [],t=>by show F0 (t++[c])=0;unfold F0;simp
 | x::xs,t=>by
  show Lx x (D xs) (t++[c])=_;rw[xS,aay,nc];have e:Lx x (λu=>D xs (u++[c])) t=Δ (λk=>(-1) ^ (t.length+(k+1)) * ((x::xs).getD (k+1) zr c * D ((x::xs).eraseIdx (k+1)) t)) xs.length:=by
   have e1:Lx x (λu=>D xs (u++[c])) t=Lx x (λu=>Δ (λk=>((-1) ^ (t.length+(k+1)) * xs.getD k zr c) * D (xs.eraseIdx k) u) xs.length) t:=by refine AU x (n:=0) t λu hu=>?_;rw[N7 c xs u];refine χ λk _=>?_;rw[<-hu,show u.length+1+(k+1)=u.length+k+1+1 by omega,Int.pow_succ,Int.pow_succ];grind
   rw[e1,wy x (λk=>(-1) ^ (t.length+(k+1)) * xs.getD k zr c) (λk=>D (xs.eraseIdx k))];refine χ λk _=>?_;simp only[List.getD_cons_succ,List.eraseIdx_cons_succ];show _=(-1) ^ (t.length+(k+1)) * (xs.getD k zr c * Lx x (D (xs.eraseIdx k)) t);grind
  rw[e];simp only[List.getD_cons_zero,List.eraseIdx_cons_zero,Nat.add_zero];omega
def J8{y:Row}{c:Nat}(hl:ν.length=γ.length):D (γ++[y]) (ν++[c])=y c * D γ ν - Δ (λp=>y (ν.getD p 0) * Δ (λk=>ff γ ν p k * γ.getD k zr c) γ.length) γ.length:=by
 rw[nG,aa1];show(-1) ^ γ.length * Lx y (D γ) (ν++[c])=_;rw[xS];have e1:Lx y (λt=>D γ (t++[c])) ν= - ((-1) ^ γ.length * Δ (λp=>y (ν.getD p 0) * Δ (λk=>ff γ ν p k * γ.getD k zr c) γ.length) γ.length):=by
  have e2:Lx y (λt=>D γ (t++[c])) ν=Lx y (λt=>Δ (λk=>(-((-1) ^ (γ.length+k) * γ.getD k zr c)) * D (γ.eraseIdx k) t) γ.length) ν:=by refine AU y (n:=0) ν λt ht=>?_;rw[N7 c γ t];refine χ λk _=>?_;rw[<-hl,<-ht,show t.length+1+k=t.length+k+1 by omega,Int.pow_succ];grind
  rw[e2,wy y (λk=> -((-1) ^ (γ.length+k) * γ.getD k zr c)) (λk=>D (γ.eraseIdx k))];have e3:Δ (λk=> -((-1) ^ (γ.length+k) * γ.getD k zr c) * Lx y (D (γ.eraseIdx k)) ν) γ.length=Δ (λk=>Δ (λp=> -((-1) ^ γ.length) * (y (ν.getD p 0) * (ff γ ν p k * γ.getD k zr c))) γ.length) γ.length:=by refine χ λk _=>?_;rw[xJ,<-Χ,hl];refine χ λp _=>?_;unfold ff;rw[Int.pow_add,Int.pow_add];grind
  rw[e3,dq];have e4:Δ (λp=>Δ (λk=> -((-1) ^ γ.length) * (y (ν.getD p 0) * (ff γ ν p k * γ.getD k zr c))) γ.length) γ.length=Δ (λp=> -((-1) ^ γ.length) * (y (ν.getD p 0) * Δ (λk=>ff γ ν p k * γ.getD k zr c) γ.length)) γ.length:=by refine χ λp _=>?_;rw[Χ,Χ]
  rw[e4,Χ];grind
 rw[e1,hl];have s:=QX γ.length;generalize ((-1:Int) ^ γ.length)=z at *
 generalize Δ _ γ.length=q;grind
def IT{v:Nat->Int}{e:Int}{k:Nat}(hl:ν.length=γ.length)(hi:i < γ.length)(hk:k < γ.length)
  (h:∀p,p < γ.length->Δ (λj=>v j * γ.getD j zr (ν.getD p 0)) γ.length=if i=p then e else 0):v k * D γ ν=e * ff γ ν i k:=by
 have a:Δ (λp=>Δ (λj=>v j * γ.getD j zr (ν.getD p 0)) γ.length * ff γ ν p k) γ.length=e * ff γ ν i k:=by rw[i5 hi λp hp lL=>by rw[h p hp,if_neg (Ne.symm lL)];simp];rw[h i hi,aaw rfl]
 have b:Δ (λp=>Δ (λj=>v j * γ.getD j zr (ν.getD p 0)) γ.length * ff γ ν p k) γ.length=Δ (λj=>v j * Δ (λp=>γ.getD j zr (ν.getD p 0) * ff γ ν p k) γ.length) γ.length:=by
  have e1:Δ (λp=>Δ (λj=>v j * γ.getD j zr (ν.getD p 0)) γ.length * ff γ ν p k) γ.length=Δ (λp=>Δ (λj=>v j * (γ.getD j zr (ν.getD p 0) * ff γ ν p k)) γ.length) γ.length:=by refine χ λp _=>?_;rw[aa7,<-Χ];refine χ λj _=>?_;grind
  rw[e1,dq];refine χ λj _=>?_;rw[<-Χ]
 rw[<-a,b,i5 hk λj hj lL=>by rw[PA hl hj hk,if_neg lL];simp];rw[PA hl hk hk,aaw rfl]
def ind(a k:Nat):Int:=if a=k then 1 else 0
def rv(A:Nat->Row)(n:Nat)(w:Row)(x:Nat):Int:=Δ (λk=>w k * A k x) n
def oq(h:a < n):Δ (λk=>ind a k * f k) n=f a:=by rw[i5 h λi _ lL=>by unfold ind;rw[if_neg (Ne.symm lL)];simp];unfold ind;rw[if_pos rfl];simp
def xV{u v:Row}{a b:Int}(h:∀k,w k=a * u k - b * v k)(x:Nat):rv A n w x=a * rv A n u x - b * rv A n v x:=by
 unfold rv;have e:Δ (λk=>w k * A k x) n=Δ (λk=>a * (u k * A k x)+(-b) * (v k * A k x)) n:=χ λk _=>by rw[h k];grind
 rw[e,gW,Χ,Χ];grind
def K0{r:Nat}{g:Nat->Int}{u:Nat->Row}(h:∀k,w k=Δ (λj=>g j * u j k) r)(x:Nat):rv A n w x=Δ (λj=>g j * rv A n (u j) x) r:=by
 unfold rv;have e:Δ (λk=>w k * A k x) n=Δ (λk=>Δ (λj=>g j * (u j k * A k x)) r) n:=χ λk _=>by rw[h k,aa7,<-Χ];exact χ λj _=>by grind
 rw[e,dq];exact χ λj _=>Χ _ _ _
def Ck(h:a < n)(x:Nat):rv A n (ind a) x=A a x:=by unfold rv;exact oq (f:=λk=>A k x) h
structure St(A:Nat->Row)(n:Nat)(ρ ν:List Nat)(q:Nat->Nat)(d:Int)(W:Nat->Row):Prop where
 lc:ν.length=ρ.length
 rn:ρ.length<=n
 MB:∀i,i < n->q i < n
 yT:∀j,j < ρ.length->ρ.getD j 0 < n
 det:D (ρ.map A) ν=d
 wp:∀i,i < ρ.length->∀k,W i k=Δ (λj=>ff (ρ.map A) ν i j * ind (ρ.getD j 0) k) ρ.length
 wn:∀i,ρ.length<=i->i < n->∀k,W i k=d * ind (q i) k - Δ (λp=>A (q i) (ν.getD p 0) * W p k) ρ.length
 one:∀i p,i < ρ.length->p < ρ.length->rv A n (W i) (ν.getD p 0)=if i=p then d else 0
section
variable{q:Nat->Nat}
def uB{j:Nat}(h:j < ρ.length):(ρ.map A).getD j zr=A (ρ.getD j 0):=by rw[aab,aal,aaa h,aab,aaa h];rfl
def St.RF(s:St A n ρ ν q d W)(hi:i < ρ.length)(x:Nat):rv A n (W i) x=Δ (λj=>ff (ρ.map A) ν i j * A (ρ.getD j 0) x) ρ.length:=by rw[K0 (u:=λj=>ind (ρ.getD j 0)) (s.wp i hi)];exact χ λj hj=>by rw[Ck (s.yT j hj)]
def St.O7(s:St A n ρ ν q d W)(h1:ρ.length<=i)(hi:i < n)(x:Nat):rv A n (W i) x=d * A (q i) x - Δ (λp=>A (q i) (ν.getD p 0) * rv A n (W p) x) ρ.length:=by
 have h:∀k,W i k=d * ind (q i) k - 1 * Δ (λp=>A (q i) (ν.getD p 0) * W p k) ρ.length:=λk=>by rw[s.wn i h1 hi k];omega
 rw[xV h x,Ck (s.MB i hi),K0 (w:=λk=>Δ (λp=>A (q i) (ν.getD p 0) * W p k) ρ.length) (u:=W) (λk=>rfl)];omega
def St.zero(s:St A n ρ ν q d W){p:Nat}(h1:ρ.length<=i)(hi:i < n)(hp:p < ρ.length):rv A n (W i) (ν.getD p 0)=0:=by
 rw[s.O7 h1 hi];have e:Δ (λp'=>A (q i) (ν.getD p' 0) * rv A n (W p') (ν.getD p 0)) ρ.length=A (q i) (ν.getD p 0) * d:=by rw[i5 hp λp' Al lL=>by rw[s.one p' p Al hp,if_neg lL];simp];rw[s.one p p hp hp,aaw rfl]
 rw[e];grind
def St.head(s:St A n ρ ν q d W)(hr:ρ.length < n)(c:Nat):D ((ρ++[q ρ.length]).map A) (ν++[c])=rv A n (W ρ.length) c:=by
 rw[aaW,s.O7 (aai _) hr];show D (ρ.map A++[A (q ρ.length)]) (ν++[c])=_;rw[J8 (by rw[aac];exact s.lc),s.det,aac,aa7]
 congr 1
 refine χ λp hp=>?_;rw[s.RF hp]
 congr 1
 exact χ λk hk=>by rw[uB hk]
def nW{j:Nat}{l:List Nat}(h:j < l.length):(l++[a]).getD j 0=l.getD j 0:=by rw[aab,aat h,<-aab]
def nN{l:List Nat}:(l++[a]).getD l.length 0=a:=by simp
def mix(f:Nat->Int)(s:St A n ρ ν q d W)(a L:Int)(g:Nat->Int):
  Δ (λj=>(if j < ρ.length then a * g j+L * Δ (λp=>A (q ρ.length) (ν.getD p 0) * ff (ρ.map A) ν p j) ρ.length else -(L * d)) * f ((ρ++[q ρ.length]).getD j 0)) (ρ.length+1)
  =a * Δ (λj=>g j * f (ρ.getD j 0)) ρ.length - L * (d * f (q ρ.length) - Δ (λp=>A (q ρ.length) (ν.getD p 0) * Δ (λj=>ff (ρ.map A) ν p j * f (ρ.getD j 0)) ρ.length) ρ.length):=by
 rw[show∀F:Nat->Int,Δ F (ρ.length+1)=Δ F ρ.length+F ρ.length fromλ_=>rfl,nN,aav (abq _)]
 have e:Δ (λj=>(if j < ρ.length then a * g j+L * Δ (λp=>A (q ρ.length) (ν.getD p 0) * ff (ρ.map A) ν p j) ρ.length else -(L * d)) * f ((ρ++[q ρ.length]).getD j 0)) ρ.length
   =Δ (λj=>a * (g j * f (ρ.getD j 0))+L * Δ (λp=>A (q ρ.length) (ν.getD p 0) * (ff (ρ.map A) ν p j * f (ρ.getD j 0))) ρ.length) ρ.length:=by
  refine χ λj hj=>?_;rw[aaw hj,nW hj];have e2:Δ (λp=>A (q ρ.length) (ν.getD p 0) * (ff (ρ.map A) ν p j * f (ρ.getD j 0))) ρ.length=f (ρ.getD j 0) * Δ (λp=>A (q ρ.length) (ν.getD p 0) * ff (ρ.map A) ν p j) ρ.length:=by rw[<-Χ];exact χ λp _=>by grind
  rw[e2];grind
 rw[e,gW,Χ,Χ,dq (λj p=>A (q ρ.length) (ν.getD p 0) * (ff (ρ.map A) ν p j * f (ρ.getD j 0)))]
 have e3:Δ (λp=>Δ (λj=>A (q ρ.length) (ν.getD p 0) * (ff (ρ.map A) ν p j * f (ρ.getD j 0))) ρ.length) ρ.length=Δ (λp=>A (q ρ.length) (ν.getD p 0) * Δ (λj=>ff (ρ.map A) ν p j * f (ρ.getD j 0)) ρ.length) ρ.length:=
  χ λp _=>Χ _ _ _
 rw[e3];grind
def St.step(s:St A n ρ ν q d W)(hr:ρ.length < n)(c:Nat)(d0:d≠0)(h0:rv A n (W ρ.length) c≠0):
  ∃W':Nat->Row,St A n (ρ++[q ρ.length]) (ν++[c]) q (rv A n (W ρ.length) c) W'/\(∀k,W' ρ.length k=W ρ.length k)/\
   ∀i,i < n->i≠ρ.length->∀k,d * W' i k=rv A n (W ρ.length) c * W i k - rv A n (W i) c * W ρ.length k:=by
 have hd:=s.head hr c;generalize hE:rv A n (W ρ.length) c=E at *
 have lr:((ρ++[q ρ.length]).map A).length=ρ.length+1:=by simp
 have lc':(ν++[c]).length=((ρ++[q ρ.length]).map A).length:=by rw[lr];simp[s.lc]
 have cg:∀p,p < ρ.length->(ν++[c]).getD p 0=ν.getD p 0:=λp hp=>nW (by rw[s.lc];exact hp);have cl:(ν++[c]).getD ρ.length 0=c:=by rw[<-s.lc];exact nN
 have rg:∀j,j < ρ.length+1->((ρ++[q ρ.length]).map A).getD j zr=A ((ρ++[q ρ.length]).getD j 0):=λj hj=>uB (by simp;omega);have head:∀j,j < ρ.length+1->(if j < ρ.length then (0:Int) * 0+(-1) * Δ (λp=>A (q ρ.length) (ν.getD p 0) * ff (ρ.map A) ν p j) ρ.length else -((-1) * d))=ff ((ρ++[q ρ.length]).map A) (ν++[c]) ρ.length j:=λj hj=>by
  have:=IT (γ:=(ρ++[q ρ.length]).map A) (ν:=ν++[c]) (v:=λj=>if j < ρ.length then (0:Int) * 0+(-1) * Δ (λp=>A (q ρ.length) (ν.getD p 0) * ff (ρ.map A) ν p j) ρ.length else -((-1) * d)) (e:=E) (i:=ρ.length) (k:=j) lc' (by rw[lr];omega) (by rw[lr];exact hj) (λp hp=>by
   rw[lr]at hp⊢;have e1:=mix (λa=>A a ((ν++[c]).getD p 0)) s 0 (-1) (λ_=>0);have e2:Δ (λj=>(if j < ρ.length then (0:Int) * 0+(-1) * Δ (λp=>A (q ρ.length) (ν.getD p 0) * ff (ρ.map A) ν p j) ρ.length else -((-1) * d)) * ((ρ++[q ρ.length]).map A).getD j zr ((ν++[c]).getD p 0)) (ρ.length+1)=_:=(χ λj hj=>by rw[rg j hj]).trans e1;rw[e2];have e3:d * A (q ρ.length) ((ν++[c]).getD p 0) - Δ (λp'=>A (q ρ.length) (ν.getD p' 0) * Δ (λj=>ff (ρ.map A) ν p' j * A (ρ.getD j 0) ((ν++[c]).getD p 0)) ρ.length) ρ.length=rv A n (W ρ.length) ((ν++[c]).getD p 0):=by
    rw[s.O7 (aai _) hr]
    congr 1
    exact χ λp' Al=>by rw[s.RF Al]
   rw[e3];by_cases Hf:p < ρ.length
   ·rw[cg p Hf,s.zero (Nat.le_refl _) hr Hf,if_neg ()];simp
   ·have:p=ρ.length:=()
    subst this
    rw[cl,hE,aaw rfl];omega)
  rw[hd]at this;refine aaZ h0 ?_;rw[<-this];grind
 have hk:∀k,W ρ.length k=Δ (λj=>ff ((ρ++[q ρ.length]).map A) (ν++[c]) ρ.length j * ind ((ρ++[q ρ.length]).getD j 0) k) (ρ.length+1):=λk=>by
  have e1:=mix (λa=>ind a k) s 0 (-1) (λ_=>0);have e2:Δ (λj=>ff ((ρ++[q ρ.length]).map A) (ν++[c]) ρ.length j * ind ((ρ++[q ρ.length]).getD j 0) k) (ρ.length+1)=_:=(χ λj hj=>by rw[<-head j hj]).trans e1;rw[e2,s.wn _ (aai _) hr k];have e3:Δ (λp=>A (q ρ.length) (ν.getD p 0) * W p k) ρ.length=Δ (λp=>A (q ρ.length) (ν.getD p 0) * Δ (λj=>ff (ρ.map A) ν p j * ind (ρ.getD j 0) k) ρ.length) ρ.length:=χ λp hp=>by rw[s.wp p hp k]
  rw[e3];omega
 have above:∀i,i < ρ.length->∀j,j < ρ.length+1->(if j < ρ.length then E * ff (ρ.map A) ν i j+rv A n (W i) c * Δ (λp=>A (q ρ.length) (ν.getD p 0) * ff (ρ.map A) ν p j) ρ.length else -(rv A n (W i) c * d))=d * ff ((ρ++[q ρ.length]).map A) (ν++[c]) i j:=λi hi j hj=>by
  have:=IT (γ:=(ρ++[q ρ.length]).map A) (ν:=ν++[c]) (v:=λj=>if j < ρ.length then E * ff (ρ.map A) ν i j+rv A n (W i) c * Δ (λp=>A (q ρ.length) (ν.getD p 0) * ff (ρ.map A) ν p j) ρ.length else -(rv A n (W i) c * d)) (e:=d * E) (i:=i) (k:=j) lc' (by rw[lr];omega) (by rw[lr];exact hj) (λp hp=>by
   rw[lr]at hp⊢;have e1:=mix (λa=>A a ((ν++[c]).getD p 0)) s E (rv A n (W i) c) (λj=>ff (ρ.map A) ν i j);have e2:Δ (λj=>(if j < ρ.length then E * ff (ρ.map A) ν i j+rv A n (W i) c * Δ (λp=>A (q ρ.length) (ν.getD p 0) * ff (ρ.map A) ν p j) ρ.length else -(rv A n (W i) c * d)) * ((ρ++[q ρ.length]).map A).getD j zr ((ν++[c]).getD p 0)) (ρ.length+1)=_:=(χ λj hj=>by rw[rg j hj]).trans e1;rw[e2];have e3:d * A (q ρ.length) ((ν++[c]).getD p 0) - Δ (λp'=>A (q ρ.length) (ν.getD p' 0) * Δ (λj=>ff (ρ.map A) ν p' j * A (ρ.getD j 0) ((ν++[c]).getD p 0)) ρ.length) ρ.length=rv A n (W ρ.length) ((ν++[c]).getD p 0):=by
    rw[s.O7 (aai _) hr]
    congr 1
    exact χ λp' Al=>by rw[s.RF Al]
   rw[e3,<-s.RF hi];by_cases Hf:p < ρ.length
   ·rw[cg p Hf,s.zero (aai _) hr Hf,s.one i p hi Hf];split <;> grind
   ·have:p=ρ.length:=()
    subst this
    rw[cl,hE,if_neg ()];grind)
  rw[hd]at this;refine aaZ h0 ?_;rw[Int.mul_comm,this];grind
 have abk:∀i,i < ρ.length->∀k,d * Δ (λj=>ff ((ρ++[q ρ.length]).map A) (ν++[c]) i j * ind ((ρ++[q ρ.length]).getD j 0) k) (ρ.length+1)=E * W i k - rv A n (W i) c * W ρ.length k:=λi hi k=>by
  have e1:=mix (λa=>ind a k) s E (rv A n (W i) c) (λj=>ff (ρ.map A) ν i j);have e2:d * Δ (λj=>ff ((ρ++[q ρ.length]).map A) (ν++[c]) i j * ind ((ρ++[q ρ.length]).getD j 0) k) (ρ.length+1)=_:=((Χ _ _ _).symm.trans (χ λj hj=>by rw[above i hi j hj];grind)).trans e1;rw[e2,s.wn _ (aai _) hr k,s.wp i hi k];have e3:Δ (λp=>A (q ρ.length) (ν.getD p 0) * W p k) ρ.length=Δ (λp=>A (q ρ.length) (ν.getD p 0) * Δ (λj=>ff (ρ.map A) ν p j * ind (ρ.getD j 0) k) ρ.length) ρ.length:=χ λp hp=>by rw[s.wp p hp k]
  rw[e3]
 let V:Nat->Row:=λi k=>if i=ρ.length then W ρ.length k else Δ (λj=>ff ((ρ++[q ρ.length]).map A) (ν++[c]) i j * ind ((ρ++[q ρ.length]).getD j 0) k) (ρ.length+1)
 let W':Nat->Row:=λi k=>if i < ρ.length+1 then V i k else E * ind (q i) k - Δ (λp=>A (q i) ((ν++[c]).getD p 0) * V p k) (ρ.length+1)
 have Wr:∀k,W' ρ.length k=W ρ.length k:=λk=>by show(if ρ.length < ρ.length+1 then (if ρ.length=ρ.length then W ρ.length k else _) else _)=_;rw[aaw (abv _),aaw rfl]
 have Wi:∀i,i < ρ.length->∀k,W' i k=Δ (λj=>ff ((ρ++[q ρ.length]).map A) (ν++[c]) i j * ind ((ρ++[q ρ.length]).getD j 0) k) (ρ.length+1):=λi hi k=>by show(if i < ρ.length+1 then (if i=ρ.length then _ else _) else _)=_;rw[aaw (),aav ()]
 have WV:∀p,p < ρ.length+1->∀k,W' p k=V p k:=λp hp k=>by show(if p < ρ.length+1 then V p k else _)=_;rw[aaw hp]
 have Wn:∀i,ρ.length+1<=i->∀k,W' i k=E * ind (q i) k - Δ (λp=>A (q i) ((ν++[c]).getD p 0) * W' p k) (ρ.length+1):=λi hi k=>by
  show(if i < ρ.length+1 then V i k else _)=_;rw[aav ()]
  congr 1
  exact χ λp hp=>by rw[WV p hp]
 have H:∀i,i < n->i≠ρ.length->∀k,d * W' i k=E * W i k - rv A n (W i) c * W ρ.length k:=λi hi lL k=>by
  by_cases yC:i < ρ.length
  ·rw[Wi i yC k];exact abk i yC k
  ·rw[Wn i () k,s.wn i () hi k,s.O7 () hi c];rw[show∀F:Nat->Int,Δ F (ρ.length+1)=Δ F ρ.length+F ρ.length fromλ_=>rfl,cl,Wr];have e1:d * Δ (λp=>A (q i) ((ν++[c]).getD p 0) * W' p k) ρ.length=Δ (λp=>E * (A (q i) (ν.getD p 0) * W p k)+(-(W ρ.length k)) * (A (q i) (ν.getD p 0) * rv A n (W p) c)) ρ.length:=by rw[<-Χ];refine χ λp hp=>?_;have:=abk p hp k;rw[cg p hp,Wi p hp k];grind
   rw[gW,Χ,Χ]at e1;grind
 refine⟨W',⟨by simp[s.lc],by simp;omega,s.MB,λj hj=>?_,hd,λi hi k=>?_,λi h1 hi k=>?_,λi p hi hp=>?_⟩,Wr,H⟩
 ·by_cases hjr:j < ρ.length
  ·rw[nW hjr];exact s.yT j hjr
  ·have:j=ρ.length:=by simp at hj;omega
   rw[this,nN];exact s.MB _ hr
 ·rw[show(ρ++[q ρ.length]).length=ρ.length+1 by simp]at hi⊢;by_cases yC:i < ρ.length
  ·exact Wi i yC k
  ·have:i=ρ.length:=()
   subst this;rw[Wr k];exact hk k
 ·rw[show(ρ++[q ρ.length]).length=ρ.length+1 by simp]at h1⊢;exact Wn i h1 k
 ·rw[show(ρ++[q ρ.length]).length=ρ.length+1 by simp]at hi hp;have hrr:∀x,rv A n (W' ρ.length) x=rv A n (W ρ.length) x:=λx=>by unfold rv;exact χ λk _=>by rw[Wr k]
  by_cases yC:i < ρ.length
  ·have WC:d * rv A n (W' i) ((ν++[c]).getD p 0)=E * rv A n (W i) ((ν++[c]).getD p 0) - rv A n (W i) c * rv A n (W ρ.length) ((ν++[c]).getD p 0):=by have:=xV (A:=A) (n:=n) (w:=λk=>d * W' i k) (u:=W i) (v:=W ρ.length) (a:=E) (b:=rv A n (W i) c) (λk=>H i () () k) ((ν++[c]).getD p 0);rw[<-this];unfold rv;rw[<-Χ];exact χ λk _=>by grind
   refine aaZ d0 ?_;rw[WC];by_cases Hf:p < ρ.length
   ·rw[cg p Hf,s.zero (aai _) hr Hf,s.one i p yC Hf];split <;> grind
   ·have:p=ρ.length:=()
    subst this;rw[cl,hE,if_neg ()];grind
  ·have:i=ρ.length:=()
   subst this;rw[hrr];by_cases Hf:p < ρ.length
   ·rw[cg p Hf,s.zero (aai _) hr Hf,aav ()]
   ·have:p=ρ.length:=()
    subst this;rw[cl,hE,aaw rfl]
end
def St.start:St A n [] [] id 1 (λi=>ind i) where
 lc:=rfl
 rn:=ab9 _
 MB:=λ_ h=>h
 yT:=λ_ h=>aaJ h (abJ _)
 det:=rfl
 wp:=λ_ h=>aaJ h (abJ _)
 wn:=λi _ _ k=>by show ind i k=1 * ind i k - 0;omega
 one:=λ_ _ h=>aaJ h (abJ _)
def St.perm{q:Nat->Nat}(s:St A n ρ ν q d W){π:Nat->Nat}(h1:∀i,i < ρ.length->π i=i)(h2:∀i,ρ.length<=i->i < n->ρ.length<=π i/\π i < n):St A n ρ ν (λi=>q (π i)) d (λi=>W (π i)) where
 lc:=s.lc
 rn:=s.rn
 MB:=λi hi=>s.MB _ (by
  by_cases h:i < ρ.length
  ·rw[h1 i h];exact hi
  ·exact(h2 i () hi).2)
 yT:=s.yT
 det:=s.det
 wp:=λi hi k=>by show W (π i) k=_;rw[h1 i hi];exact s.wp i hi k
 wn:=λi hi hn k=>by
  have⟨a,b⟩:=h2 i hi hn;have:=s.wn (π i) a b k;rw[this]
  congr 1
  exact χ λp hp=>by rw[h1 p hp]
 one:=λi p hi hp=>by show rv A n (W (π i)) _=_;rw[h1 i hi];exact s.one i p hi hp
def Ab(x B:Int):Prop:= -B<=x/\x<=B
def Ab.mul{x y C:Int}(h:Ab x B)(h':Ab y C):Ab (x * y) (B * C):=by
 have⟨a,b⟩:=h;have⟨c,d⟩:=h';have B0:0<=B:=()
 have C0:0<=C:=()
 have hb:x.natAbs<=B.natAbs:=()
 have hc:y.natAbs<=C.natAbs:=()
 have hm:=Nat.mul_le_mul hb hc;rw[<-abj,<-abj]at hm;have p:=abi B0 C0;exact⟨(),()⟩
def Ab.add{x y C:Int}(h:Ab x B)(h':Ab y C):Ab (x+y) (B+C):=⟨by have:=h.1;have:=h'.1;omega,by have:=h.2;have:=h'.2;omega⟩
def Ab.sub{x y C:Int}(h:Ab x B)(h':Ab y C):Ab (x - y) (B+C):=⟨by have:=h.1;have:=h'.2;omega,by have:=h.2;have:=h'.1;omega⟩
def Ab.mono{x C:Int}(h:Ab x B)(h':B<=C):Ab x C:=⟨by have:=h.1;omega,by have:=h.2;omega⟩
def Ab.sum{f:Nat->Int}{B:Int}:∀{n:Nat},(∀i,i < n->Ab (f i) B)->Ab (Δ f n) (n * B)
 | 0,_=>⟨by simp[Δ],by simp[Δ]⟩
 | n+1,h=>by
  have i:=Ab.sum (n:=n) λi hi=>h i ();have:=Ab.add i (h n ());have e:(n:Int) * B+B=((n+1:Nat):Int) * B:=by rw[show((n+1:Nat):Int)=(n:Int)+1 from rfl,Int.add_mul,Int.one_mul]
  rw[e]at this;exact this
def Ab.pow{k:Nat}{x:Int}(h:Ab x B):Ab ((-1) ^ k * x) B:=by
 rcases(by induction k with
  | zero=>exact .inl rfl
  | succ k ih=>rw[Int.pow_succ];rcases ih with e| e <;> rw[e] <;> simp:((-1:Int) ^ k=1\/(-1:Int) ^ k= -1)) with e| e
 ·rw[e,Int.one_mul];exact h
 ·rw[e];have⟨a,b⟩:=h;exact⟨(),()⟩
def Ab.det{B:Int}(B0:1<=B):∀(γ:List Row) (ν:List Nat),(∀x∈γ,∀c∈ν,Ab (x c) B)->ν.length<=12->Ab (D γ ν) ((12 * B) ^ γ.length)
 | [],ν,_,_=>by
  show Ab (F0 ν) ((12 * B) ^ 0);rw[Int.pow_zero];unfold F0;split
  ·exact⟨@_,@_⟩
  ·exact⟨@_,@_⟩
 | x::γ,ν,h,hl=>by
  show Ab (Lx x (D γ) ν) _;rw[xJ,aay,abU];have P0:(0:Int)<=(12 * B) ^ γ.length:=abV ();have each:∀p,p < ν.length->Ab ((-1) ^ p * (x (ν.getD p 0) * D γ (ν.eraseIdx p))) (B * (12 * B) ^ γ.length):=λp hp=>by
   refine Ab.pow (Ab.mul ?_ (Ab.det B0 γ (ν.eraseIdx p) (λy hy c hc=>h y (aad _ hy) c (acq hc)) ?_))
   ·rw[aab,aaa hp];exact h x aae _ (aaF hp)
   ·rw[List.length_eraseIdx];split <;> omega
  refine(Ab.sum each).mono ?_;have Q0:0<=B * (12 * B) ^ γ.length:=abi () P0;have:=aaN (show(ν.length:Int)<=12 by omega) Q0;refine abC this ?_;have e:12 * (B * (12 * B) ^ γ.length)=(12 * B) ^ γ.length * (12 * B):=by grind
  omega
section
variable{q:Nat->Nat}
structure Bd(A:Nat->Row)(n m:Nat)(B:Int):Prop where
 b1:1<=B
 ab:∀k x,k < n->x < m->Ab (A k x) B
def top(B:Int)(r:Nat):Int:=(12 * B) ^ (r+3)
def xZ{b:Nat}(h:1<=B)(ZC:a<=b):(12 * B) ^ a<=(12 * B) ^ b:=by
 have⟨c,rfl⟩:=Nat.exists_eq_add_of_le ZC;rw[Int.pow_add];have p:(1:Int)<=(12 * B) ^ c:=by have:0 < (12 * B) ^ c:=Int.pow_pos ();omega
 have q:(0:Int)<=(12 * B) ^ a:=abV ();have:=aaq p q;omega
def St.abs(s:St A n ρ ν q d W)(b:Bd A n m B)(hc:∀c∈ν,c < m)(hr:ρ.length<=12):
  (∀i k,i < n->Ab (W i k) (top B ρ.length))/\(∀i x,i < n->x < m->Ab (rv A n (W i) x) (top B ρ.length))/\Ab d (top B ρ.length):=by
 have B0:=b.b1;have mem:∀j,j < ρ.length->ρ.getD j 0∈ρ:=λj hj=>by rw[aab,aaa hj];exact aaF hj
 have ρn:∀a∈ρ,a < n:=λa ha=>by have⟨j,hj,e⟩:=abf ha;have:=s.yT j hj;rw[aab,aaa hj]at this;rw[<-e];exact this
 have ent:∀x∈ρ.map A,∀c∈ν,Ab (x c) B:=λx hx c zC=>by have⟨a,ha,rfl⟩:=aah.mp hx;exact b.ab a c (ρn a ha) (hc c zC)
 have cl:ν.length<=12:=by rw[s.lc];exact hr
 have hd:Ab d ((12 * B) ^ ρ.length):=by have:=Ab.det B0 (ρ.map A) ν ent cl;rw[s.det,aac]at this;exact this
 have VX:∀p k,Ab (ff (ρ.map A) ν p k) ((12 * B) ^ ρ.length):=λp k=>by
  unfold ff;refine Ab.pow ((Ab.det B0 _ _ (λx hx c zC=>ent x (acq hx) c (acq zC)) ?_).mono (xZ B0 ?_))
  ·rw[List.length_eraseIdx];split <;> omega
  ·rw[List.length_eraseIdx,aac];split <;> omega
 have i1:∀a k,Ab (ind a k) 1:=λa k=>by unfold ind;split <;> exact⟨@_,@_⟩
 have P0:(0:Int)<=(12 * B) ^ ρ.length:=abV ();have LL:∀{C:Int},0<=C->(ρ.length:Int) * C<=12 * C:=λh=>aaN () h;have c1:12 * (12 * B) ^ ρ.length<=(12 * B) ^ (ρ.length+1):=by rw[abU];have:=aaq (show(12:Int)<=12 * B by omega) P0;omega
 have wp:∀i k,i < ρ.length->Ab (W i k) ((12 * B) ^ (ρ.length+1)):=λi k hi=>by rw[s.wp i hi k];refine(Ab.sum (B:=(12 * B) ^ ρ.length) λj hj=>?_).mono (abC (LL P0) c1);have:=Ab.mul (VX i j) (i1 (ρ.getD j 0) k);rw[Int.mul_one]at this;exact this
 have rp:∀i x,i < ρ.length->x < m->Ab (rv A n (W i) x) ((12 * B) ^ (ρ.length+1)):=λi x hi hx=>by
  rw[s.RF hi];have Q0:0<=(12 * B) ^ ρ.length * B:=abi P0 ();refine(Ab.sum (B:=(12 * B) ^ ρ.length * B) λj hj=>Ab.mul (VX i j) (b.ab _ x (s.yT j hj) hx)).mono (abC (LL Q0) ?_);rw[abU];have:12 * ((12 * B) ^ ρ.length * B)=(12 * B) ^ ρ.length * (12 * B):=by grind
  omega
 have S0:(0:Int)<=(12 * B) ^ (ρ.length+1):=abV ();have T0:(0:Int)<=(12 * B) ^ (ρ.length+2):=abV ();have c2:12 * (B * (12 * B) ^ (ρ.length+1))=(12 * B) ^ (ρ.length+2):=by rw[show ρ.length+2=ρ.length+1+1 from rfl,Int.pow_succ];grind
 have c3:(12 * B) ^ (ρ.length+2)+(12 * B) ^ (ρ.length+2)<=top B ρ.length:=by unfold top;have e:(12 * B) ^ (ρ.length+3)=(12 * B) ^ (ρ.length+2) * (12 * B):=abU _ _;rw[e];have:=aaq (show(2:Int)<=12 * B by omega) T0;omega
 have c4:(12 * B) ^ (ρ.length+1)<=(12 * B) ^ (ρ.length+2):=xZ B0 ();have c5:(12 * B) ^ ρ.length<=(12 * B) ^ (ρ.length+2):=xZ B0 ();have c6:(12 * B) ^ ρ.length * B<=(12 * B) ^ (ρ.length+2):=by refine abC ?_ c4;rw[abU];exact aaq () P0
 have U0:0<=B * (12 * B) ^ (ρ.length+1):=abi () S0;have Uu:∀p,p < ρ.length->ν.getD p 0 < m:=λp hp=>by
  have Al:p < ν.length:=by rw[s.lc];exact hp
  rw[aab,aaa Al];exact hc _ (aaF Al)
 refine⟨λi k hi=>?_,λi x hi hx=>?_,hd.mono ()⟩
 ·by_cases yC:i < ρ.length
  ·exact(wp i k yC).mono ()
  ·rw[s.wn i () hi k];have a1:=Ab.mul hd (i1 (q i) k);rw[Int.mul_one]at a1;refine(Ab.sub a1 (Ab.sum (B:=B * (12 * B) ^ (ρ.length+1)) λp hp=>Ab.mul (b.ab (q i) _ (s.MB i hi) (Uu p hp)) (wp p k hp))).mono ?_;have:=LL U0;omega
 ·by_cases yC:i < ρ.length
  ·exact(rp i x yC hx).mono ()
  ·rw[s.O7 () hi];refine(Ab.sub (Ab.mul hd (b.ab (q i) x (s.MB i hi) hx)) (Ab.sum (B:=B * (12 * B) ^ (ρ.length+1)) λp hp=>Ab.mul (b.ab (q i) _ (s.MB i hi) (Uu p hp)) (rp p x hp hx))).mono ?_;have:=LL U0;omega
end
def c7(n i:Nat):List Int:=(List.range n).map (ind i)
def kM(ls:List (List Int))(f k:Nat):List (List Int):=ls.take f++[ls.getD k []]++(ls.drop f).take (k - f)++ls.drop (k+1)
def dc(l h:List Int)(c:Nat)(d:Int):List Int:=(l.zip h).map λp=>(h.getD c 0 * p.1 - l.getD c 0 * p.2).fdiv d
def aE(A:Nat->Row)(n m:Nat)(w:Row):List Int:=(List.range m).map (λx=>rv A n w x)++(List.range n).map w
def ah(A:Nat->Row)(n m:Nat)(W:Nat->Row):List (List Int):=(List.range n).map λi=>aE A n m (W i)
def arr(γ:List (List Int)):Nat->Row:=λk x=>(γ.getD k []).getD x 0
def eN:(aE A n m w).length=m+n:=by unfold aE;simp
def ia{x:Nat}(h:x < m):(aE A n m w).getD x 0=rv A n w x:=by unfold aE;rw[List.getD_eq_getElem?_getD,List.getElem?_append_left (by simpa using h),List.getElem?_map,List.getElem?_range h];rfl
def ko(h:i < n):(ah A n m W).getD i []=aE A n m (W i):=by unfold ah;rw[aab,aal,aaU h];rfl
def dj:(ah A n m W).length=n:=by unfold ah;simp
def CW{u:Row}(h:∀k,w k=u k):aE A n m w=aE A n m u:=by have:w=u:=funext h;rw[this]
def y6{γ:List (List Int)}(hl:∀r∈γ,r.length=m):(List.range γ.length).map (λi=>γ.getD i []++c7 γ.length i)=ah (arr γ) γ.length m (λi=>ind i):=by
 unfold ah;apply abg;intro i hi;have hi:=aa4.mp hi;unfold aE c7
 congr 1
 have g:γ.getD i []=γ[i]:=by rw[aab,aaa hi];rfl
 have ml:=hl γ[i] (aaF hi);apply abp
 ·rw[g,ml];simp
 ·intro x h1 h2;simp only[List.getElem_map,List.getElem_range];rw[Ck hi];unfold arr;rw[aab (l:=γ.getD i []),aaa h1];rfl
def jd(r k i:Nat):Nat:=if i < r then i else if i=r then k else if i<=k then i - 1 else i
def zf{r k:Nat}(hr:r<=k)(hk:k < n):kM (ah A n m W) r k=ah A n m (λi=>W (jd r k i)):=by
 unfold kM;rw[ko hk];unfold ah;apply acG;intro i;rw[aal];simp only[List.append_assoc];by_cases h1:i < r
 ·rw[List.getElem?_append_left (by simp;omega),List.getElem?_take_of_lt h1,List.getElem?_map];rw[aaU ()];have:jd r k i=i:=by unfold jd;rw[if_pos h1]
  simp[this]
 ·rw[List.getElem?_append_right (by simp;omega)];have lt:((List.map (λi=>aE A n m (W i)) (List.range n)).take r).length=r:=by simp;omega
  rw[lt];by_cases h2:i=r
  ·subst h2;rw[Nat.sub_self,List.getElem?_append_left (by simp)];rw[aaU ()];have:jd i k i=k:=by unfold jd;rw[if_neg (Nat.lt_irrefl _),if_pos rfl]
   simp[this]
  ·rw[List.getElem?_append_right (by simp;omega)];show(_++_)[i - r - 1]? =_;have l2:((List.map (λi=>aE A n m (W i)) (List.range n)).drop r|>.take (k - r)).length=k - r:=by simp;omega
   by_cases h3:i<=k
   ·rw[aat (by rw[l2];omega),acp (),List.getElem?_drop,aal,aaU (),aaU ()];have:jd r k i=i - 1:=by unfold jd;rw[if_neg h1,if_neg h2,if_pos h3]
    simp only[Option.map_some,this];rw[show r+(i - r - 1)=i - 1 by omega]
   ·rw[aan (by rw[l2];omega),l2,List.getElem?_drop,aal];rw[show k+1+(i - r - 1 - (k - r))=i by omega];by_cases h4:i < n
    ·rw[aaU h4];have:jd r k i=i:=by unfold jd;rw[if_neg h1,if_neg h2,if_neg h3]
     simp[this]
    ·rw[List.getElem?_eq_none (by simpa using h4)];rfl
def sI{a b:Int}(h:d≠0)(e:d * b=a):a.fdiv d=b:=by rw[<-e];exact Int.mul_fdiv_cancel_left b h
def sE{c:Nat}{u v:Row}(hc:c < m)(d0:d≠0)(h:∀k,d * v k=rv A n u c * w k - rv A n w c * u k):dc (aE A n m w) (aE A n m u) c d=aE A n m v:=by
 have hr:∀x,d * rv A n v x=rv A n u c * rv A n w x - rv A n w c * rv A n u x:=λx=>by have:=xV (A:=A) (n:=n) (w:=λk=>d * v k) (u:=w) (v:=u) (a:=rv A n u c) (b:=rv A n w c) h x;rw[<-this];unfold rv;rw[<-Χ];exact χ λk _=>by grind
 unfold dc;rw[ia hc,ia hc];unfold aE;rw[List.zip_append (by simp),List.map_append]
 congr 1
 ·apply abp
  ·simp
  ·intro x h1 h2;simp only[List.getElem_map,List.getElem_zip,List.getElem_range];exact sI d0 (hr x)
 ·apply abp
  ·simp
  ·intro x h1 h2;simp only[List.getElem_map,List.getElem_zip,List.getElem_range];exact sI d0 (h x)
structure Turn(A:Nat->Row)(n:Nat)(col:Nat)(ρ ν:List Nat)(q:Nat->Nat)(d:Int)(W:Nat->Row):Prop where
 st:St A n ρ ν q d W
 d0:d≠0
 cl:∀c∈ν,c < col
 Rg:∀i,i < ρ.length->q i=ρ.getD i 0
 Rq:∀k,k < n->∃i,i < n/\q i=k
 zero:∀i,ρ.length<=i->i < n->∀x,x < col->rv A n (W i) x=0
 all:ν=List.range col\/∃x,x < col/\x∉ν
def Turn.start:Turn A n 0 [] [] id 1 (λi=>ind i) where
 st:=St.start
 d0:=@_
 cl:=λ_ h=>nomatch h
 Rg:=λ_ h=>aaJ h (abJ _)
 Rq:=λk h=>⟨k,h,rfl⟩
 zero:=λ_ _ _ _ h=>aaJ h (abJ _)
 all:=.inl rfl
section
variable{col:Nat}{q:Nat->Nat}
def Turn.skip(t:Turn A n col ρ ν q d W)(h:∀i,ρ.length<=i->i < n->rv A n (W i) col=0):Turn A n (col+1) ρ ν q d W where
 st:=t.st
 d0:=t.d0
 cl:=λc hc=>abY (t.cl c hc)
 Rg:=t.Rg
 Rq:=t.Rq
 zero:=λi h1 h2 x hx=>by
  by_cases e:x=col
  ·rw[e];exact h i h1 h2
  ·exact t.zero i h1 h2 x ()
 all:=.inr ⟨col,abv _,λz=>aaJ (t.cl col z) (abq _)⟩
def Turn.move(t:Turn A n col ρ ν q d W){k:Nat}(h1:ρ.length<=k)(h2:k < n):Turn A n col ρ ν (λi=>q (jd ρ.length k i)) d (λi=>W (jd ρ.length k i)) where
 st:=t.st.perm (λi hi=>by unfold jd;rw[if_pos hi]) λi a b=>by unfold jd;split <;> (try split) <;> (try split) <;> omega
 d0:=t.d0
 cl:=t.cl
 Rg:=λi hi=>by show q (jd ρ.length k i)=_;rw[show jd ρ.length k i=i by unfold jd;rw[if_pos hi]];exact t.Rg i hi
 Rq:=λj hj=>by
  have⟨i,hi,e⟩:=t.Rq j hj;by_cases a:i < ρ.length
  ·exact⟨i,hi,by show q (jd ρ.length k i)=j;rw[show jd ρ.length k i=i by unfold jd;rw[if_pos a]];exact e⟩
  ·by_cases b:i=k
   ·exact⟨ρ.length,(),by show q (jd ρ.length k ρ.length)=j;rw[show jd ρ.length k ρ.length=k by unfold jd;rw[if_neg (Nat.lt_irrefl _),if_pos rfl],<-b];exact e⟩
   ·by_cases c:i < k
    ·exact⟨i+1,(),by show q (jd ρ.length k (i+1))=j;rw[show jd ρ.length k (i+1)=i by unfold jd;rw[if_neg (),if_neg (),if_pos ()];omega];exact e⟩
    ·exact⟨i,hi,by show q (jd ρ.length k i)=j;rw[show jd ρ.length k i=i by unfold jd;rw[if_neg a,if_neg (),if_neg ()]];exact e⟩
 zero:=λi a b x hx=>by
  have:ρ.length<=jd ρ.length k i/\jd ρ.length k i < n:=by unfold jd;split <;> (try split) <;> (try split) <;> omega
  exact t.zero _ this.1 this.2 x hx
 all:=t.all
def Turn.step(t:Turn A n col ρ ν q d W)(hr:ρ.length < n)(hm:col < m)(h0:rv A n (W ρ.length) col≠0):
  ∃W',Turn A n (col+1) (ρ++[q ρ.length]) (ν++[col]) q (rv A n (W ρ.length) col) W'/\
   ((ah A n m W).take ρ.length).map (λl=>dc l (aE A n m (W ρ.length)) col d)++[aE A n m (W ρ.length)]++((ah A n m W).drop (ρ.length+1)).map (λl=>dc l (aE A n m (W ρ.length)) col d)=ah A n m W':=by
 have⟨W',s',e1,e2⟩:=t.st.step hr col t.d0 h0;refine⟨W',⟨s',h0,λc hc=>?_,λi hi=>?_,t.Rq,λi a b x hx=>?_,?_⟩,?_⟩
 ·rcases aa0.mp hc with z| z
  ·exact abY (t.cl c z)
  ·have:c=col:=by simpa using z
   omega
 ·by_cases yC:i < ρ.length
  ·rw[nW yC];exact t.Rg i yC
  ·have:i=ρ.length:=by simp at hi;omega
   rw[this,nN]
 ·rw[show(ρ++[q ρ.length]).length=ρ.length+1 by simp]at a;have WC:d * rv A n (W' i) x=rv A n (W ρ.length) col * rv A n (W i) x - rv A n (W i) col * rv A n (W ρ.length) x:=by have:=xV (A:=A) (n:=n) (w:=λk=>d * W' i k) (u:=W i) (v:=W ρ.length) (λk=>e2 i b () k) x;rw[<-this];unfold rv;rw[<-Χ];exact χ λk _=>by grind
  refine aaZ t.d0 ?_;rw[WC];by_cases e:x=col
  ·subst e;grind
  ·rw[t.zero i () b x (),t.zero ρ.length (Nat.le_refl _) hr x ()];simp
 ·rcases t.all with z| ⟨x,a,b⟩
  ·left;rw[z,acB]
  ·refine .inr ⟨x,(),λz=>?_⟩;rcases aa0.mp z with z| z
   ·exact b z
   ·have:x=col:=by simpa using z
    omega
 ·unfold ah;rw[<-acC,<-acD,aaK,aaK];apply acG;intro i;simp only[List.append_assoc];have lt:(List.map ((λl=>dc l (aE A n m (W ρ.length)) col d) ∘ λi=>aE A n m (W i)) ((List.range n).take ρ.length)).length=ρ.length:=by simp;omega
  by_cases h1:i < ρ.length
  ·rw[aat (by rw[lt];exact h1),aal,aal,acp h1,aaU ()];show some (dc (aE A n m (W i)) (aE A n m (W ρ.length)) col d)=some _;rw[sE hm t.d0 (e2 i () ())]
  ·rw[aan (by rw[lt];omega),lt,aal];by_cases h2:i=ρ.length
   ·subst h2;rw[acK,aaU hr];show some (aE A n m (W ρ.length))=some (aE A n m (W' ρ.length));rw[CW e1]
   ·rw[List.getElem?_append_right (by simp;omega)];show(List.map _ ((List.range n).drop (ρ.length+1)))[i - ρ.length - 1]? =_;rw[aal,List.getElem?_drop,show ρ.length+1+(i - ρ.length - 1)=i by omega];by_cases h4:i < n
    ·rw[aaU h4];show some (dc (aE A n m (W i)) (aE A n m (W ρ.length)) col d)=some _;rw[sE hm t.d0 (e2 i h4 h2)]
    ·rw[List.getElem?_eq_none (by simpa using h4)];rfl
end
section
variable{col:Nat}{q:Nat->Nat}
def Turn.back(t:Turn A n col ρ ν q d W){k y:Nat}(hk:k < n)(hy:y < col):d * A k y=Δ (λp=>A k (ν.getD p 0) * rv A n (W p) y) ρ.length:=by
 have⟨i,hi,e⟩:=t.Rq k hk;have s:=t.st;by_cases yC:i < ρ.length
 ·have ek:k=ρ.getD i 0:=by rw[<-e];exact t.Rg i yC
  have lr:(ρ.map A).length=ρ.length:=aac _;have e1:Δ (λp=>A k (ν.getD p 0) * rv A n (W p) y) ρ.length=Δ (λp=>Δ (λj=>(A k (ν.getD p 0) * ff (ρ.map A) ν p j) * A (ρ.getD j 0) y) ρ.length) ρ.length:=χ λp hp=>by rw[s.RF hp,<-Χ];exact χ λj _=>by grind
  have e2:Δ (λp=>Δ (λj=>(A k (ν.getD p 0) * ff (ρ.map A) ν p j) * A (ρ.getD j 0) y) ρ.length) ρ.length=Δ (λj=>A (ρ.getD j 0) y * Δ (λp=>(ρ.map A).getD i zr (ν.getD p 0) * ff (ρ.map A) ν p j) ρ.length) ρ.length:=by rw[dq];refine χ λj _=>?_;rw[<-Χ];refine χ λp _=>?_;rw[uB yC,<-ek];grind
  rw[e1,e2];have pa:∀j,j < ρ.length->Δ (λp=>(ρ.map A).getD i zr (ν.getD p 0) * ff (ρ.map A) ν p j) ρ.length=if i=j then d else 0:=λj hj=>by have:=PA (γ:=ρ.map A) (ν:=ν) (i:=i) (k:=j) (by rw[lr];exact s.lc) (by rw[lr];exact yC) (by rw[lr];exact hj);rw[lr,s.det]at this;exact this
  rw[i5 yC λj hj lL=>by rw[pa j hj,if_neg (Ne.symm lL)];simp];rw[pa i yC,if_pos rfl,ek];grind
 ·have:=s.O7 () hi y;rw[t.zero i () hi y hy,e]at this;omega
def Turn.kernel(t:Turn A n col ρ ν q d W){x:Nat}(hx:x < col)(hf:x∉ν):∃z:Row,z x= -d/\∀k,k < n->Δ (λy=>A k y * z y) col=0:=by
 have s:=t.st;have cm:∀i,i < ρ.length->ν.getD i 0∈ν:=λi hi=>by
  have D_:i < ν.length:=by rw[s.lc];exact hi
  rw[aab,aaa D_];exact aaF D_
 refine⟨λy=>Δ (λi=>rv A n (W i) x * ind (ν.getD i 0) y) ρ.length - d * ind x y,?_,λk hk=>?_⟩
 ·have e1:Δ (λi=>rv A n (W i) x * ind (ν.getD i 0) x) ρ.length=0:=iP λi hi=>by unfold ind;rw[if_neg λz=>hf (by rw[<-z];exact cm i hi)];simp
  show Δ (λi=>rv A n (W i) x * ind (ν.getD i 0) x) ρ.length - d * ind x x= -d;rw[e1];unfold ind;rw[if_pos rfl];omega
 ·have gen:∀f:Row,Δ (λy=>f y * (Δ (λi=>rv A n (W i) x * ind (ν.getD i 0) y) ρ.length - d * ind x y)) col=Δ (λi=>rv A n (W i) x * f (ν.getD i 0)) ρ.length - d * f x:=λf=>by
   have e1:Δ (λy=>f y * (Δ (λi=>rv A n (W i) x * ind (ν.getD i 0) y) ρ.length - d * ind x y)) col=Δ (λy=>Δ (λi=>rv A n (W i) x * (ind (ν.getD i 0) y * f y)) ρ.length+(-d) * (ind x y * f y)) col:=χ λy _=>by
    have:Δ (λi=>rv A n (W i) x * (ind (ν.getD i 0) y * f y)) ρ.length=f y * Δ (λi=>rv A n (W i) x * ind (ν.getD i 0) y) ρ.length:=by rw[<-Χ];exact χ λi _=>by grind
    rw[this];grind
   rw[e1,gW,Χ,oq (f:=f) hx,dq];have e2:Δ (λi=>Δ (λy=>rv A n (W i) x * (ind (ν.getD i 0) y * f y)) col) ρ.length=Δ (λi=>rv A n (W i) x * f (ν.getD i 0)) ρ.length:=χ λi hi=>by rw[Χ,oq (f:=f) (t.cl _ (cm i hi))]
   rw[e2];grind
  refine aaZ t.d0 ?_;rw[Int.mul_zero,gen (A k),Int.mul_sub];have b1:=t.back hk hx;have e3:Δ (λi=>rv A n (W i) x * A k (ν.getD i 0)) ρ.length=d * A k x:=by rw[b1];exact χ λi _=>aa7 _ _
  rw[e3];grind
def Rk(A:Nat->Row)(n u:Nat)(z:Row)(N:Int):Prop:=∀k,k < n->Δ (λx=>A k x * z x) u=N * A k u
def Rk.line{u:Nat}{z:Row}{N:Int}(h:Rk A n u z N)(w:Row):Δ (λx=>rv A n w x * z x) u=N * rv A n w u:=by
 unfold rv;have e1:Δ (λx=>Δ (λk=>w k * A k x) n * z x) u=Δ (λx=>Δ (λk=>w k * (A k x * z x)) n) u:=χ λx _=>by rw[aa7,<-Χ];exact χ λk _=>by grind
 rw[e1,dq,<-Χ];refine χ λk hk=>?_;rw[Χ,h k hk];grind
def Turn.rest(t:Turn A n col ρ ν q d W){z:Row}{N:Int}(hs:Rk A n col z N)(hN:N≠0)(h1:ρ.length<=i)(hi:i < n):rv A n (W i) col=0:=by
 have:=hs.line (W i);rw[iP λx hx=>by rw[t.zero i h1 hi x hx];simp]at this;rcases Int.mul_eq_zero.mp this.symm with e| e
 ·exact aaJ e hN
 ·exact e
def Turn.told(t:Turn A n col ρ ν q d W)(hc:ν=List.range col){z:Row}{N:Int}(hs:Rk A n col z N)(hi:i < col):d * z i=N * rv A n (W i) col:=by
 have s:=t.st;have hl:ρ.length=col:=by rw[<-s.lc,hc,aaP]
 have g:∀p,p < col->ν.getD p 0=p:=λp hp=>by rw[hc,aab,aaU hp];rfl
 rw[<-hs.line (W i)]
 rw[i5 hi λx hx lL=>by
  have:=s.one i x (by rw[hl];exact hi) (by rw[hl];exact hx);rw[g x hx,aav (Ne.symm lL)]at this
  rw[this];simp]
 have:=s.one i i (by rw[hl];exact hi) (by rw[hl];exact hi);rw[g i hi,aaw rfl]at this;rw[this]
end
def Turn.exists{A:Nat->Row}{n:Nat}:∀col:Nat,∃ρ ν q d W,Turn A n col ρ ν q d W
 | 0=>⟨_,_,_,_,_,Turn.start⟩
 | col+1=>by
  have⟨ρ,ν,q,d,W,t⟩:=Turn.exists (A:=A) (n:=n) col;by_cases h:∃k,ρ.length<=k/\k < n/\rv A n (W k) col≠0
  ·have⟨k,h1,h2,h3⟩:=h;have t':=t.move h1 h2;have e:jd ρ.length k ρ.length=k:=by unfold jd;rw[if_neg (Nat.lt_irrefl _),if_pos rfl]
   have⟨W',t2,_⟩:=t'.step (m:=col+1) () () (by show rv A n (W (jd ρ.length k ρ.length)) col≠0;rw[e];exact h3);exact⟨_,_,_,_,_,t2⟩
  ·refine⟨_,_,_,_,_,t.skip λi h1 h2=>?_⟩;by_cases e:rv A n (W i) col=0
   ·exact e
   ·exact aaJ ⟨i,h1,h2,e⟩ h
section
variable{col:Nat}{q:Nat->Nat}
def Ls(A:Nat->Row)(n:Nat)(W:Nat->Row)(ν:List Nat)(s k:Nat):Row:=λy=>Δ (λi=>rv A n (W i) s * ind (ν.getD i 0) y) k
def Turn.Mg(t:Turn A n col ρ ν q d W){x:Nat}(hx:x < col):∀k,k < n->Δ (λy=>A k y * (Ls A n W ν x ν.length y - d * ind x y)) col=0:=λk hk=>by
 have s:=t.st;have cm:∀i,i < ρ.length->ν.getD i 0∈ν:=λi hi=>by
  have D_:i < ν.length:=by rw[s.lc];exact hi
  rw[aab,aaa D_];exact aaF D_
 unfold Ls;rw[s.lc];have gen:∀f:Row,Δ (λy=>f y * (Δ (λi=>rv A n (W i) x * ind (ν.getD i 0) y) ρ.length - d * ind x y)) col=Δ (λi=>rv A n (W i) x * f (ν.getD i 0)) ρ.length - d * f x:=λf=>by
  have e1:Δ (λy=>f y * (Δ (λi=>rv A n (W i) x * ind (ν.getD i 0) y) ρ.length - d * ind x y)) col=Δ (λy=>Δ (λi=>rv A n (W i) x * (ind (ν.getD i 0) y * f y)) ρ.length+(-d) * (ind x y * f y)) col:=χ λy _=>by
   have:Δ (λi=>rv A n (W i) x * (ind (ν.getD i 0) y * f y)) ρ.length=f y * Δ (λi=>rv A n (W i) x * ind (ν.getD i 0) y) ρ.length:=by rw[<-Χ];exact χ λi _=>by grind
   rw[this];grind
  rw[e1,gW,Χ,oq (f:=f) hx,dq];have e2:Δ (λi=>Δ (λy=>rv A n (W i) x * (ind (ν.getD i 0) y * f y)) col) ρ.length=Δ (λi=>rv A n (W i) x * f (ν.getD i 0)) ρ.length:=χ λi hi=>by rw[Χ,oq (f:=f) (t.cl _ (cm i hi))]
  rw[e2];grind
 refine aaZ t.d0 ?_;rw[Int.mul_zero,gen (A k),Int.mul_sub];have b1:=t.back hk hx;have e3:Δ (λi=>rv A n (W i) x * A k (ν.getD i 0)) ρ.length=d * A k x:=by rw[b1];exact χ λi _=>aa7 _ _
 rw[e3];grind
def Turn.Sw(t:Turn A n col ρ ν q d W)(h:∀i,ρ.length<=i->i < n->rv A n (W i) col=0):Rk A n col (Ls A n W ν col ν.length) d:=λk hk=>by
 have:=(t.skip h).Mg (x:=col) () k hk;have e:Δ (λy=>A k y * (Ls A n W ν col ν.length y - d * ind col y)) (col+1)=Δ (λy=>A k y * (Ls A n W ν col ν.length y - d * ind col y)) col+A k col * (Ls A n W ν col ν.length col - d * ind col col):=rfl;have e1:Δ (λy=>A k y * (Ls A n W ν col ν.length y - d * ind col y)) col=Δ (λy=>A k y * Ls A n W ν col ν.length y) col:=χ λy hy=>by
  have:ind col y=0:=by unfold ind;rw[if_neg ()]
  rw[this];grind
 have e2:Ls A n W ν col ν.length col=0:=iP λi hi=>by
  have hm:ν.getD i 0∈ν:=by rw[aab,aaa hi];exact aaF hi
  have:ind (ν.getD i 0) col=0:=by unfold ind;rw[if_neg (by have:=t.cl _ hm;omega)]
  rw[this,Int.mul_zero]
 have e3:ind col col=1:=by unfold ind;rw[if_pos rfl]
 rw[e,e1,e2,e3]at this;have:A k col * (0 - d * 1)= -(d * A k col):=by grind
 omega
def St.YC(s:St A n ρ ν q d W)(b:Bd A n m B)(hc:∀c∈ν,c < m)(hr:ρ.length<=12):Ab d ((12 * B) ^ ρ.length):=by
 have ρn:∀a∈ρ,a < n:=λa ha=>by have⟨j,hj,e⟩:=abf ha;have:=s.yT j hj;rw[aab,aaa hj]at this;rw[<-e];exact this
 have:=Ab.det b.b1 (ρ.map A) ν (λx hx c zC=>by
  have⟨a,ha,rfl⟩:=aah.mp hx
  exact b.ab a c (ρn a ha) (hc c zC)) (by rw[s.lc];exact hr)
 rw[s.det,aac]at this;exact this
end
end Bz
seal L2.JE L2.JT L2.JW L2.JA L2.JS L2.B2 L2.JI L2.JK
local macro_rules| `(tactic| walk_at "vc")=>`(tactic| dsimp only[L2.gN,L2.UH,L2.S9,L2.RD,L2.UI,L2.N3,L2.sIf,L2.SI,L2.Lv,L2.Jy,L2.JR,L2.CQ,L2.lI,L2.Vp,L2.x',L2.dC,L2.QH,L2.Eu,L2.TR,L2.Ua,L2.pO,L2.Sv,L2.Z5,L2.Tw,L2.UR,L2.T6,L2.ZV,L2.kF,List.map_cons,List.map_nil,List.length_cons,List.length_nil,List.cons_append,List.nil_append,List.replicate,List.getElem?_cons_zero,List.getElem?_cons_succ,List.set_cons_zero,List.set_cons_succ,Nat.reduceSub,Nat.reduceAdd,Nat.zero_add])
namespace Pg
open PySem L2
variable{f aM fo uw c8 dZ:Addr}{fd aN ft tH c_ eD:FuncData}{M:Ms}{d:Dt}{xs ds:List Dt}{i n j l:Nat}{b t lo E C B:Int}{A W:Nat->Bz.Row}{kc:List (Int×Nat)}
def top(i:Nat):Stmt:=PySem.Challenge.pw_chanceduel_k36_whole_who_moves_first.main.body.getD i (.Pass ⟨0,0,0,0⟩)
def cls(i j:Nat):Stmt:=match top i with
 | .ClassDef _ _ _ b _ _ _ _ _ _ _=>b.getD j (.Pass ⟨0,0,0,0⟩)
 | _=>.Pass ⟨0,0,0,0⟩
abbrev g7:Stmt:=top 9
abbrev pB:Stmt:=top 10
abbrev Jk:Stmt:=top 11
abbrev BK:Stmt:=top 12
abbrev Cd:Stmt:=top 13
abbrev CU:Stmt:=top 14
abbrev um:Stmt:=top 19
abbrev oG:Stmt:=top 20
abbrev iG:Stmt:=top 21
abbrev jD:Stmt:=top 22
abbrev mZ:Stmt:=top 23
abbrev tD:Stmt:=top 24
abbrev mi:Stmt:=top 25
abbrev mh:Stmt:=top 30
abbrev sP:Stmt:=top 31
abbrev pU:Stmt:=top 32
abbrev Cq:Stmt:=top 33
abbrev jL:Stmt:=top 36
abbrev ir:Stmt:=top 37
abbrev kK:Stmt:=top 38
abbrev jI:Stmt:=top 39
abbrev rD:Stmt:=top 40
abbrev mU:Stmt:=top 41
abbrev oM:Stmt:=top 43
abbrev oB:Stmt:=top 45
abbrev nj:Stmt:=top 46
abbrev sO:Stmt:=top 47
abbrev rY:Stmt:=top 48
abbrev js:Stmt:=top 49
abbrev oR:Stmt:=top 50
abbrev oU:Stmt:=top 51
abbrev xA:Stmt:=top 52
abbrev Cp:Stmt:=top 53
abbrev pS:Stmt:=top 54
abbrev oY:Stmt:=top 55
abbrev g9:Stmt:=top 57
abbrev tU:Stmt:=top 58
abbrev uA:Stmt:=top 60
abbrev yt:Stmt:=top 61
abbrev yc:Stmt:=top 62
abbrev Bs:Stmt:=top 64
abbrev mY:Stmt:=top 65
abbrev mO:Stmt:=top 66
abbrev yo:Stmt:=top 67
abbrev pJ:Stmt:=top 68
abbrev jr:Stmt:=top 69
abbrev mG:Stmt:=top 70
abbrev k8:Stmt:=top 71
abbrev pH:Stmt:=top 72
abbrev r6:Stmt:=top 73
abbrev ji:Stmt:=top 74
abbrev tj:Stmt:=top 75
abbrev iF:Stmt:=top 76
abbrev qf:Stmt:=top 77
abbrev pK:Stmt:=top 78
abbrev Qe:Stmt:=top 79
abbrev mK:Stmt:=cls 34 0
abbrev mV:Stmt:=cls 34 1
abbrev kf:Stmt:=cls 34 2
abbrev mq:Stmt:=cls 34 3
abbrev kO:Stmt:=cls 34 4
abbrev oJ:Stmt:=cls 34 5
abbrev kH:Stmt:=cls 34 7
abbrev gJ:Stmt:=cls 34 8
abbrev nu:Stmt:=cls 34 9
abbrev mN:Stmt:=cls 34 10
open PySem L2 Fr0 Tx
structure Ev(K:fI)(mg:Str->Option Value)(w:World)(Cm:Addr):Prop where
 bJ:mg "len"=none
 sk:mg "abs"=none
 cD:mg "isinstance"=none
 vH:mg "int"=none
 w8:mg "bool"=none
 KD:mg "str"=none
 qS:mg "tuple"=none
 jJ:mg "list"=none
 bR:mg "range"=none
 eI:mg "enumerate"=none
 EU:mg "any"=none
 y_:mg "all"=none
 zO:mg "sum"=none
 vn:mg "zip"=none
 pA:mg "dict"=none
 Ed:mg "min"=none
 IG:mg "max"=none
 ib:PySem.W.kitOne K (.type "int") (.type "bool")=some false
 kis:PySem.W.kitOne K (.type "int") (.type "str")=some false
 kts:PySem.W.kitOne K (.type "tuple") (.type "str")=some false
 kti:PySem.W.kitOne K (.type "tuple") (.type "int")=some false
 kls:PySem.W.kitOne K (.type "list") (.type "str")=some false
 kli:PySem.W.kitOne K (.type "list") (.type "int")=some false
 ktl:PySem.W.kitOne K (.type "tuple") (.type "list")=some false
 klt:PySem.W.kitOne K (.type "list") (.type "tuple")=some false
 dR:Eg K Cm
 cB:iH K Cm "kept_rows"
 fH:iH K Cm "kept_share"
 wK:∃a o its n,mg "HANDS"=some (.ref a)/\K.lookup a=some o/\o.cls= .type "tuple"/\o.data= .seq its n/\its.size<=sizeLine/\Paired (λ(z:Str) (u:Value)=>∃tk,u= .str z tk) ["one","other"] its.toList
 l7:RC K w mg "TURNED_KINDS" [("one","other"),("other","one"),("chance","chance")]
 qz:∃tk,mg "MOST_DOORS"=some (.int 6 tk)
 jA:∃tk,mg "MOST_BOTTOM"=some (.int 1000000 tk)
 nL:∃tk,mg "MOST_PLACES"=some (.int 12 tk)
 gS:∃tk,mg "MOST_SHARE_BOTTOM"=some (.int 1000 tk)
def Cu{K:fI}{T:String}:PySem.W.kitOne K (.type T) (.type T)=some true:=by unfold PySem.W.kitOne;rw[aaw (ack _)]
section
variable{P:Program}{w:World}{K:fI}{mg:Str->Option Value}{base:Heap}{Cm:Addr}
def Jf:DF:=λds M q _=>match ds with
 | [.int a,.int b]=>q (.int (g a b)) M
 | _=>False
def bO:Ε ["one","other","great","small","rest"] ["one","other"] (τ g7):=.of rfl
def pQ(F:cX K "common_divisor" "common_divisor" g7 f fd)(E:Ev K mg w Cm):av P w K mg base (bY P w) 1 f fd ["one","other"] (cK K Jf):=by
 refine F.dE bO (λds M q x h=>?_) (λaX A outer s H E' hr=>⟨_,(η (Γ 2 bO.nd (Fd E.sk (Τ (jv 0) θ)))
   (η (Γ 3 bO.nd (Fd E.sk (Τ (jv 1) θ)))
   (η (nP (tX hr (jv 3) ψ) (η (Γ 4 bO.nd (cx (jv 2) (jv 3)))
   (η (Γ 2 bO.nd (jv 3))
   (μ (Γ 3 bO.nd (jv 4))))))
   (μ (Ζ (jv 2)))))),λds M q x h=>?_⟩)
 ·unfold Jf at h;split at h;· rfl
  ·exact h.elim
 ·unfold Jf at h;split at h
  ·rename_i a b;refine⟨λm ρ M'=>M'=M/\∃(x y:Int) (r:Option Dt),ρ=[some (.int a),some (.int b),some (.int x),some (.int y),r]/\0<=x/\0<=y/\g x y=g a b/\m=y.toNat,⟨_,rfl,_,_,_,rfl,by split <;> omega,by split <;> omega,Oy a b,rfl⟩,?_⟩;rintro m ρ M' ⟨rfl,x,y,r,rfl,hx,hy,e,rfl⟩;refine⟨λhb=>?_,λhb=>?_⟩
   ·have NP:y≠0:=by simpa using hb
    refine⟨_,λρ' M2 h2=>h2,?_⟩;refine⟨(),(x % y).toNat,?_,rfl,y,x % y,_,rfl,hy,aa9 _ NP,?_,rfl⟩
    ·have:=aa5 x (show 0 < y by omega);have:=aa9 x NP;omega
    ·rw[<-abS x hy,J3 ()];exact e
   ·have NP:y=0:=by simpa using hb
    subst NP;rw[I0 hx]at e;subst e;exact h
  ·exact h.elim
def G6{i j:Int}(h:fY j)(l:i.natAbs<=j.natAbs):fY i:=aaV l h
def ud:DF:=λds M q _=>match ds with
 | [.int t,.int b]=>fY b/\(b=0->False)/\(b≠0->q (.tup [.int (aA t b).1,.int (aA t b).2]) M)
 | _=>False
def mS:Ε ["top","bottom","divisor"] ["top","bottom"] (τ pB):=.of rfl
def zq(F:cX K "fraction" "fraction" pB f fd)(E:Ev K mg w Cm){gK:Addr}{g6:FuncData}(bP:aB P w K mg base 1 "common_divisor" ["one","other"] Jf gK g6):av P w K mg base (bY P w) 2 f fd ["top","bottom"] (cK K ud):=by
 refine F.dE mS (λds M q x h=>?_) (λaX A outer s H E' hr=>⟨_,(η (aI (eZ hr (jv 1) ψ) (μ fQ) Υ)
   (η (Γ 2 mS.nd (ao bP hr ξ (Τ (jv 0) (Τ (jv 1) θ))))
   (η (k4 (aI (vN (jv 1) ψ) (μ (Γ 2 mS.nd (Ui (jv 2)))) Υ))
   (μ (Ζ (fR (ι (Bq (jv 0) (jv 2)) (ι (Bq (jv 1) (jv 2)) θ cj) cj))))))),λds M q x h=>?_⟩)
 ·unfold ud at h;split at h;· rfl
  ·exact h.elim
 ·unfold ud at h;split at h
  ·rename_i t b;have⟨hB,h0,h1⟩:=h;refine⟨λhb=>?_,λhb=>?_⟩
   ·exact h0 (by simpa using hb)
   ·have Lr:b≠0:=by simpa using hb
    refine⟨λρ M'=>M'=M/\ρ=[some (.int t),some (.int b),some (.int (dv t b))],⟨λhn=>?_,λhn=>?_⟩,?_⟩
    ·have Uc:b < 0:=by simpa using hn
     exact⟨rfl,by unfold dv;rw[if_pos Uc];rfl⟩
    ·have Uc:¬b < 0:=by simpa using hn
     exact⟨rfl,by unfold dv;rw[if_neg Uc];rfl⟩
    ·rintro ρ M' ⟨rfl,rfl⟩;have hd:=EC (t:=t) Lr;have Z0:fY (dv t b):=G6 hB (wH Lr);exact⟨⟨hd,Z0⟩,⟨hd,Z0⟩,gV,h1 Lr⟩
  ·exact h.elim
abbrev Fr:=Int×Int
def Ξ(p:Fr):Dt:=.tup [.int p.1,.int p.2]
def bz(p:Fr):Bool:=decide ((if p.1 < 0 then -p.1 else p.1)<=10 ^ 30)&&decide (p.2<=1000000)
def tE:DF:=λds M q _=>∃p,ds=[Ξ p]/\q (.bl (bz p)) M
def Hh:Ε ["pay"] ["pay"] (τ um):=.of rfl
def BW(F:cX K "fits_pay" "fits_pay" um f fd)(E:Ev K mg w Cm):av P w K mg base (bY P w) 1 f fd ["pay"] (cK K tE):=by
 refine F.dE Hh (λds M q x h=>?_) (λaX A outer s H E' hr=>⟨_,(μ (Ζ (gY (Ac (Fd E.sk (ι (Μ (jv 0) ψ) θ aU)) (iW ψ ψ)) (kB (Ac (Μ (jv 0) ψ) (tJ E.jA)))))),λds M q x h=>?_⟩)
 ·have⟨p,rfl,_⟩:=h;rfl
 ·have⟨p,rfl,h⟩:=h;refine⟨⟨@_,@_,@_⟩,λh1=>?_,λh1=>?_⟩
  ·have e:bz p=decide (p.2<=1000000):=by unfold bz;rw[show decide ((if p.1 < 0 then -p.1 else p.1)<=10 ^ 30)=true from h1];rfl
   rw[e]at h;exact h
  ·have e:bz p=false:=by unfold bz;rw[show decide ((if p.1 < 0 then -p.1 else p.1)<=10 ^ 30)=false from h1];rfl
   rw[e]at h;exact h
def qV{ok:Ms->Prop}(h:lV M d=some (xs,ok)):ok M:=by
 cases d with
 | lst ds=>cases h;trivial
 | jR ns=>cases h;trivial
 | loc k=>
  have h:(match M[k]? with| some (.lst xs)=>some (xs,λM':Ms=>M'[k]? =some (.lst xs))| _=>none)=some (xs,ok):=h;split at h
  ·rename_i ys hm;cases h;exact hm
  ·cases h
 | _=>cases h
def Au{ok:Ms->Prop}(h:lV M d=some (xs,ok)):lZ M d=some (xs,ok):=by
 cases d with
 | lst ds=>cases h;rfl
 | jR ns=>cases h;rfl
 | loc k=>exact h
 | _=>cases h
def eK{ρ:En}{ok:Ms->Prop}{q:List Dt->(Ms->Prop)->Ms->Prop}{x:DX}(hv:ρ[i]? =some (some d))(hl:lV M d=some (xs,ok))(h:q xs ok M):eF (x' i) ρ M q x:=by unfold eF x';rw[hv];show(match lZ M d with| some (xs,ok)=>q xs ok M| none=>False);rw[Au hl];exact h
def bg{n:Int}{k:Nat}(h:n.natAbs < 2 ^ k)(hk:k<=8000:=by decide):fY n:=aau h (ach @_ hk)
def aJ(t:Int)(p:Fr)(size:Int):Bool:=decide (0<=t)&&(decide (t < size)&&bz p)
def wj:DF:=λds M q _=>∃t p r size,ds=[.tup (.int t::Ξ p::r),.int size]/\q (.bl (aJ t p size)) M
def Bv:Ε ["door","size"] ["door","size"] (τ oG):=.of rfl
def z6(F:cX K "fits_door" "fits_door" oG f fd)(E:Ev K mg w Cm){rT:Addr}{ug:FuncData}(gD:aB P w K mg base 1 "fits_pay" ["pay"] tE rT ug):av P w K mg base (bY P w) 2 f fd ["door","size"] (cK K wj):=by
 refine F.dE Bv (λds M q x h=>?_) (λaX A outer s H E' hr=>⟨_,(μ (Ζ (gY (Ac ψ (Μ (jv 0) ψ)) (gY (I_ (Μ (jv 0) ψ) (jv 1)) (kB (ao gD hr ξ (ι (Μ (jv 0) ψ) θ aU))))))),λds M q x h=>?_⟩)
 ·have⟨t,p,r,size,rfl,_⟩:=h;rfl
 ·have⟨t,p,r,size,rfl,h⟩:=h;walk_at "vc";refine Ι rfl bu ?_;refine⟨λh1=>?_,λh1=>?_⟩
  ·refine Ι rfl bu ⟨λh2=>?_,λh2=>?_⟩
   ·refine Ι rfl (Ο (j:=1) rfl) ⟨p,rfl,?_⟩;have e:aJ t p size=bz p:=by unfold aJ;rw[h1,h2];rfl
    rw[<-e];exact h
   ·have e:aJ t p size=false:=by unfold aJ;rw[h1,h2];rfl
    rw[<-e];exact h
  ·have e:aJ t p size=false:=by unfold aJ;rw[h1];rfl
   rw[<-e];exact h
abbrev cG:=Int×Fr×List Fr
def fe(d:cG):Dt:=.tup (.int d.1::Ξ d.2.1::d.2.2.map Ξ)
def aq(ds:List cG)(size:Int):Bool:=decide (1<=ds.length)&&decide (ds.length<=6)&&ds.all λd=>aJ d.1 d.2.1 size
def tW:DF:=λas M q _=>∃d size ds ok,as=[d,.int size]/\lV M d=some (ds.map fe,ok)/\ds.length<=100/\q (.bl (aq ds size)) M
def qx:Ε ["doors","size"] ["doors","size"] (τ mZ):=.of rfl
def yr(F:cX K "fits_doors" "fits_doors" mZ f fd)(E:Ev K mg w Cm){G9:Addr}{Gx:FuncData}(mX:aB P w K mg base 2 "fits_door" ["door","size"] wj G9 Gx):av P w K mg base (bY P w) 3 f fd ["doors","size"] (cK K tW):=by
 refine F.dE qx (λds M q x h=>?_) (λaX A outer s H E' hr=>⟨_,(η (aI (JW.jt (l9 (vN (cQ E.bJ (Τ (jv 0) θ)) ψ) (j8 (EJ (cQ E.bJ (Τ (jv 0) θ)) (tJ E.qz))))) (μ (Ζ CB)) Υ)
   (μ (Ζ (OI E.y_ (ι (dX (ys:=["size"]) (Ω:=[1]) (.of qx rfl rfl rfl) (aV (jv 0)) (λC s H fp=>(ao mX hr (fv (P:=P) (w:=w)) (Τ (jv 0) (Τ (jv 1) θ))))) θ))))),λds M q x h=>?_⟩)
 ·have⟨d,size,ds,ok,rfl,_⟩:=h;rfl
 ·have⟨d,size,ds,ok,rfl,hl,hz,h⟩:=h;have hs:=nY hl;walk_at "vc";refine az hs ⟨λh1=>?_,λh1=>?_⟩
  ·refine⟨λ_=>?_,λz=>(nomatch z)⟩;have e:aq ds size=false:=by
    have:(ds.length:Int) < 1:=by simpa using h1
    unfold aq;rw[aaG ()];rfl
   rw[<-e];exact h
  ·have h1:¬(ds.length:Int) < 1:=by simpa using h1
   refine az hs ⟨λh2=>?_,λh2=>?_⟩
   ·have e:aq ds size=false:=by
     have:6 < (ds.length:Int):=by simpa using h2
     unfold aq;rw[aaG (p:=ds.length<=6) (),Bool.and_false];rfl
    rw[<-e];exact h
   ·have h2:¬6 < (ds.length:Int):=by simpa using h2
    refine eK rfl hl ⟨by rw[aac];exact aas hz @_,?_⟩;refine gG (f:=λd=>.bl (match d with| .tup (.int t:: .tup [.int a,.int b]::_)=>aJ t (a,b) size| _=>false)) (qV hl) (λx hx q hq=>?_) ?_
    ·have⟨y,_,rfl⟩:=aah.mp hx;exact⟨y.1,y.2.1,y.2.2.map Ξ,size,rfl,hq⟩
    ·refine⟨ds.map λd=>aJ d.1 d.2.1 size,?_,?_⟩
     ·rw[aaK,aaQ,aaK];rfl
     ·have e:aq ds size=(ds.map λd=>aJ d.1 d.2.1 size).all id:=by unfold aq;rw[aaB (show 1<=ds.length by omega),aaB (show ds.length<=6 by omega),List.all_map];rfl
      rw[<-e];exact h
def bN(cs:List Fr):Int:=cs.foldl (λb c=>b * c.2 / g b c.2) 1
def nH{c:Int}(hb:0 < b)(hc:0 < c):0 < b * c / g b c/\b * c / g b c<=b * c/\0 < g b c/\g b c<=c:=by
 have hg:0 < g b c:=zW ();have hbc:0 < b * c:=aa2 hb hc;have hd:g b c∣c:=Int.gcd_dvd_right ..;have hle:g b c<=c:=ace hc hd;have h1:c<=b * c:=by have:=aaN (show 1<=b by omega) (show 0<=c by omega);simpa using this
 refine⟨Int.ediv_pos_of_pos_of_dvd hbc () (Int.dvd_mul_of_dvd_right hd),?_,hg,hle⟩;exact acm _ ()
def P_(cs:List Fr):Prop:=cs.length<=12/\∀c∈cs,0 < c.2/\c.2 < 2 ^ 200/\c.1.natAbs < 2 ^ 200
def OkB(cs:List Fr):Prop:=cs.length<=13/\∀c∈cs,0 < c.2/\c.2 < 2 ^ 200
def p7:∀(cs:List Fr) (b:Int) (k:Nat),0 < b->b<=2 ^ (200 * k)->(∀c∈cs,0 < c.2/\c.2 < 2 ^ 200)->0 < cs.foldl (λb c=>b * c.2 / g b c.2) b/\cs.foldl (λb c=>b * c.2 / g b c.2) b<=2 ^ (200 * (k+cs.length))
 | [],b,k,h0,h1,_=>⟨h0,h1⟩
 | c::cs,b,k,h0,h1,hc=>by
  have⟨c0,c1⟩:=hc c aae;have⟨s0,s1,_⟩:=nH h0 c0;have hlt:b * c.2 / g b c.2<=2 ^ (200 * (k+1)):=by refine abC s1 ?_;rw[show 200 * (k+1)=200 * k+200 by omega,Int.pow_add];exact abG h1 (aaj c1) (aaj c0) (aaj (Int.pow_pos @_))
  have:=p7 cs _ (k+1) s0 hlt λd hd=>hc d (aad _ hd);rw[abI,aay,show k+(cs.length+1)=k+1+cs.length by omega];exact this
def Ug{n:Int}{k:Nat}(h0:0<=n)(h:n<=2 ^ k)(hk:k < 8000):fY n:=by
 refine bg (k:=k+1) ?_ hk;have:(n.natAbs:Int) < ((2 ^ (k+1):Nat):Int):=by rw[abl h0,Int.natCast_pow,abU];have:(0:Int) < 2 ^ k:=Int.pow_pos @_;show n < 2 ^ k * 2;omega
 exact abO.mp this
def fG:∀(cs:List Fr) (b:Int),0 < b->(∀c∈cs,0 < c.2)->0 < cs.foldl (λb c=>b * c.2 / g b c.2) b
 | [],_,h0,_=>h0
 | c::cs,b,h0,hc=>fG cs _ (nH h0 (hc c aae)).1 λd hd=>hc d (aad _ hd)
def qH{n:Int}{k:Nat}(h0:0<=n)(h:n < 2 ^ k)(hk:k<=8000):fY n:=by
 refine bg (k:=k) ?_ hk;have:(n.natAbs:Int) < ((2 ^ k:Nat):Int):=by rw[abl h0,Int.natCast_pow];exact h
 exact abO.mp this
def iw:DF:=λds M q _=>∃cs:List Fr,ds=[.lst (cs.map Ξ)]/\OkB cs/\q (.int (bN cs)) M
def e7:Ε ["chances","bottom","chance"] ["chances"] (τ iG):=.of rfl
def qK(F:cX K "common_bottom" "common_bottom" iG f fd)(E:Ev K mg w Cm){gK:Addr}{g6:FuncData}(bP:aB P w K mg base 1 "common_divisor" ["one","other"] Jf gK g6):av P w K mg base (bY P w) 2 f fd ["chances"] (cK K iw):=by
 refine F.dE e7 (λds M q x h=>?_) (λaX A outer s H E' hr=>⟨_,(η (Γ 1 e7.nd ψ)
   (η (cC (aV (jv 0)) (au (i:=2) e7.nd rfl (Or.inl rfl)) aG (μ (Γ 1 e7.nd (j9 (aR (jv 1) (Μ (jv 2) ψ)) (ao bP hr ξ (Τ (jv 1) (ι (Μ (jv 2) ψ) θ aU)))))))
   (μ (Ζ (jv 1))))),λds M q x h=>?_⟩)
 ·have⟨cs,rfl,_⟩:=h;rfl
 ·have⟨cs,rfl,⟨hz,hc⟩,h⟩:=h;walk_at "vc";refine eK (i:=0) rfl rfl ?_;refine bx (λxs ρ M'=>M'=M/\∃gE rest r,cs=gE++rest/\xs=rest.map Ξ/\ρ=[some (.lst (cs.map Ξ)),some (.int (bN gE)),r]) (λ_ _ _ _=>trivial) (λx xs ρ M' hj fW=>?_) (λρ M' hj=>?_) _ _ _ ⟨rfl,[],cs,none,rfl,rfl,rfl⟩
  ·have⟨rfl,gE,rest,r,e,ex,rfl⟩:=hj;cases rest with
   | nil=>cases ex
   | cons c rest=>
    cases ex;have hd:∀d∈gE,0 < d.2/\d.2 < 2 ^ 200:=λd hd=>by have⟨a,b⟩:=hc d (by rw[e];exact List.mem_append_left _ hd);exact⟨a,b⟩
    have⟨c0,c1⟩:=hc c (by rw[e];exact aaE _ aae);have⟨b0,b1⟩:=p7 gE 1 0 @_ @_ hd;have hl:gE.length<=13:=by have:=aaX List.length e;rw[aag]at this;omega
    have⟨s0,s1,g0,g1⟩:=nH b0 c0;refine⟨⟨Ug (aaj b0) b1 (),qH (aaj c0) c1 @_⟩,⟨g0,qH (aaj g0) (aaL g1 c1) @_⟩,?_⟩;refine fW _ _ ⟨rfl,gE++[c],rest,some (Ξ c),by rw[e];simp,rfl,?_⟩;have e2:bN (gE++[c])=bN gE * c.2 / g (bN gE) c.2:=by unfold bN;rw[List.foldl_append];rfl
    rw[e2];rfl
  ·have⟨rfl,gE,rest,r,e,ex,rfl⟩:=hj;cases rest with
   | nil=>rw[aa1]at e;subst e;exact h
   | cons c rest=>cases ex
def ar(cs:List Fr):Bool:= !(cs.any λc=>decide (c.1<=0))&&(decide ((cs.map λc=>c.1 * (bN cs / c.2)).sum=bN cs)&&decide (bN cs<=1000000))
def nO:DF:=λds M q _=>∃cs:List Fr,ds=[.lst (cs.map Ξ)]/\P_ cs/\q (.bl (ar cs)) M
def dM:Ε ["chances","bottom","whole"] ["chances"] (τ jD):=.of rfl
def sY(F:cX K "fits_chances" "fits_chances" jD f fd)(E:Ev K mg w Cm){iC:Addr}{iD:FuncData}(cc:aB P w K mg base 2 "common_bottom" ["chances"] iw iC iD):av P w K mg base (bY P w) 3 f fd ["chances"] (cK K nO):=by
 refine F.dE dM (λds M q x h=>?_) (λaX A outer s H E' hr=>⟨_,(η (aI (bL (R1 E.EU (ι (dX (ys:=[]) (Ω:=[]) (.of dM rfl rfl rfl) (aV (jv 0)) (λC s H fp=>(Ac (Μ (jv 0) ψ) ψ))) θ))) (μ (Ζ CB)) Υ)
   (η (Γ 1 dM.nd (ao cc hr ξ (Τ (jv 0) θ)))
   (η (Γ 2 dM.nd (Ot E.zO (ι (dX (ys:=["bottom"]) (Ω:=[1]) (.of dM rfl rfl rfl) (aV (jv 0)) (λC s H fp=>(aR (Μ (jv 0) ψ) (j9 (jv 1) (Μ (jv 0) ψ))))) θ)))
   (μ (Ζ (gY (Mo hr (jv 2) (jv 1)) (kB (Ac (jv 1) (tJ E.jA))))))))),λds M q x h=>?_⟩)
 ·have⟨cs,rfl,_⟩:=h;rfl
 ·have⟨cs,rfl,Lu,h⟩:=h;have⟨hz,hc⟩:=id Lu;have hz2:(cs.map Ξ).length<=sizeLine:=by rw[aac];exact aas hz @_
  have⟨b0,b1⟩:=p7 cs 1 0 @_ @_ λc h=>⟨(hc c h).1,(hc c h).2.1⟩;walk_at "vc";refine eK (i:=0) rfl rfl ⟨hz2,?_⟩;refine gG (f:=λd=>.bl (match d with| .tup [.int a,.int b]=>decide (a<=0)| _=>false)) trivial (λx hx q hq=>?_) ?_
  ·have⟨y,_,rfl⟩:=aah.mp hx;exact hq
  ·refine⟨cs.map λc=>decide (c.1<=0),by rw[aaK,aaQ,aaK];rfl,λ_ z=>(nomatch z),λ_ z=>(nomatch z),?_⟩;have ea:(cs.map λc=>decide (c.1<=0)).any id=cs.any λc=>decide (c.1<=0):=by rw[List.any_map];rfl
   rw[ea];refine⟨λh1=>?_,λh1=>?_⟩
   ·have e:ar cs=false:=by unfold ar;rw[h1];rfl
    rw[<-e];exact h
   ·refine⟨cs,rfl,⟨(),λc h=>⟨(hc c h).1,(hc c h).2.1⟩⟩,?_⟩;walk_at "vc";refine eK (i:=0) rfl rfl ⟨hz2,?_⟩;refine gG (f:=λd=>.int (match d with| .tup [.int a,.int b]=>a * (bN cs / b)| _=>0)) trivial (λx hx q hq=>?_) ?_
    ·have⟨y,hy,rfl⟩:=aah.mp hx;have⟨y0,y1,y2⟩:=hc y hy;refine⟨⟨y0,qH (aaj y0) y1 @_⟩,⟨bg y2,?_⟩,hq⟩;refine Ug (k:=200 * (0+cs.length)) (Int.ediv_nonneg (aaj b0) (aaj y0)) (abC (acm _ (aaj b0)) b1) ()
    ·refine⟨cs.map λc=>c.1 * (bN cs / c.2),by rw[aaK,aaQ,aaK];rfl,⟨_,_,rfl⟩,?_⟩;refine⟨λh2=>?_,λh2=>?_⟩
     ·have e:ar cs=decide (bN cs<=1000000):=by unfold ar;rw[h1,h2];rfl
      rw[e]at h;exact h
     ·have e:ar cs=false:=by unfold ar;rw[h1,h2];rfl
      rw[<-e];exact h
inductive Rw where
 | fin (p:Fr)
 | υ (k:Str) (ds:List cG)
def ω(d:cG):Fr:=d.2.2.headD (0,1)
def gc:Rw->Prop
 | .fin p=>0 < p.2
 | .υ k ds=>k≠"end"/\ds.length<=12/\(k="chance"->(∀d∈ds,d.2.2=[ω d])/\P_ (ds.map ω))/\∀d∈ds,d.2.2.length<=1/\0 < d.2.1.2
def kg(M:Ms)(d:Dt):Rw->Prop
 | .fin p=>d= .tup [.str "end",Ξ p]
 | .υ k ds=>∃e ok,d= .tup [.str k,e]/\lV M e=some (ds.map fe,ok)
def bo:Rw->Dt
 | .fin p=>.tup [.str "end",Ξ p]
 | .υ k ds=>.tup [.str k,.lst (ds.map fe)]
def Nv(M:Ms)(r:Rw):kg M (bo r) r:=by
 cases r with
 | fin p=>rfl
 | υ k ds=>exact⟨_,_,rfl,rfl⟩
def m8(p:Fr):(Ξ p).under n:=⟨trivial,trivial,trivial⟩
def jy{n:Nat}:∀(ps:List Fr),Dt.bM n (ps.map Ξ)
 | []=>trivial
 | p::ps=>⟨m8 p,jy ps⟩
def PM(d:cG):(fe d).under n:=⟨trivial,m8 _,jy _⟩
def ik{n:Nat}:∀(ds:List cG),Dt.bM n (ds.map fe)
 | []=>trivial
 | d::ds=>⟨PM d,ik ds⟩
def LO(r:Rw):(bo r).under n:=by
 cases r with
 | fin p=>exact⟨trivial,m8 p,trivial⟩
 | υ k ds=>exact⟨trivial,ik ds,trivial⟩
def tN{n:Nat}:∀(rs:List Rw),Dt.bM n (rs.map bo)
 | []=>trivial
 | r::rs=>⟨LO r,tN rs⟩
def Β(k:Str):Bool:=k=="one"|| k=="other"
def fK(r:Rw)(size:Int):Bool:=match r with
 | .fin p=>bz p
 | .υ k ds=>if Β k then aq ds size else if k="chance" then aq ds size&&ar (ds.map ω) else false
def KG{j:Int}{ρ:En}{ok:Ms->Prop}{q:List Dt->(Ms->Prop)->Ms->Prop}{x:DX}(hv:ρ[i]? =some (some (.tup ds)))(hj:nJ ds j=some d)(hl:lV M d=some (xs,ok))(h:q xs ok M):eF (lI fm (x' i) (dC (.int j))) ρ M q x:=by unfold eF lI x';rw[hv];show fm (.tup ds) (.int j) M (λd M1=>match lZ M1 d with| some (xs,ok)=>q xs ok M1| none=>False);refine Ι rfl hj ?_;show(match lZ M d with| some (xs,ok)=>q xs ok M| none=>False);rw[Au hl];exact h
def ur{k:Str}:Q8 (.str k) [.str "one",.str "other"]=Β k:=by show((("one":Str)==k)|| ((("other":Str)==k)|| false))=(k=="one"|| k=="other");rw[Bool.or_false,BEq.comm (a:=("one":Str)),BEq.comm (a:=("other":Str))]
def y8:DF:=λas M q _=>∃d r size,as=[d,.int size]/\kg M d r/\gc r/\q (.bl (fK r size)) M
def pE:Ε ["row","size","kind"] ["row","size"] (τ tD):=.of rfl
def BU   (F:cX K "fits_row" "fits_row" tD f fd) (E:Ev K mg w Cm) {rT:Addr} {ug:FuncData} (gD:aB P w K mg base 1 "fits_pay" ["pay"] tE rT ug) {C9:Addr} {BY:FuncData} (ip:aB P w K mg base 3 "fits_doors" ["doors","size"] tW C9 BY) {xH:Addr} {wF:FuncData} (iz:aB P w K mg base 3 "fits_chances" ["chances"] nO xH wF):av P w K mg base (bY P w) 4 f fd ["row","size"] (cK K y8):=by
 refine F.dE pE (λds M q x h=>?_) (λaX A outer s H E' hr=>⟨_,(η (Γ 2 pE.nd (Μ (jv 0) ψ))
   (η (aI (eZ hr (jv 2) jV) (μ (Ζ (ao gD hr ξ (ι (Μ (jv 0) ψ) θ aU)))) Υ)
   (η (aI (IK (jv 2) (K4 E.wK)) (μ (Ζ (ao ip hr ξ (ι (Μ (jv 0) ψ) (Τ (jv 1) θ) aU)))) Υ)
   (η (aI (eZ hr (jv 2) jV) (μ (Ζ (gY (ao ip hr ξ (ι (Μ (jv 0) ψ) (Τ (jv 1) θ) aU)) (kB (ao iz hr ξ (ι (dX (ys:=[]) (Ω:=[]) (.of pE rfl rfl rfl) (aV (Μ (jv 0) ψ)) (λC s H fp=>(Μ (jv 0) ψ))) θ)))))) Υ)
   (μ (Ζ CB)))))),λds M q x h=>?_⟩)
 ·have⟨d,r,size,rfl,_⟩:=h;rfl
 ·have⟨d,r,size,rfl,ra,ro,h⟩:=h;cases r with
  | fin p=>
   have ra:d= .tup [.str "end",Ξ p]:=ra;subst ra;exact⟨λ_=>⟨p,rfl,h⟩,λz=>(nomatch z)⟩
  | υ k ds=>
   have⟨e,ok,rfl,hl⟩:=ra;have⟨hk,hz,Bh,_⟩:=ro;refine⟨λz=>aaJ (aaA z) hk,λ_=>?_⟩;refine⟨.str k,[.str "one",.str "other"],[.str "one",.str "other"],rfl,rfl,rfl,?_⟩;rw[ur];refine⟨λh1=>?_,λh1=>?_⟩
   ·refine⟨e,size,ds,ok,rfl,hl,(),?_⟩;have e1:fK (.υ k ds) size=aq ds size:=by show(if Β k then _ else _)=_;rw[aaw h1]
    rw[<-e1];exact h
   ·have e1:fK (.υ k ds) size=if k="chance" then aq ds size&&ar (ds.map ω) else false:=by show(if Β k then _ else _)=_;rw[aav (by rw[h1];decide)]
    rw[e1]at h;refine⟨λh2=>?_,λh2=>?_⟩
    ·have h2:k="chance":=aaA h2;rw[aaw h2]at h;have⟨LU,Lu⟩:=Bh h2;refine⟨e,size,ds,ok,rfl,hl,(),λh3=>?_,λh3=>?_⟩
     ·rw[h3,Bool.true_and]at h;show eF _ _ _ _ _;refine KG (i:=0) (j:=1) (ds:=[.str k,e]) rfl (Ο (j:=1) rfl) hl ⟨by rw[aac];exact aas hz @_,?_⟩;refine gG (f:=λd=>match d with| .tup [_,_,c]=>c| _=>.bF) (qV hl) (λx hx q hq=>?_) ?_
      ·have⟨y,hy,rfl⟩:=aah.mp hx;have ey:fe y= .tup [.int y.1,Ξ y.2.1,Ξ (ω y)]:=by unfold fe;rw[LU y hy];rfl
       rw[ey]at hq⊢;exact hq
      ·refine⟨ds.map ω,?_,Lu,h⟩;rw[aaQ,aaK,aaK];have:∀y∈ds,((λd=>match d with| Dt.tup [_,_,c]=>c| _=>Dt.bF) ∘ fe) y=(Ξ ∘ ω) y:=λy hy=>by
        have ey:fe y= .tup [.int y.1,Ξ y.2.1,Ξ (ω y)]:=by unfold fe;rw[LU y hy];rfl
        show(match fe y with| Dt.tup [_,_,c]=>c| _=>Dt.bF)=Ξ (ω y);rw[ey]
       rw[abg this]
     ·rw[h3,Bool.false_and]at h;exact h
    ·have h2:k≠"chance":=abd h2;rw[aav h2]at h;exact h
def sF:DF:=λas M q _=>∃d r,as=[d]/\kg M d r/\gc r/\match r with
 | .fin p=>q (.tup [.str "end",Ξ p]) M
 | .υ k ds=>q (.tup [.str k,.loc M.length]) (M++[.lst (ds.map fe)])
def zG:Ε ["row"] ["row"] (τ mi):=.of rfl
def wL(F:cX K "copied_row" "copied_row" mi f fd)(E:Ev K mg w Cm):av P w K mg base (bY P w) 1 f fd ["row"] (cK K sF):=by
 refine F.dE zG (λds M q x h=>?_) (λaX A outer s H E' hr=>⟨_,(η (aI (eZ hr (Μ (jv 0) ψ) jV) (μ (Ζ (fR (ι (Μ (jv 0) ψ) (ι (Μ (jv 0) ψ) θ aU) aU)))) Υ)
   (μ (Ζ (fR (ι (Μ (jv 0) ψ) (ι (tP E.jJ (ι (Μ (jv 0) ψ) θ aU)) θ aS) aU))))),λds M q x h=>?_⟩)
 ·have⟨d,r,rfl,_⟩:=h;rfl
 ·have⟨d,r,rfl,ra,ro,h⟩:=h;cases r with
  | fin p=>
   have ra:d= .tup [.str "end",Ξ p]:=ra;subst ra;exact⟨λ_=>⟨gV,h⟩,λz=>(nomatch z)⟩
  | υ k ds=>
   have⟨e,ok,rfl,hl⟩:=ra;refine⟨λz=>aaJ (aaA z) ro.1,λ_=>?_⟩;show(match jq M e with| some xs=>_| none=>False);rw[nY hl];exact⟨gV,h⟩
def aW(p:Fr):Bool:=decide (0<=p.1)&&(decide (p.1 < p.2)&&decide (p.2<=1000))
def tF:DF:=λas M q _=>∃p,as=[Ξ p]/\q (.bl (aW p)) M
def zm:Ε ["share"] ["share"] (τ mh):=.of rfl
def xc(F:cX K "fits_share" "fits_share" mh f fd)(E:Ev K mg w Cm):av P w K mg base (bY P w) 1 f fd ["share"] (cK K tF):=by
 refine F.dE zm (λds M q x h=>?_) (λaX A outer s H E' hr=>⟨_,(μ (Ζ (gY (Ac ψ (Μ (jv 0) ψ)) (gY (I_ (Μ (jv 0) ψ) (Μ (jv 0) ψ)) (kB (Ac (Μ (jv 0) ψ) (tJ E.gS))))))),λds M q x h=>?_⟩)
 ·have⟨p,rfl,_⟩:=h;rfl
 ·have⟨p,rfl,h⟩:=h;unfold aW at h;refine⟨λh1=>⟨λh2=>?_,λh2=>?_⟩,λh1=>?_⟩
  ·rw[show decide (0<=p.1)=true from h1,show decide (p.1 < p.2)=true from h2]at h;exact h
  ·rw[show decide (0<=p.1)=true from h1,show decide (p.1 < p.2)=false from h2]at h;exact h
  ·rw[show decide (0<=p.1)=false from h1]at h;exact h
def NV{c S:Int}(hb:b∣S)(hc:c∣S)(Lr:0 < b)(hc0:0 < c):b * c / g b c∣S/\b∣b * c / g b c/\c∣b * c / g b c:=by
 have e:b * c / g b c=(Int.lcm b c:Nat):=by
  have h:=Int.gcd_mul_lcm b c;have hg:0 < g b c:=zW ();have h2:((Int.gcd b c:Nat):Int) * ((Int.lcm b c:Nat):Int)=b * c:=by rw[<-Int.natCast_mul,h,Int.natCast_mul,abl (aaj Lr),abl (aaj hc0)]
  rw[<-h2];exact Int.mul_ediv_cancel_left _ (by unfold g at hg;omega)
 rw[e];exact⟨Int.coe_lcm_dvd hb hc,Int.dvd_lcm_left ..,Int.dvd_lcm_right ..⟩
def i0:∀(cs:List Fr) (b S:Int),0 < b->b∣S->(∀c∈cs,0 < c.2/\c.2∣S)->cs.foldl (λb c=>b * c.2 / g b c.2) b∣S/\b∣cs.foldl (λb c=>b * c.2 / g b c.2) b/\∀c∈cs,c.2∣cs.foldl (λb c=>b * c.2 / g b c.2) b
 | [],b,S,_,h,_=>⟨h,Int.dvd_refl b,λc hc=>nomatch hc⟩
 | c::cs,b,S,h0,h,hc=>by
  have⟨c0,cS⟩:=hc c aae;have⟨d1,d2,d3⟩:=NV h cS h0 c0;have⟨i1,i2,i3⟩:=i0 cs _ S (nH h0 c0).1 d1 λx hx=>hc x (aad _ hx);rw[abI];refine⟨i1,Int.dvd_trans d2 i2,λx hx=>?_⟩;rcases aaC.mp hx with rfl| hx
  ·exact Int.dvd_trans d3 i2
  ·exact i3 x hx
def qw(m:Int)(f:Int->Int):∀(ws:List Int),(ws.map λw=>m * f w).sum=m * (ws.map f).sum
 | []=>by simp
 | w::ws=>by simp only[List.map_cons,List.sum_cons];rw[qw m f ws,Int.mul_add]
def Az(h:0 < b):(aA t b).2∣b:=by have⟨p,q,e,_,_,_,eb⟩:=gH (t:=t) (show b≠0 by omega);rw[e];exact⟨dv t b,by show b=q * dv t b;rw[aa7];exact eb⟩
def Aq(ht:0 < t)(h:0 < b):0 < (aA t b).1:=by have hc:=cE (t:=t) (show b≠0 by omega);have hp:=cM (t:=t) (show b≠0 by omega);have h1:0 < t * (aA t b).2:=aa2 ht hp;rw[hc]at h1;exact Int.pos_of_mul_pos_right h1 h|> λz=>z
def CO{ws:List Int}{S:Int}(hS:ws.sum=S)(hw:∀w∈ws,0 < w)(hn:ws≠[])(hS1:S<=1000000)(hz:ws.length<=12):ar (ws.map λw=>aA w S)=true/\P_ (ws.map λw=>aA w S):=by
 have pos:∀{l:List Int},(∀w∈l,0 < w)->0<=l.sum/\(l≠[]->0 < l.sum)/\∀w∈l,w<=l.sum:=by
  intro l
  induction l with
  | nil=>exactλ_=>⟨by simp,λz=>absurd rfl z,λw hw=>nomatch hw⟩
  | cons a l ih=>
   intro h;have⟨i1,i2,i3⟩:=ih λw hw=>h w (aad _ hw);have:=h a aae;rw[List.sum_cons];refine⟨(),λ_=>(),λw hw=>?_⟩;rcases aaC.mp hw with rfl| hw
   ·omega
   ·have:=i3 w hw;omega
 have⟨_,p2,p3⟩:=pos hw;have S0:0 < S:=by rw[<-hS];exact p2 hn
 have RR:S≠0:=()
 have hd:∀c∈ws.map (λw=>aA w S),0 < c.2/\c.2∣S:=λc hc=>by have⟨w,_,rfl⟩:=aah.mp hc;exact⟨cM RR,Az S0⟩
 have⟨⟨m,hm⟩,_,hB⟩:=i0 (ws.map λw=>aA w S) 1 S @_ (Int.one_dvd _) hd;have B0:0 < bN (ws.map λw=>aA w S):=by refine(fG (ws.map λw=>aA w S) 1 @_ λc hc=>(hd c hc).1)
 generalize WN:bN (ws.map λw=>aA w S)=B at *
 have hm:S=B * m:=by rw[<-WN];exact hm
 have m0:0 < m:=by
  rcases Int.lt_trichotomy m 0 with h| h| h
  ·have:=abW B0 h;omega
  ·rw[h,Int.mul_zero]at hm;omega
  ·exact h
 have key:((ws.map λw=>aA w S).map λc=>c.1 * (B / c.2)).sum=B:=by
  have e1:∀w∈ws,m * ((aA w S).1 * (B / (aA w S).2))=w:=λw hw=>by
   have hb:(aA w S).2∣B:=by rw[<-WN];exact hB _ (aah.mpr ⟨w,hw,rfl⟩)
   have⟨k,hk⟩:=hb;have q0:=cM (t:=w) RR;have e2:B / (aA w S).2=k:=by rw[hk];exact abx _ ()
   have hc:=cE (t:=w) RR;rw[e2];have hS':S=(aA w S).2 * k * m:=by rw[<-hk];exact hm
   generalize (aA w S).1=x at *
   generalize (aA w S).2=y at *
   have e4:S * x=y * (m * (x * k)):=by rw[hS'];simp only[Int.mul_assoc,Int.mul_comm,Int.mul_left_comm]
   have e3:y * (m * (x * k))=y * w:=by rw[<-e4,<-hc,aa7]
   exact aaZ () e3
  have e5:m * ((ws.map λw=>aA w S).map λc=>c.1 * (B / c.2)).sum=m * B:=by rw[aaK];show m * (ws.map λw=>(aA w S).1 * (B / (aA w S).2)).sum=m * B;rw[<-qw,abg e1,List.map_id',hS,hm,aa7]
  exact aaZ () e5
 refine⟨?_,⟨by rw[aac];exact hz,λc hc=>?_⟩⟩
 ·unfold ar;rw[WN,key];have ha:((ws.map λw=>aA w S).any λc=>decide (c.1<=0))=false:=by rw[List.any_eq_false];intro c hc;have⟨w,Vt,rfl⟩:=aah.mp hc;have:=Aq (hw w Vt) S0;simpa using this
  have hle:B<=S:=by have:=aaq (show 1<=m by omega) (aaj B0);rw[Int.mul_one,<-hm]at this;exact this
  rw[ha,aaB rfl,aaB (show B<=1000000 by omega)];rfl
 ·have⟨w,Vt,rfl⟩:=aah.mp hc;have q0:=cM (t:=w) RR;have l1:=uo (t:=w) RR;have l2:=kZ (t:=w) RR;have:=p3 w Vt;have w0:=hw w Vt;have big:(1000000:Int) < 2 ^ 200:=@_
  have acs:1000000 < 2 ^ 200:=@_
  exact⟨q0,(),()⟩
def d9{α:Type}{te:DE}{cs:En}{ok:Ms->Prop}{F:Dt->α->Prop}{f:α->Dt}{M:Ms}{k:List Dt->Ms->Prop}(ho:ok M)(ht:∀x a,F x a->∀q:DQ,q (f a) M->te (some x::cs) M q lT):∀{xs:List Dt} {as:List α} {Η:List Dt},Paired F xs as->k (Η++as.map f) M->ql te cs ok xs Η M k
 | _,_,Η,.nil,h=>⟨ho,by simpa using h⟩
 | _,_,Η,.cons r t,h=>⟨ho,ht _ _ r _ (d9 ho ht t (by simpa using h))⟩
def Af{k:Nat}{C C':Addr}{ns ns':List Str}{xs':List Dt}{e:Dt}{ys:List Dt}{ok:Ms->Prop}(hk:M[k]? =some (.ins C ns xs))(h:lV M e=some (ys,ok)):lV (M.set k (.ins C' ns' xs')) e=some (ys,ok):=by
 cases e with
 | lst ds=>exact h
 | jR ns=>exact h
 | loc j=>
  have h:(match M[j]? with| some (.lst xs)=>some (xs,λM':Ms=>M'[j]? =some (.lst xs))| _=>none)=some (ys,ok):=h;have ne:k≠j:=λz=>by subst z;rw[hk]at h;cases h
  show(match (M.set k (.ins C' ns' xs'))[j]? with| some (.lst xs)=>some (xs,λM':Ms=>M'[j]? =some (.lst xs))| _=>none)=some (ys,ok);rw[abr ne];exact h
 | _=>cases h
def Gs{k:Nat}{C C':Addr}{ns ns':List Str}{xs':List Dt}{r:Rw}(hk:M[k]? =some (.ins C ns xs))(h:kg M d r):kg (M.set k (.ins C' ns' xs')) d r:=by
 cases r with
 | fin p=>exact h
 | υ k' ds=>
  have⟨e,ok,h1,h2⟩:=h;exact⟨e,ok,h1,Af hk h2⟩
def aD(C:Addr)(ε:Fr)(γ:List Rw):Dt:=.obj C ["kept_share","kept_rows"] [Ξ ε,.lst (γ.map bo)]
def N_(Cm:Addr):DF:=λas M q _=>∃k d ε ds γ ok,as=[.loc k,Ξ ε,d]/\M[k]? =some (.ins Cm [] [])/\lV M d=some (ds,ok)/\Paired (kg M) ds γ/\aW ε=true/\1<=γ.length/\γ.length<=12/\
 (∀r∈γ,gc r/\fK r γ.length=true)/\q .bF (M.set k (.ins Cm ["kept_share","kept_rows"] [Ξ ε,.lst (γ.map bo)]))
def h_:Ε ["self","share","rows","place","row"] ["self","share","rows"] (τ mK):=.of rfl
def wB(F:cX K "__init__" "Floor.__init__" mK f fd)(E:Ev K mg w Cm){BD:Addr}{Cf:FuncData}(kS:aB P w K mg base 1 "fits_share" ["share"] tF BD Cf){HL:Addr}{KJ:FuncData}(qc:aB P w K mg base 4 "fits_row" ["row","size"] y8 HL KJ){BG:Addr}{Cz:FuncData}(kJ:aB P w K mg base 1 "copied_row" ["row"] sF BG Cz):av P w K mg base (bY P w) 5 f fd ["self","share","rows"] (cK K (N_ Cm)):=by
 refine F.dE h_ (λds M q x h=>?_) (λaX A outer s H E' hr=>⟨_,(η (aI (hV (bL (ao kS hr ξ (Τ (jv 1) θ)))) (μ fQ) Υ)
   (η (aI (JW.jt (l9 (vN (cQ E.bJ (Τ (jv 2) θ)) ψ) (j8 (EJ (cQ E.bJ (Τ (jv 2) θ)) (tJ E.nL))))) (μ fQ) Υ)
   (η (cC (xo E.eI (Τ (jv 2) θ)) (qa rfl (cR (au (i:=3) h_.nd rfl (Or.inl rfl)) (cR (au (i:=4) h_.nd rfl (Or.inl rfl)) lC))) oO (μ (aI (hV (bL (ao qc hr ξ (Τ (jv 4) (ι (cQ E.bJ (Τ (jv 2) θ)) θ aS))))) (μ fQ) Υ)))
   (η (Dr E.dR E.fH (jv 0) (jv 1))
   (μ (Dr E.dR E.cB (jv 0) (dX (ys:=[]) (Ω:=[]) (.of h_ rfl rfl rfl) (aV (jv 2)) (λC s H fp=>(bK (ao kJ hr (fv (P:=P) (w:=w)) (Τ (jv 0) θ))))))))))),λds M q x h=>?_⟩)
 ·have⟨k,d,ε,ds,γ,ok,rfl,_⟩:=h;rfl
 ·have⟨k,d,ε,ds,γ,ok,rfl,hk,hl,hp,hs,h1,h12,yN,h⟩:=h;have hlen:ds.length=γ.length:=Paired.length hp;walk_at "vc";refine⟨ε,rfl,λz=>?_,λ_=>?_⟩
  ·rw[hs]at z;exact nomatch z
  have Xm:=nY hl;refine az Xm ⟨λz=>?_,λ_=>?_⟩
  ·have:(ds.length:Int) < 1:=by simpa using z
   omega
  refine az Xm ⟨λz=>?_,λ_=>?_⟩
  ·have:12 < (ds.length:Int):=by simpa using z
   omega
  refine⟨d,ds,ok,rfl,hl,?_⟩;refine bx (λxs ρ M'=>M'=M/\∃n uD Ee a b,xs=iS n uD/\Paired (kg M) uD Ee/\(∀r∈Ee,r∈γ)/\ρ=[some (.loc k),some (Ξ ε),some d,a,b]) (λxs ρ M' hj=>by have⟨rfl,_⟩:=hj;exact qV hl) (λx xs ρ M' hj fW=>?_) (λρ M' hj=>?_) _ _ _ ⟨rfl,0,ds,γ,none,none,rfl,hp,λ_ h=>h,rfl⟩
  ·have⟨rfl,n,uD,Ee,a,b,ex,Al,V8,rfl⟩:=hj;cases Al with
   | nil=>cases ex
   | cons ra t=>
    rename_i d1 r1 ds1 UP;cases ex;refine az Xm ⟨d1,r1,ds.length,rfl,ra,(yN r1 (V8 r1 aae)).1,λz=>?_,λ_=>?_⟩
    ·rw[hlen,(yN r1 (V8 r1 aae)).2]at z;exact nomatch z
    ·exact fW _ _ ⟨rfl,n+1,ds1,UP,_,_,rfl,t,λr hr=>V8 r (aad _ hr),rfl⟩
  ·have⟨rfl,n,uD,Ee,a,b,ex,Al,V8,rfl⟩:=hj;have hkl:k < M'.length:=(aaf.mp hk).1;refine⟨k,[],[],rfl,hk,(λz=>(nomatch z)),@_,?_⟩;have Ym:=Af (C':=Cm) (ns':=["kept_share"]) (xs':=[Ξ ε]) hk hl;dsimp only[OL,List.nil_append];show eF _ _ _ _ _;refine eK (i:=2) rfl Ym ⟨by rw[hlen];exact aas h12 @_,?_⟩;have Tv:Paired (λx a=>kg (M'.set k (.ins Cm ["kept_share"] [Ξ ε])) x a/\gc a) ds γ:=by
    have:∀{xs:List Dt} {rs:List Rw},Paired (kg M') xs rs->(∀r∈rs,gc r)->Paired (λx a=>kg (M'.set k (.ins Cm ["kept_share"] [Ξ ε])) x a/\gc a) xs rs:=by
     intro xs rs hp
     induction hp with
     | nil=>exactλ_=>.nil
     | cons r t ih=>exactλh=>.cons ⟨Gs hk r,h _ aae⟩ (ih λy hy=>h y (aad _ hy))
    exact this hp λr hr=>(yN r hr).1
   refine d9 (f:=bo) (qV Ym) (λx a ha q' hq=>?ht) Tv ?fin
   case ht=>
    have⟨ha,ho⟩:=ha;refine⟨x,a,rfl,ha,ho,?_⟩;cases a with
    | fin p=>exact NM ⟨trivial,m8 p,trivial⟩ hq
    | υ k2 z7=>exact jN (.tup (.cons (.old trivial) (.cons (.BR (Nat.le_refl _) (by simp) (ix.old (ik z7))) .nil))) hq
   case fin=>
    refine⟨k,["kept_share"],[Ξ ε],rfl,by rw[abb hkl],@_,@_,?_⟩;rw[List.set_set];exact h
def kindOf:Rw->Str
 | .fin _=>"end"
 | .υ k _=>k
def Κ:Rw->List cG
 | .fin _=>[]
 | .υ _ ds=>ds
def Sb:Rw->Dt
 | .fin p=>Ξ p
 | .υ _ _=>.bF
def n6{γ:List Rw}{r:Rw}(h:γ[i]? =some r):(γ.map bo)[i]? =some (bo r):=by rw[aal,h];rfl
def IB{r:Rw}:∃e,bo r= .tup [.str (kindOf r),e]:=by
 cases r with
 | fin p=>exact⟨_,rfl⟩
 | υ k ds=>exact⟨_,rfl⟩
def zY(C:Addr):DF:=λas M q _=>∃ε γ,as=[aD C ε γ]/\q (.int γ.length) M
def yZ:Ε ["self"] ["self"] (τ mV):=.of rfl
def x4(F:cX K "size" "Floor.size" mV f fd)(E:Ev K mg w Cm):av P w K mg base (bY P w) 1 f fd ["self"] (cK K (zY Cm)):=by
 refine F.dE yZ (λds M q x h=>?_) (λaX A outer s H E' hr=>⟨_,(μ (Ζ (cQ E.bJ (ι (r8 E.dR E.cB (jv 0)) θ)))),λds M q x h=>?_⟩)
 ·have⟨ε,γ,rfl,_⟩:=h;rfl
 ·have⟨ε,γ,rfl,h⟩:=h;refine⟨_,_,_,.inl rfl,rfl,?_⟩;show gw [.lst (γ.map bo)] M _;refine az (xs:=γ.map bo) rfl ?_;rw[aac];exact h
def Jo(C:Addr):DF:=λas M q _=>∃ε γ,as=[aD C ε γ]/\q (Ξ ε) M
def yj:Ε ["self"] ["self"] (τ kf):=.of rfl
def uU(F:cX K "share" "Floor.share" kf f fd)(E:Ev K mg w Cm):av P w K mg base (bY P w) 1 f fd ["self"] (cK K (Jo Cm)):=by
 refine F.dE yj (λds M q x h=>?_) (λaX A outer s H E' hr=>⟨_,(μ (Ζ (r8 E.dR E.fH (jv 0)))),λds M q x h=>?_⟩)
 ·have⟨ε,γ,rfl,_⟩:=h;rfl
 ·have⟨ε,γ,rfl,h⟩:=h;exact⟨_,_,_,.inl rfl,rfl,h⟩
def oo(C:Addr):DF:=λas M q _=>∃ε γ i r,as=[aD C ε γ,.int (i:Nat)]/\γ[i]? =some r/\q (.str (kindOf r)) M
def As:Ε ["self","place"] ["self","place"] (τ mq):=.of rfl
def xu(F:cX K "kind" "Floor.kind" mq f fd)(E:Ev K mg w Cm):av P w K mg base (bY P w) 1 f fd ["self","place"] (cK K (oo Cm)):=by
 refine F.dE As (λds M q x h=>?_) (λaX A outer s H E' hr=>⟨_,(μ (Ζ (Μ (Μ (r8 E.dR E.cB (jv 0)) (jv 1)) ψ))),λds M q x h=>?_⟩)
 ·have⟨ε,γ,i,r,rfl,_⟩:=h;rfl
 ·have⟨ε,γ,i,r,rfl,hi,h⟩:=h;refine⟨_,_,_,.inl rfl,rfl,?_⟩;walk_at "vc";refine Ι (xs:=γ.map bo) rfl (Ο (n6 hi)) ?_;have⟨e,er⟩:=IB (r:=r);rw[er];exact h
def sx(C:Addr):DF:=λas M q _=>∃ε γ i r,as=[aD C ε γ,.int (i:Nat)]/\γ[i]? =some r/\gc r/\q (.loc M.length) (M++[.lst ((Κ r).map fe)])
def wU:Ε ["self","place"] ["self","place"] (τ kO):=.of rfl
def uO(F:cX K "doors" "Floor.doors" kO f fd)(E:Ev K mg w Cm)(Ρ:da P w K mg base 1 Cm "kind" ["self","place"] (oo Cm) aM aN):av P w K mg base (bY P w) 2 f fd ["self","place"] (cK K (sx Cm)):=by
 refine F.dE wU (λds M q x h=>?_) (λaX A outer s H E' hr=>⟨_,(η (aI (eZ hr (bX Ρ hr ξ (jv 0) (Τ (jv 1) θ)) jV) (μ (Ζ (hG θ))) Υ)
   (μ (Ζ (tP E.jJ (ι (Μ (Μ (r8 E.dR E.cB (jv 0)) (jv 1)) ψ) θ aU))))),λds M q x h=>?_⟩)
 ·have⟨ε,γ,i,r,rfl,_⟩:=h;rfl
 ·have⟨ε,γ,i,r,rfl,hi,ro,h⟩:=h;refine⟨⟨_,_,.inl rfl,rfl⟩,ε,γ,i,r,rfl,hi,?_⟩;cases r with
  | fin p=>exact⟨λ_=>⟨@_,h⟩,λz=>(nomatch z)⟩
  | υ k ds=>
   refine⟨λz=>aaJ (aaA z) ro.1,λ_=>?_⟩;refine⟨_,_,_,.inl rfl,rfl,?_⟩;walk_at "vc";refine Ι (xs:=γ.map bo) rfl (Ο (n6 hi)) ?_;exact h
def PH(C:Addr):DF:=λas M q _=>∃ε γ i r,as=[aD C ε γ,.int (i:Nat)]/\γ[i]? =some r/\gc r/\q (Sb r) M
def CZ:Ε ["self","place"] ["self","place"] (τ oJ):=.of rfl
def Ax(F:cX K "pay" "Floor.pay" oJ f fd)(E:Ev K mg w Cm)(Ρ:da P w K mg base 1 Cm "kind" ["self","place"] (oo Cm) aM aN):av P w K mg base (bY P w) 2 f fd ["self","place"] (cK K (PH Cm)):=by
 refine F.dE CZ (λds M q x h=>?_) (λaX A outer s H E' hr=>⟨_,(η (aI (eZ hr (bX Ρ hr ξ (jv 0) (Τ (jv 1) θ)) jV) (μ (Ζ (Μ (Μ (r8 E.dR E.cB (jv 0)) (jv 1)) ψ))) Υ)
   (μ (Ζ MC))),λds M q x h=>?_⟩)
 ·have⟨ε,γ,i,r,rfl,_⟩:=h;rfl
 ·have⟨ε,γ,i,r,rfl,hi,ro,h⟩:=h;refine⟨⟨_,_,.inl rfl,rfl⟩,ε,γ,i,r,rfl,hi,?_⟩;cases r with
  | fin p=>
   refine⟨λ_=>?_,λz=>(nomatch z)⟩;refine⟨_,_,_,.inl rfl,rfl,?_⟩;walk_at "vc";refine Ι (xs:=γ.map bo) rfl (Ο (n6 hi)) ?_;exact h
  | υ k ds=>exact⟨λz=>aaJ (aaA z) ro.1,λ_=>h⟩
def kT{α:Type}(f:α->Dt):∀(xs ys:List α),(∀x∈xs,x∈ys)->Paired (λx a=>x=f a/\a∈ys) (xs.map f) xs
 | [],_,_=>.nil
 | x::xs,ys,h=>.cons ⟨rfl,h x aae⟩ (kT f xs ys λy hy=>h y (aad _ hy))
def cf{q:DQ}(u:Dt.bM M.length ds)(h:q (.lst ds) M):sD M q (.loc M.length) (M++[.lst ds]):=jN (.BR (aai _) (by rw[acK];rfl) (ix.old u)) h
def NF{q:DQ}(u:Dt.bM M.length ds)(h:q (.lst ds) M):vO [.lst ds] M (sD M q):=by show sD M q (.loc M.length) (M++[.lst ds]);exact cf u h
def Oz{d:cG}{q:DQ}(h:q (Ξ d.2.1) M):fm (fe d) (.int 1) M q:=Ι (xs:=.int d.1::Ξ d.2.1::d.2.2.map Ξ) rfl (Ο (j:=1) rfl) h
def HW{d:cG}{q:DQ}(h:q (.int d.1) M):fm (fe d) (.int 0) M q:=Ι (xs:=.int d.1::Ξ d.2.1::d.2.2.map Ξ) rfl bu h
def OJ{k:Str}{e:Dt}{q:DQ}(h:q e M):fm (.tup [.str k,e]) (.int 1) M q:=Ι (xs:=[.str k,e]) rfl (Ο (j:=1) rfl) h
def cN{g:Dt->En->(En->Prop)->Prop}{tb:DS}{Dn:l_}(J:List Dt->En->Ms->Prop)
  (step:∀x xs ρ M,J (x::xs) ρ M->(∀ρ M,J xs ρ M->xy g tb Dn xs ρ M)->g x ρ λρ'=>tb {Dn with nx:=xy g tb Dn xs,ct:=xy g tb Dn xs,bk:=Dn.nx} ρ' M)
  (fin:∀ρ M,J [] ρ M->Dn.nx ρ M):∀(xs:List Dt) (ρ:En) (M:Ms),J xs ρ M->xy g tb Dn xs ρ M
 | [],ρ,M,h=>fin _ _ h
 | x::xs,ρ,M,h=>step x xs ρ M h λρ' M' h'=>cN J step fin xs ρ' M' h'
def cv{x:Dt}(h:x::xs=dN lo n):∃m,n=m+1/\x= .int lo/\xs=dN (lo+1) m:=by
 cases n with
 | zero=>exact nomatch h
 | succ m=>
  unfold dN at h;rw[abR,aaM,aaK]at h;cases h;refine⟨m,rfl,by simp,?_⟩;unfold dN;apply abg;intro k _;show Dt.int (lo+((k+1:Nat):Int))=Dt.int (lo+1+(k:Int))
  congr 1
  omega
def rR{x:Dt}(h:x∈dN lo n):∃k:Nat,k < n/\x= .int (lo+k):=by unfold dN at h;have⟨k,hk,rfl⟩:=aah.mp h;exact⟨k,aa4.mp hk,rfl⟩
def dU:(dN lo n).length=n:=by unfold dN;simp
def h8{n:Nat}:∀(xs:List Int),Dt.bM n (xs.map Dt.int)
 | []=>trivial
 | _::xs=>⟨trivial,h8 xs⟩
def JZ{m:Int}:∀{l:List Int},(∀w∈l,w<=m)->l.sum<=l.length * m
 | [],_=>by simp
 | a::l,h=>by have i:=JZ (l:=l) λw hw=>h w (aad _ hw);have:=h a aae;rw[List.sum_cons,aay,abu,Int.add_mul];omega
def qU(aP:Int)(r:Rw):Prop:=gc r/\fK r aP=true
def LA{k:Str}{ds:List cG}{aP:Int}(hk:Β k=true)(hz:1<=ds.length)(Yg:ds.length<=6)(hd:∀d∈ds,aJ d.1 d.2.1 aP=true)(hs:∀d∈ds,d.2.2=[]/\0 < d.2.1.2):qU aP (.υ k ds):=by
 have fd:aq ds aP=true:=by unfold aq;rw[aaB hz,aaB Yg,abN.mpr hd];rfl
 have ne:k≠"end"/\k≠"chance":=by refine⟨λz=>?_,λz=>?_⟩ <;> (subst z;exact aaJ hk @_)
 refine⟨⟨ne.1,(),λz=>aaJ z ne.2,λd h=>⟨by rw[(hs d h).1];exact ab9 _,(hs d h).2⟩⟩,?_⟩;show(if Β k then _ else _)=true;rw[aaw hk];exact fd
def Gm{ds:List cG}{aP:Int}(hz:1<=ds.length)(Yg:ds.length<=6)(hd:∀d∈ds,aJ d.1 d.2.1 aP=true)(h1:∀d∈ds,d.2.2=[ω d])(hc:ar (ds.map ω)=true)(ho:P_ (ds.map ω))(hp:∀d∈ds,0 < d.2.1.2):qU aP (.υ "chance" ds):=by
 have fd:aq ds aP=true:=by unfold aq;rw[aaB hz,aaB Yg,abN.mpr hd];rfl
 refine⟨⟨@_,(),λ_=>⟨h1,ho⟩,λd h=>⟨by rw[h1 d h];exact aai _,hp d h⟩⟩,?_⟩;have e:fK (.υ "chance" ds) aP=(aq ds aP&&ar (ds.map ω)):=by dsimp only[fK];rw[aav @_,aaw rfl]
 rw[e,fd,hc];rfl
def Np{aP:Int}{p:Fr}(h0:0<=t)(h1:t < aP)(hp:bz p=true):aJ t p aP=true:=by unfold aJ;rw[aaB h0,aaB h1,hp];rfl
def hX{xs:List Int}(h:j < xs.length):nJ (xs.map Dt.int) (j:Int)=some (.int xs[j]):=Ο (by rw[aal,aaa h];rfl)
def EI:∀{l:List Int},(∀w∈l,0 < w)->l≠[]->0 < l.sum
 | [],_,z=>aaJ rfl z
 | [a],h,_=>by have:=h a List.mem_cons_self;simpa using this
 | a::b::l,h,_=>by have i:=EI (l:=b::l) (λw hw=>h w (List.mem_cons_of_mem _ hw)) (by simp);have:=h a aae;rw[List.sum_cons];omega
def Sz(k:Nat)(p:Fr):Prop:=p.1.natAbs < 2 ^ k/\0 < p.2/\p.2.natAbs < 2 ^ k
def gf(p q:Fr):Fr:=aA (p.1 * q.2+q.1 * p.2) (p.2 * q.2)
def ba(p q:Fr):Fr:=aA (p.1 * q.1) (p.2 * q.2)
def cU(p q:Fr):Bool:=decide (p.1 * q.2 < q.1 * p.2)
def qZ{k k':Nat}{p:Fr}(h:Sz k p)(hk:k<=k'):Sz k' p:=
 ⟨aau h.1 (ach @_ hk),h.2.1,aau h.2.2 (ach @_ hk)⟩
def cz{a b k:Nat}(h:a < 2 ^ k)(h':b < 2 ^ l):a * b < 2 ^ (k+l):=by rw[Nat.pow_add];exact Nat.mul_lt_mul'' h h'
def Dx{k:Nat}(hb:0 < b)(h1:t.natAbs < 2 ^ k)(h2:b.natAbs < 2 ^ k):Sz k (aA t b):=
 ⟨aaV (uo ()) h1,cM (),aaV (kZ ()) h2⟩
def vL{p q:Fr}{k:Nat}(hp:Sz k p)(hq:Sz l q):(p.1 * q.2+q.1 * p.2).natAbs < 2 ^ (k+l+1)/\(p.2 * q.2).natAbs < 2 ^ (k+l+1)/\0 < p.2 * q.2:=by
 have a:=cz hp.1 hq.2.2;have b:=cz hq.1 hp.2.2;have c:=cz hp.2.2 hq.2.2;rw[Nat.add_comm l k]at b;have e:(2:Nat) ^ (k+l+1)=2 ^ (k+l)+2 ^ (k+l):=by rw[Nat.pow_succ];omega
 have hn:=Int.natAbs_add_le (p.1 * q.2) (q.1 * p.2);rw[abj,abj]at hn;refine⟨by rw[e];omega,?_,aa2 hp.2.1 hq.2.1⟩;rw[abj,e];omega
def NR{p q:Fr}{k:Nat}(hp:Sz k p)(hq:Sz l q):Sz (k+l+1) (gf p q):=
 let ⟨a,b,c⟩:=vL hp hq
 Dx c a b
def sX{p q:Fr}{k:Nat}(hp:Sz k p)(hq:Sz l q):(p.1 * q.1).natAbs < 2 ^ (k+l)/\(p.2 * q.2).natAbs < 2 ^ (k+l)/\0 < p.2 * q.2:=by have a:=cz hp.1 hq.1;have c:=cz hp.2.2 hq.2.2;exact⟨by rw[abj];exact a,by rw[abj];exact c,aa2 hp.2.1 hq.2.1⟩
def zA{p q:Fr}{k:Nat}(hp:Sz k p)(hq:Sz l q):Sz (k+l) (ba p q):=
 let ⟨a,b,c⟩:=sX hp hq
 Dx c a b
def gs{p:Fr}{k:Nat}(h:Sz k p)(hk:k<=8000):fY p.1:=bg h.1 hk
def de{p:Fr}{k:Nat}(h:Sz k p)(hk:k<=8000):fY p.2:=bg h.2.2 hk
def QM{p:Fr}(h:bz p=true)(h0:0 < p.2):Sz 101 p:=by
 unfold bz at h;rw[aaz,aao,aao]at h;have⟨h1,h2⟩:=h;have e1:(10:Int) ^ 30 < 2 ^ 101:=@_
 have n1:(p.1.natAbs:Int)<=10 ^ 30:=by split at h1 <;> omega
 refine⟨?_,h0,?_⟩
 ·have:(p.1.natAbs:Int) < ((2 ^ 101:Nat):Int):=aaL n1 @_;exact abO.mp this
 ·have:(p.2.natAbs:Int) < ((2 ^ 101:Nat):Int):=aaL (show(p.2.natAbs:Int)<=1000000 by omega) @_;exact abO.mp this
def oi{p:Fr}(h:aW p=true):Sz 11 p:=by unfold aW at h;rw[aaz,aaz,aao,aao,aao]at h;have⟨h1,h2,h3⟩:=h;exact⟨(),(),()⟩
def D6{p:Fr}{q:DQ}(h:q (.int p.1) M):fm (Ξ p) (.int 0) M q:=Ι (xs:=[.int p.1,.int p.2]) rfl bu h
def zF{p:Fr}{q:DQ}(h:q (.int p.2) M):fm (Ξ p) (.int 1) M q:=Ι (xs:=[.int p.1,.int p.2]) rfl (Ο (j:=1) rfl) h
def Ks:DF:=λas M q _=>∃p r k l,as=[Ξ p,Ξ r]/\Sz k p/\Sz l r/\k+l+1<=8000/\q (Ξ (gf p r)) M
def OP:Ε ["one","other"] ["one","other"] (τ Jk):=.of rfl
def Nd(F:cX K "plus" "plus" Jk f fd)(E:Ev K mg w Cm)(bt:aB P w K mg base 2 "fraction" ["top","bottom"] ud fo ft):av P w K mg base (bY P w) 3 f fd ["one","other"] (cK K Ks):=by
 refine F.dE OP (λds M q x h=>?_) (λaX A outer s H E' hr=>⟨_,(μ (Ζ (ao bt hr ξ (ι (cW (aR (Μ (jv 0) ψ) (Μ (jv 1) ψ)) (aR (Μ (jv 1) ψ) (Μ (jv 0) ψ))) (ι (aR (Μ (jv 0) ψ) (Μ (jv 1) ψ)) θ cj) cj)))),λds M q x h=>?_⟩)
 ·have⟨p,r,k,l,rfl,_⟩:=h;rfl
 ·have⟨p,r,k,l,rfl,hp,fZ,hk,h⟩:=h;have⟨a,b,c⟩:=vL hp fZ;refine⟨⟨gs hp (),de fZ ()⟩,⟨gs fZ (),de hp ()⟩,⟨de hp (),de fZ ()⟩,bg b hk,λz=>aaJ z (),λ_=>h⟩
def x5:DF:=λas M q _=>∃p r k l,as=[Ξ p,Ξ r]/\Sz k p/\Sz l r/\k+l+1<=8000/\q (Ξ (ba p r)) M
def Mh:Ε ["one","other"] ["one","other"] (τ Cd):=.of rfl
def Iz(F:cX K "times" "times" Cd f fd)(E:Ev K mg w Cm)(bt:aB P w K mg base 2 "fraction" ["top","bottom"] ud fo ft):av P w K mg base (bY P w) 3 f fd ["one","other"] (cK K x5):=by
 refine F.dE Mh (λds M q x h=>?_) (λaX A outer s H E' hr=>⟨_,(μ (Ζ (ao bt hr ξ (ι (aR (Μ (jv 0) ψ) (Μ (jv 1) ψ)) (ι (aR (Μ (jv 0) ψ) (Μ (jv 1) ψ)) θ cj) cj)))),λds M q x h=>?_⟩)
 ·have⟨p,r,k,l,rfl,_⟩:=h;rfl
 ·have⟨p,r,k,l,rfl,hp,fZ,hk,h⟩:=h;have⟨a,b,c⟩:=sX hp fZ;refine⟨⟨gs hp (),gs fZ ()⟩,⟨de hp (),de fZ ()⟩,bg b (),λz=>aaJ z (),λ_=>h⟩
def iB(p q:Fr):Fr:=aA (p.1 * q.2 - q.1 * p.2) (p.2 * q.2)
def BO{p q:Fr}{k:Nat}(hp:Sz k p)(hq:Sz l q):(p.1 * q.2 - q.1 * p.2).natAbs < 2 ^ (k+l+1)/\(p.2 * q.2).natAbs < 2 ^ (k+l+1)/\0 < p.2 * q.2:=by
 have a:=cz hp.1 hq.2.2;have b:=cz hq.1 hp.2.2;have c:=cz hp.2.2 hq.2.2;rw[Nat.add_comm l k]at b;have e:(2:Nat) ^ (k+l+1)=2 ^ (k+l)+2 ^ (k+l):=by rw[Nat.pow_succ];omega
 have hn:(p.1 * q.2 - q.1 * p.2).natAbs<=(p.1 * q.2).natAbs+(q.1 * p.2).natAbs:=()
 rw[abj,abj]at hn;refine⟨by rw[e];omega,?_,aa2 hp.2.1 hq.2.1⟩;rw[abj,e];omega
def KP:DF:=λas M q _=>∃p r k l,as=[Ξ p,Ξ r]/\Sz k p/\Sz l r/\k+l+1<=8000/\q (Ξ (iB p r)) M
def LI:Ε ["one","other"] ["one","other"] (τ BK):=.of rfl
def ID(F:cX K "minus" "minus" BK f fd)(E:Ev K mg w Cm)(bt:aB P w K mg base 2 "fraction" ["top","bottom"] ud fo ft):av P w K mg base (bY P w) 3 f fd ["one","other"] (cK K KP):=by
 refine F.dE LI (λds M q x h=>?_) (λaX A outer s H E' hr=>⟨_,(μ (Ζ (ao bt hr ξ (ι (Ae (aR (Μ (jv 0) ψ) (Μ (jv 1) ψ)) (aR (Μ (jv 1) ψ) (Μ (jv 0) ψ))) (ι (aR (Μ (jv 0) ψ) (Μ (jv 1) ψ)) θ cj) cj)))),λds M q x h=>?_⟩)
 ·have⟨p,r,k,l,rfl,_⟩:=h;rfl
 ·have⟨p,r,k,l,rfl,hp,fZ,hk,h⟩:=h;have⟨a,b,c⟩:=BO hp fZ;refine⟨⟨gs hp (),de fZ ()⟩,⟨gs fZ (),de hp ()⟩,⟨de hp (),de fZ ()⟩,bg b hk,λz=>aaJ z (),λ_=>h⟩
def mH(B:Int)(c:Fr):Int:=c.1 * (B / c.2)
structure Ir(cs:List Fr):Prop where
 pos:∀c∈cs,0 < mH (bN cs) c
 sum:(cs.map (mH (bN cs))).sum=bN cs
 b0:0 < bN cs
 b1:bN cs<=1000000
 ne:cs≠[]
 Lu:P_ cs
def T7{cs:List Fr}(h:ar cs=true)(o:P_ cs)(n:cs≠[]):Ir cs:=by
 unfold ar at h;rw[aaz,aaz,aao,aao,Bool.not_eq_true']at h;have⟨h1,h2,h3⟩:=h;have B0:0 < bN cs:=fG cs 1 @_ λc hc=>(o.2 c hc).1;have⟨_,_,hB⟩:=i0 cs 1 0 @_ (acL _) λc hc=>⟨(o.2 c hc).1,acL _⟩;refine⟨λc hc=>?_,h2,B0,h3,n,o⟩;have c1:0 < c.1:=by have:=List.any_eq_false.mp h1 c hc;simpa using this
 exact aa2 c1 (Int.ediv_pos_of_pos_of_dvd B0 (aaj (o.2 c hc).1) (hB c hc))
def val(p:Fr):Rat:=(p.1:Rat) / (p.2:Rat)
structure Red(p:Fr):Prop where
 pos:0 < p.2
 low:Int.gcd p.1 p.2=1
def bq(h:b≠0):(b:Rat)≠0:=λz=>h (Rat.intCast_eq_zero_iff.mp z)
def NW{a c d:Int}(h:a * b=c * d):(a:Rat) * b=c * d:=by rw[<-aaR,<-aaR,h]
def cP(h:b≠0):Red (aA t b):=⟨cM h,Am h⟩
def j7(h:b≠0):val (aA t b)=(t:Rat) / (b:Rat):=by
 have hq:=cM (t:=t) h;have hx:=NW (cE (t:=t) h);have h1:=bq h;have h2:=bq (show(aA t b).2≠0 by omega);unfold val;generalize ((aA t b).1:Rat)=x at *
 generalize ((aA t b).2:Rat)=y at *
 generalize (t:Rat)=t' at *
 generalize (b:Rat)=b' at *
 grind
def yM{p q:Fr}(hp:Red p)(hq:Red q)(h:val p=val q):p=q:=by
 have h1:=bq (show p.2≠0 by have:=hp.pos;omega);have h2:=bq (show q.2≠0 by have:=hq.pos;omega);have e:p.1 * q.2=p.2 * q.1:=by
  unfold val at h;have e1:(p.1:Rat) * (q.2:Rat)=(p.2:Rat) * (q.1:Rat):=by
   generalize (p.1:Rat)=a at *
   generalize (p.2:Rat)=b at *
   generalize (q.1:Rat)=c at *
   generalize (q.2:Rat)=d at *
   grind
  rw[<-aaR,<-aaR]at e1;exact Rat.intCast_inj.mp e1
 have a:=xh (show p.2≠0 by have:=hp.pos;omega) hq.pos hq.low e;have b:=wm hp.pos hp.low;rw[<-Prod.eta p,<-b,a]
def AE{p q:Fr}(hp:0 < p.2)(hq:0 < q.2):val (gf p q)=val p+val q:=by
 unfold gf;rw[j7 (aby (aa2 hp hq))];have h1:=bq (show p.2≠0 by omega);have h2:=bq (show q.2≠0 by omega);rw[Rat.intCast_add,aaR,aaR,aaR];unfold val;generalize (p.1:Rat)=a at *
 generalize (p.2:Rat)=b at *
 generalize (q.1:Rat)=c at *
 generalize (q.2:Rat)=d at *
 grind
def oV{p q:Fr}(hp:0 < p.2)(hq:0 < q.2):val (ba p q)=val p * val q:=by
 unfold ba;rw[j7 (aby (aa2 hp hq))];have h1:=bq (show p.2≠0 by omega);have h2:=bq (show q.2≠0 by omega);rw[aaR,aaR];unfold val;generalize (p.1:Rat)=a at *
 generalize (p.2:Rat)=b at *
 generalize (q.1:Rat)=c at *
 generalize (q.2:Rat)=d at *
 grind
def h7(p:Fr)(E:Int):Prop:=∃N,p.1 * E=N * p.2
def pP{N:Int}(h:b≠0)(e:t * E=N * b):h7 (aA t b) E:=by
 have hx:=cE (t:=t) h;generalize hf:aA t b=f at *
 have⟨x,y⟩:=f;refine⟨N,?_⟩;show x * E=N * y;have hx:t * y=b * x:=hx;have:b * (x * E)=b * (N * y):=by grind
 exact aaZ h this
def zz{p:Fr}(k:Int)(h:h7 p E):h7 p (E * k):=by have⟨N,e⟩:=h;exact⟨N * k,by grind⟩
def Hk(p:Fr):h7 p p.2:=⟨p.1,rfl⟩
def Gd{p q:Fr}(hp:0 < p.2)(hq:0 < q.2)(h:h7 p E)(h':h7 q E):h7 (gf p q) E:=by have⟨N,e⟩:=h;have⟨N',e'⟩:=h';unfold gf;exact pP (N:=N+N') (Int.ne_of_gt (Int.mul_pos hp hq)) (by grind)
def tq{p q:Fr}{F:Int}(hp:0 < p.2)(hq:0 < q.2)(h:h7 p E)(h':h7 q F):h7 (ba p q) (E * F):=by have⟨N,e⟩:=h;have⟨N',e'⟩:=h';unfold ba;exact pP (N:=N * N') (Int.ne_of_gt (Int.mul_pos hp hq)) (by grind)
def xP{p:Fr}(hp:Red p)(h:h7 p E):p.2∣E:=by
 have⟨N,e⟩:=h;have d:p.2∣p.1 * E:=⟨N,by rw[e,aa7]⟩;have d2:p.2.natAbs∣p.1.natAbs * E.natAbs:=by rw[<-abj];exact Int.natAbs_dvd_natAbs.mpr d
 have co:Nat.Coprime p.2.natAbs p.1.natAbs:=by have:=hp.low;unfold Int.gcd at this;rw[Nat.coprime_comm];exact this
 exact Int.natAbs_dvd_natAbs.mp (co.dvd_of_dvd_mul_left d2)
def eG(p:Fr)(C:Int):Prop:=p.1<=p.2 * C/\ -(p.2 * C)<=p.1
def nM(h:0 < b)(h1:t<=b * C)(h2: -(b * C)<=t):eG (aA t b) C:=by
 have hx:=cE (t:=t) (show b≠0 by omega);have hq:=cM (t:=t) (show b≠0 by omega);generalize hf:aA t b=f at *
 have⟨x,y⟩:=f;have hx:t * y=b * x:=hx;have hq:0 < y:=hq;constructor
 ·show x<=y * C;have:=aaN h1 (aaj hq);rw[hx]at this;have e:b * C * y=b * (y * C):=by grind
  rw[e]at this;exact acj this h
 ·show -(y * C)<=x;have:=aaN h2 (aaj hq);rw[hx]at this;have e: -(b * C) * y=b * (-(y * C)):=by grind
  rw[e]at this;exact acj this h
def b9{a c:Int}(h:a<=b)(hc:0<=c):a * c<=b * c:=aaN h hc
def Jt{p q:Fr}{D:Int}(hp:0 < p.2)(hq:0 < q.2)(h:eG p C)(h':eG q D):eG (gf p q) (C+D):=by
 unfold gf;have a:=b9 h.1 (aaj hq);have b:=b9 h'.1 (aaj hp);have c:=b9 h.2 (aaj hq);have d:=b9 h'.2 (aaj hp);refine nM (aa2 hp hq) ?_ ?_
 ·have e:p.2 * q.2 * (C+D)=p.2 * C * q.2+q.2 * D * p.2:=by grind
  omega
 ·have e: -(p.2 * q.2 * (C+D))= -(p.2 * C) * q.2+ -(q.2 * D) * p.2:=by grind
  omega
def gM(c:Fr):Prop:=0<=c.1/\c.1<=c.2
def FX{c p:Fr}(hc:0 < c.2)(hp:0 < p.2)(u:gM c)(h:eG p C)(hC:0<=C):eG (ba c p) C:=by
 unfold ba;have pc:0<=p.2 * C:=abi (aaj hp) hC;have a:=b9 h.1 u.1;have b:=b9 u.2 pc;have c':=b9 h.2 u.1;refine nM (aa2 hc hp) ?_ ?_
 ·have e:c.2 * p.2 * C=c.2 * (p.2 * C):=by grind
  have e1:c.1 * p.1=p.1 * c.1:=aa7 ..;have e2:p.2 * C * c.1=c.1 * (p.2 * C):=aa7 ..;omega
 ·have e: -(c.2 * p.2 * C)= -(c.2 * (p.2 * C)):=by grind
  have e1:c.1 * p.1=p.1 * c.1:=aa7 ..;have e2: -(p.2 * C) * c.1= -(c.1 * (p.2 * C)):=by grind
  omega
def B'{c s:Fr}(hc:0 < c.2)(hs:0 < s.2)(u:gM c)(v:gM s):gM (ba c s):=by
 unfold ba;have hx:=cE (t:=c.1 * s.1) (aby (aa2 hc hs));have hq:=cM (t:=c.1 * s.1) (aby (aa2 hc hs));have t0:0<=c.1 * s.1:=abi u.1 v.1
 have t1:c.1 * s.1<=c.2 * s.2:=abC (b9 u.2 v.1) (by
  have:=b9 v.2 (aaj hc)
  rw[aa7 c.2 s.1,aa7 c.2 s.2];exact this)
 have bp:=aa2 hc hs;generalize c.1 * s.1=t at *
 generalize c.2 * s.2=b at *
 generalize hf:aA t b=f at *
 have⟨x,y⟩:=f;have hx:t * y=b * x:=hx;have hq:0 < y:=hq;constructor
 ·show 0<=x;rcases acr x 0 with z| z
  ·have:=abW bp z;have:=abi t0 (aaj hq);omega
  ·exact z
 ·show x<=y;have:=b9 t1 (aaj hq);rw[hx]at this;exact acj this bp
def N2{p:Fr}{k m:Nat}(r:Red p)(h:h7 p E)(e0:0 < E)(e1:E < 2 ^ k)(a:eG p C)(c0:0<=C)(c1:C < 2 ^ m):Sz (k+m) p:=by
 have d:=ace e0 (xP r h);have rp:=r.pos;have b1:p.2.natAbs < 2 ^ k:=by
  have:(p.2.natAbs:Int) < ((2 ^ k:Nat):Int):=by rw[abl (aaj rp)];exact aaL d (by exact_mod_cast e1)
  exact abO.mp this
 have b2:C.natAbs < 2 ^ m:=by
  have:(C.natAbs:Int) < ((2 ^ m:Nat):Int):=by
   rw[abl c0]
   exact_mod_cast c1
  exact abO.mp this
 have b3:=cz b1 b2;refine⟨?_,rp,aau b1 (ach @_ (abM _ _))⟩;refine aaV ?_ b3;rw[<-abj];have q0:0<=p.2 * C:=abi (aaj rp) c0;have:=a.1;have:=a.2;omega
def J'{cs:List Fr}(h:j < cs.length):nJ (cs.map Ξ) (j:Int)=some (Ξ cs[j]):=Ο (by rw[aal,aaa h];rfl)
def U1{ds:List cG}(h:j < ds.length):nJ (ds.map fe) (j:Int)=some (fe ds[j]):=Ο (by rw[aal,aaa h];rfl)
structure Rp(ε:Fr)(γ:List Rw):Prop where
 sh:aW ε=true
 len:γ.length<=12
 row:∀r∈γ,gc r/\fK r γ.length=true
structure TM(γ:List Rw)(k:Str)(ds:List cG):Prop where
 ro:gc (.υ k ds)
 l1:1<=ds.length
 l6:ds.length<=6
 kd:Β k=true\/(Β k=false/\k="chance"/\Ir (ds.map ω))
 to:∀d∈ds,0<=d.1/\d.1 < γ.length
 py:∀d∈ds,bz d.2.1=true/\0 < d.2.1.2
def e9{ε:Fr}{γ:List Rw}{k:Str}{ds:List cG}(f:Rp ε γ)(h:Rw.υ k ds∈γ):TM γ k ds:=by
 have⟨ro,h2⟩:=f.row _ h;have h2:(if Β k then aq ds γ.length else if k="chance" then aq ds γ.length&&ar (ds.map ω) else false)=true:=h2;have key:aq ds γ.length=true/\(Β k=true\/(Β k=false/\k="chance"/\ar (ds.map ω)=true)):=by
  by_cases hk:Β k=true
  ·rw[aaw hk]at h2;exact⟨h2,.inl hk⟩
  ·rw[aav hk]at h2;by_cases hc:k="chance"
   ·rw[if_pos hc,Bool.and_eq_true]at h2;exact⟨h2.1,.inr ⟨by simpa using hk,hc,h2.2⟩⟩
   ·rw[aav hc]at h2;cases h2
 have⟨fd,hk⟩:=key;unfold aq at fd;rw[aaz,aaz,aao,aao]at fd;have⟨⟨d1,d6⟩,fa⟩:=fd;have each:∀d∈ds,0<=d.1/\d.1 < γ.length/\bz d.2.1=true:=λd hd=>by have h3:=abN.mp fa d hd;unfold aJ at h3;rw[aaz,aaz,aao,aao]at h3;exact⟨h3.1,h3.2.1,h3.2.2⟩
 refine⟨ro,d1,d6,?_,λd hd=>⟨(each d hd).1,(each d hd).2.1⟩,λd hd=>⟨(each d hd).2.2,(ro.2.2.2 d hd).2⟩⟩;rcases hk with hk| ⟨hk,hc,hf⟩
 ·exact .inl hk
 ·refine .inr ⟨hk,hc,T7 hf (ro.2.2.1 hc).2 λz=>?_⟩;have:=aaX List.length z;rw[aac]at this;have:ds.length=0:=this;omega
def DO{α:Type}(xs:List α)(a:α)(f:α->Dt):(dN 0 xs.length).map (λx=>match x with| .int j=>f (xs.getD j.toNat a)| _=>.bF)=xs.map f:=by
 unfold dN;rw[aaK];apply abp
 ·simp
 ·intro i h1 h2;simp only[List.getElem_map,List.getElem_range,Function.comp];rw[show(0+(i:Int)).toNat=i by omega];have hi:i < xs.length:=by simpa using h2
  rw[aab,aaa hi];rfl
abbrev d0:cG:=(0,(0,1),[])
def uC(tb:List Fr)(t:Int):Fr:=tb.getD t.toNat (0,1)
def ag(ε:Fr)(tb:List Fr)(d:cG):Fr:=gf d.2.1 (ba ε (uC tb d.1))
def iy(ps:List (Fr×Fr)):Fr:=ps.foldl (λw p=>gf w (ba p.1 p.2)) (0,1)
structure Nb(E C:Int)(p:Fr):Prop where
 pos:0 < p.2
 he:h7 p E
 ab:eG p C
 sz:Sz 2600 p
structure Bd(E C:Int):Prop where
 e0:0 < E
 e1:E < 2 ^ 2200
 c0:0<=C
 c1:C < 2 ^ 400
def Jx{p:Fr}(r:Red p)(h:h7 p E)(a:eG p C)(b:Bd E C):Nb E C p:=⟨r.pos,h,a,N2 (k:=2200) (m:=400) r h b.e0 b.e1 a b.c0 b.c1⟩
def Nz{D:Int}{p q:Fr}(h:Nb E C p)(h':Nb E D q)(b:Bd E (C+D)):Nb E (C+D) (gf p q):=Jx (cP (aby (aa2 h.pos h'.pos))) (Gd h.pos h'.pos h.he h'.he) (Jt h.pos h'.pos h.ab h'.ab) b
def zX{F:Int}{c p:Fr}(c0:0 < c.2)(hc:h7 c F)(u:gM c)(h:Nb E C p)(b:Bd (F * E) C):Nb (F * E) C (ba c p):=Jx (cP (aby (aa2 c0 h.pos))) (tq c0 h.pos hc h.he) (FX c0 h.pos u h.ab b.c0) b
def QZ{p:Fr}{D:Int}(h0:0 < p.2)(h:eG p C)(hd:C<=D):eG p D:=by have:=aaq hd (aaj h0);have⟨a,b⟩:=h;exact⟨(),()⟩
def Uz:Nb E 0 (0,1):=⟨@_,⟨0,by simp⟩,⟨@_,@_⟩,qZ (k:=1) ⟨@_,@_,@_⟩ @_⟩
def Ii{p:Fr}(h:aW p=true):0 < p.2/\p.2<=1000/\gM p:=by unfold aW at h;rw[aaz,aaz,aao,aao,aao]at h;have⟨h1,h2,h3⟩:=h;exact⟨(),h3,h1,()⟩
def ua{p:Nat}(h:p < n):Hq n (p:Int)=some p:=by unfold Hq;rw[aaw (),aaw (),abP]
def IV(h:Dd M d=some xs):jq M d=some xs:=by cases d <;> first| exact h| cases h
def Q_(h:Dd M d=some xs):kQ M d=some xs:=by cases d <;> first| exact h| cases h
def ax{o:MO}:(M++[o])[M.length]? =some o:=by simp
def qR{k:Nat}(h:M[k]? =some (MO.lst xs)):Dd M (.loc k)=some xs:=by show(match M[k]? with| some (MO.lst xs)=>some xs| _=>none)=some xs;rw[h]
def cY{a c:MO}:(M++[a]).set M.length c=M++[c]:=by simp[List.set_append]
def PN{E:Ms}{o:MO}:(M++o::E)[M.length]? =some o:=by simp
def Nk{E:Ms}{o c:MO}:(M++o::E).set M.length c=M++c::E:=by simp[List.set_append]
abbrev cw(l:List Int):Dt:=.lst (l.map Dt.int)
abbrev jW(ls:List (List Int)):Dt:=.lst (ls.map cw)
def DJ{ls:List (List Int)}(h:j < ls.length):nJ (ls.map cw) (j:Int)=some (cw ls[j]):=Ο (by rw[aal,aaa h];rfl)
def jH{n:Nat}:∀(ls:List (List Int)),Dt.bM n (ls.map cw)
 | []=>trivial
 | l::ls=>⟨h8 l,jH ls⟩
abbrev c7:=Bz.c7
def A'(h:i < n):((List.replicate (n:Int).toNat [Dt.int 0]).flatten).set i (Dt.int 1)=(c7 n i).map Dt.int:=by
 have e:(List.replicate (n:Int).toNat [Dt.int 0]).flatten=List.replicate n (Dt.int 0):=by
  rw[show((n:Int)).toNat=n by omega];clear h
  induction n with
  | zero=>rfl
  | succ n ih=>rw[abn,abF,ih];rfl
 rw[e];unfold c7 Bz.c7;apply abp
 ·simp
 ·intro j h1 h2;rw[List.getElem_set];simp only[List.getElem_replicate,List.getElem_map,List.getElem_range,Bz.ind];split <;> rfl
def Ov:DF:=λas M q _=>∃γ:List (List Int),as=[jW γ]/\γ.length<=12/\(∀r∈γ,r.length<=13)/\∀E,q (.loc M.length) (M++MO.lst (((List.range γ.length).map λi=>γ.getD i []++c7 γ.length i).map cw)::E)
def dH:Ε ["rows","told","number","row","weights"] ["rows"] (τ jL):=.of rfl
def tZ(F:cX K "with_weights" "with_weights" jL f fd)(E:Ev K mg w Cm):av P w K mg base (bY P w) 1 f fd ["rows"] (cK K Ov):=by
 refine F.dE dH (λds M q x h=>?_) (λaX A outer s H E' hr=>⟨_,(η (Γ 1 dH.nd (hG θ))
   (η (cC (xo E.eI (Τ (jv 0) θ)) (qa rfl (cR (au (i:=2) dH.nd rfl (Or.inl rfl)) (cR (au (i:=3) dH.nd rfl (Or.inl rfl)) lC))) oO (η (Γ 4 dH.nd (CP (fM 3 (d:=.lst [.int 0]) (by rfl)) (cQ E.bJ (Τ (jv 0) θ))))
   (η (kY (jv 4) (jv 2) ψ)
   (μ (dh (dJ (jv 1) (ι (mI (jv 3) (jv 4)) θ cj)))))))
   (μ (Ζ (jv 1))))),λds M q x h=>?_⟩)
 ·have⟨γ,rfl,_⟩:=h;rfl
 ·have⟨γ,rfl,r12,r13,h⟩:=h;refine⟨@_,?_⟩;refine⟨jW γ,γ.map cw,λ_=>True,rfl,rfl,?_⟩;refine bx (λxs ρ M'=>∃(k:Nat) (rest:List (List Int)) (E:Ms) (o1 o2 o3:Option Dt),xs=iS k (rest.map cw)/\γ.drop k=rest/\k<=γ.length/\M'=M++MO.lst (((List.range k).map λi=>γ.getD i []++c7 γ.length i).map cw)::E/\ρ=[some (jW γ),some (.loc M.length),o1,o2,o3]) (λxs ρ M' hj=>trivial) (λx xs ρ M' hj fW=>?_) (λρ M' hj=>?_) _ _ _ ⟨0,γ,[],none,none,none,rfl,rfl,ab9 _,rfl,rfl⟩
  ·have⟨k,rest,E,o1,o2,o3,ex,hd,hk,rfl,rfl⟩:=hj;cases rest with
   | nil=>cases ex
   | cons r rest=>
    cases ex;have Ao:k < γ.length:=by
     rcases Nat.lt_or_ge k γ.length with z| z
     ·exact z
     ·rw[List.drop_of_length_le z]at hd;cases hd
    have rk:γ[k]=r:=by have:=abt Ao;rw[hd]at this;exact(List.cons.inj this).1.symm
    have rg:γ.getD k []=r:=by rw[aab,aaa Ao,rk];rfl
    have afz:=r13 r (by rw[<-rk];exact aaF Ao);have MV:γ.drop (k+1)=rest:=by have:=abt Ao;rw[hd]at this;exact(List.cons.inj this).2.symm
    dsimp only[g2];walk_at "vc";refine(az (d:=jW γ) (xs:=γ.map cw) rfl ?_:gw [jW γ] _ _);rw[aac];refine⟨[.int 0],γ.length,rfl,rfl,(),(),?_,?_⟩
    ·show 1 * ((γ.length:Int)).toNat<=sizeLine;exact aas (show _<=12 by omega) @_
    generalize hM2:M++MO.lst (((List.range k).map λi=>γ.getD i []++c7 γ.length i).map cw)::E=M2;refine⟨M2.length,k,_,k,rfl,rfl,ax,?_,?_⟩
    ·have:((List.replicate (γ.length:Int).toNat [Dt.int 0]).flatten).length=γ.length:=by have:=aaX List.length (A' Ao);rw[abh,aac]at this;rw[this];unfold c7 Bz.c7;simp
     rw[this];exact ua Ao
    rw[cY,A' Ao];subst hM2;have eM:(M++MO.lst (((List.range k).map λi=>γ.getD i []++c7 γ.length i).map cw)::E)++[MO.lst ((c7 γ.length k).map Dt.int)]=M++MO.lst (((List.range k).map λi=>γ.getD i []++c7 γ.length i).map cw)::(E++[MO.lst ((c7 γ.length k).map Dt.int)]):=by simp
    have ZX:((M++MO.lst (((List.range k).map λi=>γ.getD i []++c7 γ.length i).map cw)::E)++[MO.lst ((c7 γ.length k).map Dt.int)])[M.length]? =some (.lst (((List.range k).map λi=>γ.getD i []++c7 γ.length i).map cw)):=by rw[eM];exact PN
    refine⟨⟨M.length,_,rfl,ZX⟩,r.map Dt.int,(c7 γ.length k).map Dt.int,rfl,qR ax,?_,M.length,_,_,rfl,rfl,ZX,?_,?_⟩
    ·rw[aac,aac];unfold c7 Bz.c7;rw[aac,aaP];exact aas (show _<=30 by omega) @_
    ·rw[aac,aac,aaP];exact aaV (show k<=12 by omega) @_
    rw[eM,Nk];refine fW _ _ ⟨k+1,rest,E++[MO.lst ((c7 γ.length k).map Dt.int)],_,_,_,rfl,MV,Ao,?_,rfl⟩;rw[acB,aaW,aaW];simp only[List.map_cons,List.map_nil];rw[rg,<-aaW]
  ·have⟨k,rest,E,o1,o2,o3,ex,hd,hk,rfl,rfl⟩:=hj;cases rest with
   | cons r rest=>cases ex
   | nil=>
    have:k=γ.length:=by have:=aaX List.length hd;rw[abL]at this;simp at this;omega
    subst this;exact h E
def Uv:DF:=λas M q _=>∃(ls:List (List Int)) (f c:Nat),as=[jW ls,.int (f:Int),.int (c:Int)]/\f<=ls.length/\ls.length<=12/\(∀l∈ls,c < l.length)/\
 ((∀(k:Nat),f<=k->k < ls.length->(ls.getD k []).getD c 0=0)->q .bF M)/\
 (∀(k:Nat),f<=k->k < ls.length->(ls.getD k []).getD c 0≠0->q (.int (k:Int)) M)
def j5:Ε ["lines","first","column","number"] ["lines","first","column"] (τ ir):=.of rfl
def qI(F:cX K "number_of_head" "number_of_head" ir f fd)(E:Ev K mg w Cm):av P w K mg base (bY P w) 1 f fd ["lines","first","column"] (cK K Uv):=by
 refine F.dE j5 (λds M q x h=>?_) (λaX A outer s H E' hr=>⟨_,(η (hJ (GX E.bR (Τ (jv 1) (ι (cQ E.bJ (Τ (jv 0) θ)) θ aS))) (au (i:=3) j5.nd rfl (Or.inl rfl)) aG (μ (aI (tX hr (Μ (Μ (jv 0) (jv 3)) (jv 2)) ψ) (μ (Ζ (jv 3))) Υ)))
   (μ (Ζ MC))),λds M q x h=>?_⟩)
 ·have⟨ls,f,c,rfl,_⟩:=h;rfl
 ·have⟨ls,f,c,rfl,hf,lY,hc,h1,h2⟩:=h;walk_at "vc";dsimp only[Jg];walk_at "vc";refine(az (d:=jW ls) (xs:=ls.map cw) rfl ?_:gw [jW ls] _ _);rw[aac];refine⟨⟨(),(),(),()⟩,?_⟩;refine cN (λzs ρ M'=>M'=M/\∃(n k:Nat) (o:Option Dt),zs=dN k n/\f<=k/\k+n=ls.length/\(∀j,f<=j->j < k->(ls.getD j []).getD c 0=0)/\ρ=[some (jW ls),some (.int (f:Int)),some (.int (c:Int)),o]) (λx zs ρ M' hj fW=>?_) (λρ M' hj=>?_) _ _ _ ⟨rfl,ls.length - f,f,none,?_,aai _,(),λj a b=>aaJ a (),rfl⟩
  ·have⟨rfl,n,k,o,ex,hk,hn,hz,rfl⟩:=hj;have⟨m,rfl,rfl,rfl⟩:=cv ex;have kl:k < ls.length:=()
   have hl:=hc _ (aaF kl);have e1:(ls.getD k []).getD c 0=(ls[k])[c]:=by rw[aab,aab,aaa kl];show((ls[k])[c]?).getD 0=_;rw[aaa hl];rfl
   walk_at "vc";refine(Ι (d:=jW ls) rfl (DJ kl) ?_:fm (jW ls) (.int (k:Int)) _ _);refine(Ι (d:=cw ls[k]) rfl (hX hl) ?_:fm (cw ls[k]) (.int (c:Int)) _ _);refine⟨λz=>?_,λz=>?_⟩
   ·have z:(!decide ((ls[k])[c]=0))=true:=z;refine h2 k hk kl ?_;rw[e1];intro y;rw[aaB y]at z;exact nomatch z
   ·have z:(!decide ((ls[k])[c]=0))=false:=z;have z0:(ls[k])[c]=0:=by
     rcases Decidable.em ((ls[k])[c]=0) with y| y
     ·exact y
     ·rw[aaG y]at z;exact nomatch z
    refine fW _ _ ⟨rfl,m,k+1,_,by simp,(),(),λj a b=>?_,rfl⟩;by_cases e:j=k
    ·rw[e,e1];exact z0
    ·exact hz j a ()
  ·have⟨rfl,n,k,o,ex,hk,hn,hz,rfl⟩:=hj;have hn0:n=0:=by have:=aaX List.length ex;unfold dN at this;simpa using this.symm
   exact h1 λj a b=>hz j a ()
  ·rw[show((ls.length:Int) - (f:Int)).toNat=ls.length - f by omega]
abbrev kM:=Bz.kM
def KO:DF:=λas M q _=>∃(ls:List (List Int)) (f k:Nat),as=[jW ls,.int (f:Int),.int (k:Int)]/\f<=k/\k < ls.length/\ls.length<=12/\q (jW (kM ls f k)) M
def xx:Ε ["lines","first","number"] ["lines","first","number"] (τ kK):=.of rfl
def uG(F:cX K "moved_ahead" "moved_ahead" kK f fd)(E:Ev K mg w Cm):av P w K mg base (bY P w) 1 f fd ["lines","first","number"] (cK K KO):=by
 refine F.dE xx (λds M q x h=>?_) (λaX A outer s H E' hr=>⟨_,(μ (Ζ (mI (mI (mI (bK (yh (jv 0) (jv 1))) (ma (ι (Μ (jv 0) (jv 2)) θ aU))) (bK (vE (jv 0) (jv 1) (jv 2)))) (bK (oE (jv 0) (cW (jv 2) ψ)))))),λds M q x h=>?_⟩)
 ·have⟨ls,f,k,rfl,_⟩:=h;rfl
 ·have⟨ls,f,k,rfl,hf,hk,lY,h⟩:=h;have gk:ls.getD k []=ls[k]:=by rw[aab,aaa hk];rfl
  have sz:∀{n:Nat},n<=40->n<=sizeLine:=λh=>aas h @_;refine⟨ls.map cw,f,rfl,rfl,?_⟩;rw[<-acC];refine cf (jH _) ?_;walk_at "vc";refine(Ι (d:=jW ls) rfl (DJ hk) ?_:fm (jW ls) (.int (k:Int)) _ _);refine⟨sz (by show 1<=40;decide),(ls.take f).map cw,[cw ls[k]],rfl,rfl,sz (by simp;omega),?_⟩;refine⟨f,rfl,ls.map cw,k,rfl,rfl,?_⟩;rw[<-acD,<-acC];refine cf (jH _) ?_;refine⟨(ls.take f).map cw++[cw ls[k]],((ls.drop f).take (k - f)).map cw,rfl,rfl,sz (by simp;omega),?_⟩;refine⟨ls.map cw,k+1,rfl,rfl,?_⟩;rw[<-acD];refine cf (jH _) ?_;refine⟨(ls.take f).map cw++[cw ls[k]]++((ls.drop f).take (k - f)).map cw,(ls.drop (k+1)).map cw,rfl,rfl,sz (by simp;omega),?_⟩;unfold kM Bz.kM at h;rw[gk]at h;have e:(ls.take f).map cw++[cw ls[k]]++((ls.drop f).take (k - f)).map cw++(ls.drop (k+1)).map cw=(ls.take f++[ls[k]]++(ls.drop f).take (k - f)++ls.drop (k+1)).map cw:=by rw[aaW,aaW,aaW];rfl
  rw[e];exact h
abbrev dc:=Bz.dc
def Bw:DF:=λas M q _=>∃(l h:List Int) (c:Nat) (d:Int),as=[cw l,cw h,.int (c:Int),.int d]/\l.length=h.length/\h.length<=30/\c < h.length/\(∀x∈l,fY x)/\(∀x∈h,fY x)/\d≠0/\fY d/\q (cw (dc l h c d)) M
def lW:Ε ["line","head","column","divisor"] ["line","head","column","divisor"] (τ jI):=.of rfl
def rV(F:cX K "cleared_line" "cleared_line" jI f fd)(E:Ev K mg w Cm):av P w K mg base (bY P w) 1 f fd ["line","head","column","divisor"] (cK K Bw):=by
 refine F.dE lW (λds M q x h=>?_) (λaX A outer s H E' hr=>⟨_,(μ (Ζ (Dw (ys:=["divisor","head","column","line"]) (Ω:=[3,1,2,0]) (.of lW rfl rfl rfl) (BB E.vn (Τ (jv 0) (Τ (jv 1) θ))) (λC s H fp=>(Bq (Ae (aR (Μ (jv 3) (jv 4)) (jv 0)) (aR (Μ (jv 5) (jv 4)) (jv 1))) (jv 2)))))),λds M q x h=>?_⟩)
 ·have⟨l,h',c,d,rfl,_⟩:=h;rfl
 ·have⟨l,hd,c,d,rfl,hl,h30,hc,bl,bh,d0,bd,h⟩:=h;have cl:c < l.length:=()
  have g1:hd.getD c 0=hd[c]:=by rw[aab,aaa hc];rfl
  have g2':l.getD c 0=l[c]:=by rw[aab,aaa cl];rfl
  refine⟨cw l,cw hd,l.map Dt.int,hd.map Dt.int,λ_=>True,λ_=>True,rfl,rfl,rfl,?_⟩;have ez:qE (l.map Dt.int) (hd.map Dt.int)=(l.zip hd).map λp=>.tup [.int p.1,.int p.2]:=by unfold qE;rw[List.zip_map,aaK];rfl
  rw[ez];refine⟨?_,?_⟩
  ·rw[aac,abB];exact aas (show _<=30 by omega) @_
  refine oN ⟨trivial,trivial⟩ (λx=>match x with| .tup [.int a,.int b]=>.int ((hd.getD c 0 * a - l.getD c 0 * b).fdiv d)| _=>.bF) _ _ (λx hx q' hq=>?_) ?_
  ·have⟨p,hp,rfl⟩:=aah.mp hx;have hq:q' (.int ((hd.getD c 0 * p.1 - l.getD c 0 * p.2).fdiv d)) M:=hq;have p1:=bl p.1 (abH hp).1;have p2:=bh p.2 (abH hp).2;rw[g1,g2']at hq;have key:fm (cw hd) (.int (c:Int)) M (λx M1=>Jc x (.int p.1) M1 λy M2=>fm (cw l) (.int (c:Int)) M2 λz M3=>Jc z (.int p.2) M3 λu M4=>Bx y u M4 λv M5=>EY v (.int d) M5 q'):=by refine Ι (d:=cw hd) rfl (hX hc) ⟨⟨bh _ (aaF hc),p1⟩,?_⟩;refine Ι (d:=cw l) rfl (hX cl) ⟨⟨bl _ (aaF cl),p2⟩,?_⟩;exact⟨⟨d0,bd⟩,hq⟩
   exact key
  ·rw[aaQ,aaK];unfold dc Bz.dc at h;rw[show cw ((l.zip hd).map λp=>(hd.getD c 0 * p.1 - l.getD c 0 * p.2).fdiv d)= .lst ((l.zip hd).map λp=>Dt.int ((hd.getD c 0 * p.1 - l.getD c 0 * p.2).fdiv d)) by show Dt.lst _=_;rw[aaK];rfl]at h;exact h
def y9{a b:Int}(h0:0<=a)(h:a<=b):∀n:Nat,a ^ n<=b ^ n
 | 0=>by rw[Int.pow_zero,Int.pow_zero];exact Int.le_refl _
 | n+1=>by rw[abU,abU];exact abG (y9 h0 h n) h h0 (abV ())
def Cr{x:Int}{r:Nat}(h:Bz.Ab x (Bz.top B r))(h1:1<=B)(hB:B<=2 ^ 450)(hr:r<=12):fY x:=by
 have e1:Bz.top B r<=(12 * B) ^ 15:=Bz.xZ h1 ();have e2:(12 * B) ^ 15<=(12 * 2 ^ 450) ^ 15:=y9 () () 15;have e3:((12 * 2 ^ 450) ^ 15:Int) < ((2 ^ 8000:Nat):Int):=@_
 have:(x.natAbs:Int) < ((2 ^ 8000:Nat):Int):=by have⟨a,b⟩:=h;omega
 exact abO.mp this
section
variable{col:Nat}{ρ ν:List Nat}{qq:Nat->Nat}{d:Int}
def zJ{m:Nat}(t:Bz.Turn A n col ρ ν qq d W)(b:Bz.Bd A n m B)(hB:B<=2 ^ 450)(hm:col<=m)(hr:ρ.length<=12):(∀i,i < n->∀x∈Bz.aE A n m (W i),fY x)/\fY d:=by
 have⟨a1,a2,a3⟩:=t.st.abs b (λc hc=>aau (t.cl c hc) hm) hr;refine⟨λi hi x hx=>?_,Cr a3 b.b1 hB hr⟩;unfold Bz.aE at hx;rcases aa0.mp hx with z| z
 ·have⟨y,hy,rfl⟩:=aah.mp z;exact Cr (a2 i y hi (aa4.mp hy)) b.b1 hB hr
 ·have⟨y,hy,rfl⟩:=aah.mp z;exact Cr (a1 i y hi) b.b1 hB hr
end
def nZ(n:Nat):Dt:=.int n
def D8{n:Nat}:∀(l:List Nat),Dt.bM n (l.map nZ)
 | []=>trivial
 | _::l=>⟨trivial,D8 l⟩
def vo{m:Nat}{l:List Int}(h:l∈Bz.ah A n m W):∃i,i < n/\l=Bz.aE A n m (W i):=by unfold Bz.ah at h;have⟨i,hi,e⟩:=aah.mp h;exact⟨i,aa4.mp hi,e.symm⟩
def rS{α:Type}(a:α):∀u:Nat,(List.replicate u [a]).flatten=List.replicate u a
 | 0=>rfl
 | u+1=>by rw[abn,abF,rS a u];rfl
structure B7(γ:List (List Int))(u:Nat)(B:Int):Prop where
 n1:1<=γ.length
 Bj:γ.length<=12
 RU:u<=12
 ml:∀r∈γ,r.length=u+1
 bd:Bz.Bd (Bz.arr γ) γ.length (u+1) B
 j3:B<=2 ^ 450
def AG:DF:=λas M q _=>∃(γ:List (List Int)) (u:Nat) (B:Int),as=[jW γ,.int (u:Int)]/\B7 γ u B/\
 ∀ρ ν qq d W,Bz.Turn (Bz.arr γ) γ.length u ρ ν qq d W->q (.tup [jW (Bz.ah (Bz.arr γ) γ.length (u+1) W),.loc M.length]) (M++[.lst (ν.map nZ)])
def bf:Ε ["rows","unknowns","lines","columns","divisor","column","rank","number","head","above","below"] ["rows","unknowns"] (τ rD):=.of rfl
def Dm(F:cX K "cleared" "cleared" rD f fd)(E:Ev K mg w Cm){yJ:Addr}{yz:FuncData}(iA:aB P w K mg base 1 "with_weights" ["rows"] Ov yJ yz){uQ:Addr}{uH:FuncData}(gO:aB P w K mg base 1 "number_of_head" ["lines","first","column"] Uv uQ uH){A1:Addr}{zD:FuncData}(jB:aB P w K mg base 1 "moved_ahead" ["lines","first","number"] KO A1 zD){xp:Addr}{wC:FuncData}(fA:aB P w K mg base 1 "cleared_line" ["line","head","column","divisor"] Bw xp wC):av P w K mg base (bY P w) 2 f fd ["rows","unknowns"] (cK K AG):=by
 refine F.dE bf (λds M q x h=>?_) (λaX A outer s H E' hr=>⟨_,(η (Γ 2 bf.nd (bK (ao iA hr ξ (Τ (jv 0) θ))))
   (η (Γ 3 bf.nd (hG θ))
   (η (Γ 4 bf.nd ψ)
   (η (hJ (b_ E.bR (Τ (jv 1) θ)) (au (i:=5) bf.nd rfl (Or.inr rfl)) aG (η (Γ 6 bf.nd (cQ E.bJ (Τ (jv 3) θ)))
   (η (Γ 7 bf.nd (ao gO hr ξ (Τ (jv 2) (Τ (jv 6) (Τ (jv 5) θ)))))
   (η (aI (Kg (jv 7) MC) (μ qA) Υ)
   (η (Γ 2 bf.nd (ao jB hr ξ (Τ (jv 2) (Τ (jv 6) (Τ (jv 7) θ)))))
   (η (Γ 8 bf.nd (Μ (jv 2) (jv 6)))
   (η (fX (i:=9) bf.nd rfl (Or.inl rfl) (ys:=["head","column","divisor"]) (Ω:=[8,5,4]) (.of bf rfl rfl rfl) (aV (bK (yh (jv 2) (jv 6)))) (λC s H fp=>(ao fA hr (fv (P:=P) (w:=w)) (Τ (jv 0) (Τ (jv 1) (Τ (jv 2) (Τ (jv 3) θ)))))))
   (η (fX (i:=10) bf.nd rfl (Or.inl rfl) (ys:=["head","column","divisor"]) (Ω:=[8,5,4]) (.of bf rfl rfl rfl) (aV (bK (oE (jv 2) (cW (jv 6) ψ)))) (λC s H fp=>(ao fA hr (fv (P:=P) (w:=w)) (Τ (jv 0) (Τ (jv 1) (Τ (jv 2) (Τ (jv 3) θ)))))))
   (η (Γ 2 bf.nd (mI (mI (jv 9) (ma (Τ (jv 8) θ))) (jv 10)))
   (η (Γ 4 bf.nd (Μ (jv 8) (jv 5)))
   (μ (dh (dJ (jv 3) (Τ (jv 5) θ))))))))))))))
   (μ (Ζ (fR (Τ (jv 2) (Τ (jv 3) θ))))))))),λds M q x h=>?_⟩)
 ·have⟨γ,u,B,rfl,_⟩:=h;rfl
 ·have⟨γ,u,B,rfl,ro,h⟩:=h;have n1:=ro.n1;have Bj:=ro.Bj;have RU:=ro.RU;refine⟨γ,rfl,Bj,λr fZ=>by rw[ro.ml r fZ];omega,λE0'=>?_⟩;rw[Bz.y6 ro.ml];refine jN (d':=jW (Bz.ah (Bz.arr γ) γ.length (u+1) λi=>Bz.ind i)) (.BR (Nat.le_refl _) (by simp) (ix.old (jH _))) ?_;generalize hA:Bz.arr γ=A at *
  generalize hn:γ.length=n at *
  refine⟨@_,?_⟩;walk_at "vc";refine⟨⟨(),()⟩,?_⟩;refine cN (λzs ρ' M'=>∃(c k:Nat) (ρ ν:List Nat) (qq:Nat->Nat) (d:Int) (W:Nat->Bz.Row) (o1 o2 o3 o4 o5 o6:Option Dt),zs=dN k c/\k+c=u/\Bz.Turn A n k ρ ν qq d W/\M'=M++[MO.lst (ν.map nZ)]/\ρ'=[some (jW γ),some (.int (u:Int)),some (jW (Bz.ah A n (u+1) W)),some (.loc M.length),some (.int d),o1,o2,o3,o4,o5,o6]) (λx zs ρ' M' hj fW=>?_) (λρ' M' hj=>?_) _ _ _ ⟨u,0,[],[],id,1,_,none,none,none,none,none,none,by simp,by simp,Bz.Turn.start,rfl,rfl⟩
  ·have⟨c,k,ρ,ν,qq,d,W,o1,o2,o3,o4,o5,o6,ex,X2,t,rfl,rfl⟩:=hj;have⟨m,rfl,rfl,rfl⟩:=cv ex;have lc:ν.length=ρ.length:=t.st.lc;have rn:ρ.length<=n:=t.st.rn;have hs1:jq (M++[MO.lst (ν.map nZ)]) (.loc M.length)=some (ν.map nZ):=IV (qR ax);walk_at "vc";refine(az (d:=.loc M.length) hs1 ?_:gw [.loc M.length] _ _);rw[aac,lc];refine⟨Bz.ah A n (u+1) W,ρ.length,k,rfl,by rw[Bz.dj];exact rn,by rw[Bz.dj];exact Bj,λl hl=>?_,λhz=>?_,λk' h1 h2 h0=>?_⟩
   ·have⟨i,_,rfl⟩:=vo hl;rw[Bz.eN];omega
   ·refine⟨λ_=>?_,λz=>(nomatch z)⟩;refine fW _ _ ⟨m,k+1,ρ,ν,qq,d,W,_,_,_,_,_,_,by simp,(),t.skip λi a b=>?_,rfl,rfl⟩;have:=hz i a (by rw[Bz.dj];exact b);rw[Bz.ko b,Bz.ia ()]at this;exact this
   ·rw[Bz.dj]at h2;rw[Bz.ko h2,Bz.ia (show k < u+1 by omega)]at h0;refine⟨λz=>(nomatch z),λ_=>?_⟩;refine⟨Bz.ah A n (u+1) W,ρ.length,k',rfl,h1,by rw[Bz.dj];exact h2,by rw[Bz.dj];exact Bj,?_⟩;rw[show kM (Bz.ah A n (u+1) W) ρ.length k'=_ from Bz.zf h1 h2];have t1:=t.move h1 h2;have RT:ρ.length < n:=()
    have ZR:Bz.rv A n (W (Bz.jd ρ.length k' ρ.length)) k≠0:=by
     have:Bz.jd ρ.length k' ρ.length=k':=by unfold Bz.jd;rw[if_neg (Nat.lt_irrefl _),if_pos rfl]
     rw[this];exact h0
    clear h0 h1 h2 t;generalize hW1:(λi=>W (Bz.jd ρ.length k' i))=W1 at *
    generalize Ss:(λi=>qq (Bz.jd ρ.length k' i))=q1 at *
    have e1:W (Bz.jd ρ.length k' ρ.length)=W1 ρ.length:=by rw[<-hW1]
    rw[e1]at ZR;have⟨bl,bd⟩:=zJ t1 (m:=u+1) (by subst hA hn;exact ro.bd) ro.j3 () ();have⟨W',t2,el⟩:=t1.step (m:=u+1) RT () ZR;have Q3:(Bz.ah A n (u+1) W1).length=n:=Bz.dj;have hdg:(Bz.ah A n (u+1) W1)[ρ.length]'(by rw[Q3];exact RT)=Bz.aE A n (u+1) (W1 ρ.length):=by have:=Bz.ko (A:=A) (m:=u+1) (W:=W1) RT;rw[aab,aaa (by rw[Q3];exact RT)]at this;exact this
    have clr:∀l∈Bz.ah A n (u+1) W1,∀q':DQ,q' (cw (dc l (Bz.aE A n (u+1) (W1 ρ.length)) k d)) (M++[MO.lst (ν.map nZ)])->Bw [cw l,cw (Bz.aE A n (u+1) (W1 ρ.length)),.int (k:Int),.int d] (M++[MO.lst (ν.map nZ)]) q' (λC fs M'=>lT [] C fs M'):=λl hl q' qp=>by have⟨i,hi,rfl⟩:=vo hl;exact⟨_,_,k,d,rfl,by rw[Bz.eN,Bz.eN],by rw[Bz.eN];omega,by rw[Bz.eN];omega,bl i hi,bl _ RT,t1.d0,bd,qp⟩
    walk_at "vc";refine(Ι (d:=jW (Bz.ah A n (u+1) W1)) rfl (DJ (by rw[Q3];exact RT)) ?_:fm (jW (Bz.ah A n (u+1) W1)) (.int (ρ.length:Int)) _ _);rw[hdg];have sz:∀{z:Nat},z<=40->z<=sizeLine:=λh=>aas h @_;refine⟨(Bz.ah A n (u+1) W1).map cw,ρ.length,rfl,rfl,?_⟩;rw[<-acC];refine cf (jH _) ⟨sz (by rw[aac,ab6];omega),?_⟩;refine d9 (F:=λx a=>x=cw a/\a∈Bz.ah A n (u+1) W1) (f:=λl=>cw (dc l (Bz.aE A n (u+1) (W1 ρ.length)) k d)) trivial (λx a ha q' qp=>by have⟨rfl,ha⟩:=ha;exact clr a ha q' qp) (kT cw _ _ λ_ h=>List.mem_of_mem_take h) ?_;rw[aaQ];refine⟨(Bz.ah A n (u+1) W1).map cw,ρ.length+1,rfl,rfl,?_⟩;rw[<-acD];refine cf (jH _) ⟨sz (by rw[aac,abL];omega),?_⟩;refine d9 (F:=λx a=>x=cw a/\a∈Bz.ah A n (u+1) W1) (f:=λl=>cw (dc l (Bz.aE A n (u+1) (W1 ρ.length)) k d)) trivial (λx a ha q' qp=>by have⟨rfl,ha⟩:=ha;exact clr a ha q' qp) (kT cw _ _ λ_ h=>List.mem_of_mem_drop h) ?_;rw[aaQ];refine⟨by show 1<=sizeLine;decide,_,_,rfl,rfl,sz (by simp;omega),_,_,rfl,rfl,sz (by simp;omega),?_⟩;have ek:k < (Bz.aE A n (u+1) (W1 ρ.length)).length:=by rw[Bz.eN];omega
    have ev:(Bz.aE A n (u+1) (W1 ρ.length))[k]=Bz.rv A n (W1 ρ.length) k:=by have:=Bz.ia (A:=A) (n:=n) (m:=u+1) (x:=k) (w:=W1 ρ.length) ();rw[aab,aaa ek]at this;exact this
    refine Ι (d:=cw (Bz.aE A n (u+1) (W1 ρ.length))) rfl (hX ek) ?_;rw[ev];refine⟨⟨M.length,_,rfl,ax⟩,M.length,_,_,rfl,rfl,ax,?_,?_⟩
    ·rw[aac,lc];exact aaV (show _<=12 by omega) @_
    rw[cY];have ee:=aaX (List.map cw) el;rw[aaW,aaW,aaK,aaK]at ee;refine fW _ _ ⟨m,k+1,ρ++[q1 ρ.length],ν++[k],q1,_,W',some (.int (k:Int)),some (.int (ρ.length:Int)),some (.int (k':Int)),some (cw (Bz.aE A n (u+1) (W1 ρ.length))),some (.lst (((Bz.ah A n (u+1) W1).take ρ.length).map λl=>cw (dc l (Bz.aE A n (u+1) (W1 ρ.length)) k d))),some (.lst (((Bz.ah A n (u+1) W1).drop (ρ.length+1)).map λl=>cw (dc l (Bz.aE A n (u+1) (W1 ρ.length)) k d))),by simp,(),t2,by simp[nZ],?_⟩;show _=[some (jW γ),some (Dt.int (u:Int)),some (Dt.lst ((Bz.ah A n (u+1) W').map cw)),some (Dt.loc M.length),some (Dt.int _),_,_,_,_,_,_];rw[<-ee];rfl
  ·have⟨c,k,ρ,ν,qq,d,W,o1,o2,o3,o4,o5,o6,ex,X2,t,rfl,rfl⟩:=hj;have hn0:c=0:=by have:=aaX List.length ex;unfold dN at this;simpa using this.symm
   have:k=u:=()
   subst this;exact⟨gV,h _ _ _ _ _ t⟩
def OF:DF:=λas M q _=>∃(γ:List (List Int)) (u:Nat) (B:Int) (ρ ν:List Nat) (qq:Nat->Nat) (d:Int) (W:Nat->Bz.Row),as=[jW (Bz.ah (Bz.arr γ) γ.length (u+1) W),.lst (ν.map nZ),.int (u:Int),.int (u:Int)]/\B7 γ u B/\Bz.Turn (Bz.arr γ) γ.length u ρ ν qq d W/\ν=List.range u/\
 q (.loc M.length) (M++[.lst ((List.range u).map λi=>Ξ (aA (Bz.rv (Bz.arr γ) γ.length (W i) u) d))])
def ig:Ε ["lines","columns","unknowns","source","told","line","column"] ["lines","columns","unknowns","source"] (τ mU):=.of rfl
def wA(F:cX K "quotients" "quotients" mU f fd)(E:Ev K mg w Cm)(bt:aB P w K mg base 2 "fraction" ["top","bottom"] ud fo ft):av P w K mg base (bY P w) 3 f fd ["lines","columns","unknowns","source"] (cK K OF):=by
 refine F.dE ig (λds M q x h=>?_) (λaX A outer s H E' hr=>⟨_,(η (Γ 4 ig.nd (CP (fM 3 (d:=.lst [.tup [.int 0,.int 1]]) (by rfl)) (jv 2)))
   (η (cC (BB E.vn (Τ (jv 0) (Τ (jv 1) θ))) (qa rfl (cR (au (i:=5) ig.nd rfl (Or.inl rfl)) (cR (au (i:=6) ig.nd rfl (Or.inl rfl)) lC))) oO (μ (kY (jv 4) (jv 6) (ao bt hr ξ (ι (Μ (jv 5) (jv 3)) (ι (Μ (jv 5) (jv 6)) θ aU) aU)))))
   (μ (Ζ (jv 4))))),λds M q x h=>?_⟩)
 ·have⟨γ,u,B,ρ,ν,qq,d,W,rfl,_⟩:=h;rfl
 ·have⟨γ,u,B,ρ,ν,qq,d,W,rfl,ro,t,hc,h⟩:=h;have RU:=ro.RU;have Bj:=ro.Bj;have hl:ρ.length=u:=by rw[<-t.st.lc,hc,aaP]
  have un:u<=γ.length:=by rw[<-hl];exact t.st.rn
  have⟨bl,bd⟩:=zJ t (m:=u+1) ro.bd ro.j3 () ();have d0:=t.d0;have one:∀i,i < u->Bz.rv (Bz.arr γ) γ.length (W i) i=d:=λi hi=>by have:=t.st.one i i () ();rw[aaw rfl,hc,aab,aaU hi]at this;exact this
  generalize hA:Bz.arr γ=A at *
  generalize hn:γ.length=n at *
  let tl:Nat->List Dt:=λk=>(List.range u).map λi=>if i < k then Ξ (aA (Bz.rv A n (W i) u) d) else Ξ (0,1)
  have t0:(List.replicate (u:Int).toNat [Ξ (0,1)]).flatten=tl 0:=by
   show _=(List.range u).map λi=>if i < 0 then _ else Ξ (0,1)
   rw[show((u:Int)).toNat=u by omega];apply abp
   ·simp
   ·intro j h1 h2;have e:(List.replicate u [Ξ (0,1)]).flatten=List.replicate u (Ξ (0,1)):=rS _ u;simp[e]
  have ts:∀k,k < u->(tl k).set k (Ξ (aA (Bz.rv A n (W k) u) d))=tl (k+1):=λk hk=>by
   apply abp
   ·simp[tl]
   ·intro j h1 h2;rw[List.getElem_set];simp only[tl,List.getElem_map,List.getElem_range];by_cases e:k=j
    ·subst e;rw[aaw rfl,aaw ()]
    ·rw[aav e];by_cases f:j < k
     ·rw[aaw f,aaw ()]
     ·rw[aav f,aav ()]
  refine⟨[Ξ (0,1)],u,rfl,rfl,(),(),?_,?_⟩
  ·show 1 * ((u:Int)).toNat<=sizeLine;exact aas (show _<=12 by omega) @_
  rw[t0];refine⟨jW (Bz.ah A n (u+1) W),.lst (ν.map nZ),_,_,λ_=>True,λ_=>True,rfl,rfl,rfl,?_⟩;have ez:qE ((Bz.ah A n (u+1) W).map cw) (ν.map nZ)=(List.range u).map λi=>.tup [cw (Bz.aE A n (u+1) (W i)),nZ i]:=by
   unfold qE Bz.ah;rw[hc];apply abp
   ·simp;omega
   ·intro j h1 h2;simp
  rw[ez];refine bx (λzs ρ' M'=>∃(k:Nat) (o1 o2:Option Dt),k<=u/\zs=((List.range u).drop k).map (λi=>.tup [cw (Bz.aE A n (u+1) (W i)),nZ i])/\M'=M++[MO.lst (tl k)]/\ρ'=[some (jW (Bz.ah A n (u+1) W)),some (.lst (ν.map nZ)),some (.int (u:Int)),some (.int (u:Int)),some (.loc M.length),o1,o2]) (λzs ρ' M' hj=>⟨trivial,trivial⟩) (λx zs ρ' M' hj fW=>?_) (λρ' M' hj=>?_) _ _ _ ⟨0,none,none,ab9 _,rfl,rfl,rfl⟩
  ·have⟨k,o1,o2,hk,ex,rfl,rfl⟩:=hj;have Ao:k < u:=by
    rcases Nat.lt_or_ge k u with z| z
    ·exact z
    ·rw[List.drop_of_length_le (by simpa using z)]at ex;cases ex
   rw[List.drop_eq_getElem_cons (by simpa using Ao),List.map_cons,List.getElem_range]at ex;cases ex;have ek:k < (Bz.aE A n (u+1) (W k)).length:=by rw[Bz.eN];omega
   have eu:u < (Bz.aE A n (u+1) (W k)).length:=by rw[Bz.eN];omega
   have v1:(Bz.aE A n (u+1) (W k))[k]=d:=by have:=Bz.ia (A:=A) (n:=n) (m:=u+1) (x:=k) (w:=W k) ();rw[aab,aaa ek]at this;rw[<-one k Ao];exact this
   have v2:(Bz.aE A n (u+1) (W k))[u]=Bz.rv A n (W k) u:=by have:=Bz.ia (A:=A) (n:=n) (m:=u+1) (x:=u) (w:=W k) ();rw[aab,aaa eu]at this;exact this
   dsimp only[g2,pZ];walk_at "vc";refine Ι (d:=cw (Bz.aE A n (u+1) (W k))) rfl (hX eu) ?_;refine Ι (d:=cw (Bz.aE A n (u+1) (W k))) rfl (hX ek) ?_;rw[v1,v2];refine⟨bd,λz=>aaJ z d0,λ_=>?_⟩;refine⟨M.length,k,_,k,rfl,rfl,ax,?_,?_⟩
   ·rw[show(tl k).length=u by simp[tl]];exact ua Ao
   rw[cY];refine fW _ _ ⟨k+1,_,_,Ao,rfl,?_,rfl⟩;rw[<-ts k Ao];rfl
  ·have⟨k,o1,o2,hk,ex,rfl,rfl⟩:=hj;have:k=u:=by have:=aaX List.length ex;simp at this;omega
   subst this;have e:tl k=(List.range k).map λi=>Ξ (aA (Bz.rv A n (W i) k) d):=abg λi hi=>by rw[aaw (aa4.mp hi)]
   rw[e];exact h
def yF:DF:=λas M q _=>∃(γ:List (List Int)) (u:Nat) (B:Int) (EM:List Fr) (z:Bz.Row) (N:Int),as=[jW γ]/\B7 γ u B/\1<=u/\EM.length=u/\Bz.Rk (Bz.arr γ) γ.length u z N/\N≠0/\
 (∀i,i < u->0 < (EM.getD i (0,1)).2/\Int.gcd (EM.getD i (0,1)).1 (EM.getD i (0,1)).2=1/\N * (EM.getD i (0,1)).1=z i * (EM.getD i (0,1)).2)/\
 (∀y:Bz.Row,(∀k,k < γ.length->Bz.Δ (λx=>Bz.arr γ k x * y x) u=0)->∀x,x < u->y x=0)/\q (.loc M.length) (M++[.lst (EM.map Ξ)])
def eA:Ε ["rows","unknowns","found","lines","columns","line","answer"] ["rows"] (τ oM):=.of rfl
def y4(F:cX K "answer_of" "answer_of" oM f fd)(E:Ev K mg w Cm){Ja:Addr}{KS:FuncData}(qg:aB P w K mg base 2 "cleared" ["rows","unknowns"] AG Ja KS){Di:Addr}{Cs:FuncData}(kj:aB P w K mg base 3 "quotients" ["lines","columns","unknowns","source"] OF Di Cs):av P w K mg base (bY P w) 4 f fd ["rows"] (cK K yF):=by
 refine F.dE eA (λds M q x h=>?_) (λaX A outer s H E' hr=>⟨_,(η (Γ 1 eA.nd (Ae (cQ E.bJ (ι (Μ (jv 0) ψ) θ aU)) ψ))
   (η (Γ 2 eA.nd (bK (ao qg hr ξ (Τ (jv 0) (Τ (jv 1) θ)))))
   (η (Γ 3 eA.nd (Μ (jv 2) ψ))
   (η (Γ 4 eA.nd (Μ (jv 2) ψ))
   (η (cC (aV (bK (oE (jv 3) (cQ E.bJ (Τ (jv 4) θ))))) (au (i:=5) eA.nd rfl (Or.inl rfl)) aG (μ (aI (tX hr (Μ (jv 5) (jv 1)) ψ) (μ fQ) Υ)))
   (η (Γ 6 eA.nd (ao kj hr ξ (Τ (jv 3) (Τ (jv 4) (Τ (jv 1) (Τ (jv 1) θ))))))
   (η (aI (vN (cQ E.bJ (Τ (jv 4) θ)) (jv 1)) (μ fQ) Υ)
   (μ (Ζ (jv 6)))))))))),λds M q x h=>?_⟩)
 ·have⟨γ,u,B,EM,z,N,rfl,_⟩:=h;rfl
 ·have⟨γ,u,B,EM,z,N,rfl,ro,u1,dl,sol,hN,WL,WA,h⟩:=h;have n1:=ro.n1;have Bj:=ro.Bj;have RU:=ro.RU;have r0:0 < γ.length:=()
  have m0:γ[0].length=u+1:=ro.ml _ (aaF r0);walk_at "vc";refine(Ι (d:=jW γ) rfl (DJ r0) ?_:fm (jW γ) (.int 0) _ _);refine(az (d:=cw γ[0]) (xs:=γ[0].map Dt.int) rfl ?_:gw [cw γ[0]] _ _);rw[aac,m0];dsimp only[Bx];rw[show(((u+1:Nat):Int) - 1)=(u:Int) by omega];refine⟨γ,u,B,rfl,ro,λρ ν qq d W t=>?_⟩;have Et:ν=List.range u:=by
   rcases t.all with e| ⟨x,hx,hf⟩
   ·exact e
   ·have⟨y,y1,y2⟩:=t.kernel hx hf;have:=WA y y2 x hx;rw[this]at y1;exact aaJ () t.d0
  have hl:ρ.length=u:=by rw[<-t.st.lc,Et,aaP]
  have un:u<=γ.length:=by rw[<-hl];exact t.st.rn
  refine jN (d':=.tup [jW (Bz.ah (Bz.arr γ) γ.length (u+1) W),.lst (ν.map nZ)]) (.tup (.cons (.old (jH _)) (.cons (.BR (Nat.le_refl _) (by simp) (ix.old (D8 _))) .nil))) ?_;have told:(List.range u).map (λi=>Ξ (aA (Bz.rv (Bz.arr γ) γ.length (W i) u) d))=EM.map Ξ:=by
   apply abp
   ·simp[dl]
   ·intro i h1 h2;have hi:i < u:=by simpa using h1
    simp only[List.getElem_map,List.getElem_range];have⟨p0,p1,p2⟩:=WL i hi;have gi:EM.getD i (0,1)=EM[i]:=by rw[aab,aaa ()];rfl
    rw[gi]at p0 p1 p2;have e:=t.told Et sol hi
    congr 1
    have:aA (Bz.rv (Bz.arr γ) γ.length (W i) u) d=(EM[i].1,EM[i].2):=xh t.d0 p0 p1 (by
     refine aaZ hN ?_
     grind)
    exact this
  refine(Ι (d:=.tup [jW (Bz.ah (Bz.arr γ) γ.length (u+1) W),.lst (ν.map nZ)]) rfl bu ?_:fm (.tup [jW (Bz.ah (Bz.arr γ) γ.length (u+1) W),.lst (ν.map nZ)]) (.int 0) _ _);refine(Ι (d:=.tup [jW (Bz.ah (Bz.arr γ) γ.length (u+1) W),.lst (ν.map nZ)]) rfl (Ο (j:=1) rfl) ?_:fm (.tup [jW (Bz.ah (Bz.arr γ) γ.length (u+1) W),.lst (ν.map nZ)]) (.int 1) _ _);have ZZ:(ν.map nZ).length=u:=by rw[aac,Et,aaP]
  dsimp only[oh,eF,RD,T8];walk_at "vc";refine(az (d:=.lst (ν.map nZ)) (xs:=ν.map nZ) rfl ?_:gw [.lst (ν.map nZ)] _ _);refine⟨(Bz.ah (Bz.arr γ) γ.length (u+1) W).map cw,(ν.map nZ).length,rfl,rfl,?_⟩;rw[ZZ,<-acD];refine cf (jH _) ?_;have hz:∀l∈(Bz.ah (Bz.arr γ) γ.length (u+1) W).drop u,u < l.length/\l.getD u 0=0:=λl Xr=>by
   have⟨j,hj,e⟩:=abf Xr;rw[List.getElem_drop]at e;rw[abL,Bz.dj]at hj;have hu:u+j < γ.length:=()
   have el:l=Bz.aE (Bz.arr γ) γ.length (u+1) (W (u+j)):=by have:=Bz.ko (A:=Bz.arr γ) (m:=u+1) (W:=W) hu;rw[aab,aaa (by rw[Bz.dj];exact hu)]at this;rw[<-e];exact this
   rw[el];refine⟨by rw[Bz.eN];omega,?_⟩;rw[Bz.ia ()];exact t.rest sol hN () hu
  refine bx (λzs ρ' M'=>M'=M/\∃(rest:List (List Int)) (o:Option Dt),zs=rest.map cw/\(∀l∈rest,u < l.length/\l.getD u 0=0)/\ρ'=[some (jW γ),some (.int (u:Int)),some (.tup [jW (Bz.ah (Bz.arr γ) γ.length (u+1) W),.lst (ν.map nZ)]),some (jW (Bz.ah (Bz.arr γ) γ.length (u+1) W)),some (.lst (ν.map nZ)),o,none]) (λzs ρ' M' hj=>trivial) (λx zs ρ' M' hj fW=>?_) (λρ' M' hj=>?_) _ _ _ ⟨rfl,_,none,rfl,hz,rfl⟩
  ·have⟨rfl,rest,o,ex,fZ,rfl⟩:=hj;cases rest with
   | nil=>cases ex
   | cons l rest=>
    cases ex;have⟨l1,l2⟩:=fZ l aae;have lv:l[u]=0:=by rw[aab,aaa l1]at l2;exact l2
    walk_at "vc";refine(Ι (d:=cw l) rfl (hX l1) ?_:fm (cw l) (.int (u:Int)) _ _);rw[lv];exact⟨λz=>(nomatch z),λ_=>fW _ _ ⟨rfl,rest,_,rfl,λy hy=>fZ y (aad _ hy),rfl⟩⟩
  ·have⟨rfl,rest,o,ex,fZ,rfl⟩:=hj;refine⟨γ,u,B,ρ,ν,qq,d,W,rfl,ro,t,Et,?_⟩;rw[told];walk_at "vc";refine(az (d:=.lst (ν.map nZ)) (xs:=ν.map nZ) rfl ?_:gw [.lst (ν.map nZ)] _ _);rw[ZZ];refine⟨λz=>?_,λ_=>h⟩;have z:(u:Int) < u:=aaA z;omega
def Je(cs ns:List Fr):qE (cs.map Ξ) (ns.map Ξ)=(cs.zip ns).map λp=>.tup [Ξ p.1,Ξ p.2]:=by unfold qE;rw[List.zip_map,aaK];rfl
structure Ch(B:Int)(c:Fr):Prop where
 pos:0 < c.2
 he:h7 c B
 u:gM c
 sz:Sz 300 c
def sv{E B C:Int}(b0:0 < B)(e0:0 < E)(be:B * E < 2 ^ 2200)(c0:0<=C)(c1:C < 2 ^ 300):∀(ps:List (Fr×Fr)) (w:Fr) (j:Nat),j+ps.length<=6->Nb (B * E) (j * C) w->(∀p∈ps,Ch B p.1/\Nb E C p.2)->Nb (B * E) ((j+ps.length:Nat) * C) (ps.foldl (λw p=>gf w (ba p.1 p.2)) w)
 | [],w,j,_,hw,_=>hw
 | p::ps,w,j,hj,hw,h=>by
  rw[aay]at hj;have⟨h1,h2⟩:=h p aae;have jc:((j:Int)+1) * C=j * C+C:=by rw[Int.add_mul,Int.one_mul]
  have jm:((j:Int)+1) * C<=6 * C:=aaN () c0;have j0:0<=(j:Int) * C:=abi () c0;have ht:=zX h1.pos h1.he h1.u h2 ⟨aa2 b0 e0,be,c0,acu c1 @_⟩;have hp:=Nz hw ht ⟨aa2 b0 e0,be,(),()⟩;rw[<-jc]at hp;have:=sv b0 e0 be c0 c1 ps _ (j+1) () (by exact_mod_cast hp) (λq hq=>h q (aad _ hq));rw[abI,aay,show j+(ps.length+1)=j+1+ps.length by omega];exact this
def rM:DF:=λas M q _=>∃(cs ns:List Fr) (E B C:Int),as=[.lst (cs.map Ξ),.lst (ns.map Ξ)]/\cs.length<=6/\0 < B/\0 < E/\B * E < 2 ^ 2200/\0<=C/\C < 2 ^ 300/\(∀c∈cs,Ch B c)/\(∀n∈ns,Nb E C n)/\q (Ξ (iy (cs.zip ns))) M
def iQ:Ε ["chances","numbers","whole","chance","number"] ["chances","numbers"] (τ sP):=.of rfl
def Dc(F:cX K "weighed" "weighed" sP f fd)(E:Ev K mg w Cm){J9:Addr}{Ik:FuncData}(oX:aB P w K mg base 3 "plus" ["one","other"] Ks J9 Ik)(gB:aB P w K mg base 3 "times" ["one","other"] x5 uw tH):av P w K mg base (bY P w) 4 f fd ["chances","numbers"] (cK K rM):=by
 refine F.dE iQ (λds M q x h=>?_) (λaX A outer s H E' hr=>⟨_,(η (Γ 2 iQ.nd (fR (ι ψ (ι ψ θ eE) eE)))
   (η (cC (BB E.vn (Τ (jv 0) (Τ (jv 1) θ))) (qa rfl (cR (au (i:=3) iQ.nd rfl (Or.inl rfl)) (cR (au (i:=4) iQ.nd rfl (Or.inl rfl)) lC))) oO (μ (Γ 2 iQ.nd (ao oX hr ξ (Τ (jv 2) (ι (ao gB hr ξ (Τ (jv 3) (Τ (jv 4) θ))) θ aS))))))
   (μ (Ζ (jv 2))))),λds M q x h=>?_⟩)
 ·have⟨cs,ns,E,B,C,rfl,_⟩:=h;rfl
 ·have⟨cs,ns,Ep,B,C,rfl,hz,b0,e0,be,c0,c1,hc,hn,h⟩:=h;refine⟨gV,?_⟩;refine⟨.lst (cs.map Ξ),.lst (ns.map Ξ),cs.map Ξ,ns.map Ξ,λ_=>True,λ_=>True,rfl,rfl,rfl,?_⟩;rw[Je];refine bx (λxs ρ M'=>M'=M/\∃(rest:List (Fr×Fr)) (w:Fr) (a b:Option Dt) (j:Nat),xs=rest.map (λp=>.tup [Ξ p.1,Ξ p.2])/\(∀p∈rest,Ch B p.1/\Nb Ep C p.2)/\Nb (B * Ep) (j * C) w/\j+rest.length<=6/\rest.foldl (λw p=>gf w (ba p.1 p.2)) w=iy (cs.zip ns)/\ρ=[some (.lst (cs.map Ξ)),some (.lst (ns.map Ξ)),some (Ξ w),a,b]) (λxs ρ M' hj=>⟨trivial,trivial⟩) (λx xs ρ M' hj fW=>?_) (λρ M' hj=>?_) _ _ _ ⟨rfl,cs.zip ns,(0,1),none,none,0,rfl,λp hp=>⟨hc _ (abH hp).1,hn _ (abH hp).2⟩,by rw[Int.natCast_zero,Int.zero_mul];exact Uz,?_,rfl,rfl⟩
  ·have⟨rfl,rest,w,a,b,j,ex,yN,hw,hj,hf,rfl⟩:=hj;cases rest with
   | nil=>cases ex
   | cons p rest=>
    cases ex;have⟨h1,h2⟩:=yN p aae;rw[aay]at hj;have ht:=zX h1.pos h1.he h1.u h2 ⟨aa2 b0 e0,be,c0,acu c1 @_⟩;refine⟨p.1,p.2,300,2600,rfl,h1.sz,h2.sz,@_,w,ba p.1 p.2,2600,2600,rfl,hw.sz,ht.sz,@_,?_⟩;refine fW _ _ ⟨rfl,rest,_,_,_,j+1,rfl,λp hp=>yN p (aad _ hp),?_,(),hf,rfl⟩;exact sv b0 e0 be c0 c1 [p] w j (by simp;omega) hw (λq hq=>by rw[List.mem_singleton.mp hq];exact⟨h1,h2⟩)
  ·have⟨rfl,rest,w,a,b,j,ex,yN,hw,hj,hf,rfl⟩:=hj;cases rest with
   | nil=>rw[<-hf]at h;exact h
   | cons p rest=>cases ex
  ·rw[abB];omega
def qB:List Int->Int
 | []=>1
 | a::l=>a * qB l
def sJ:∀{l:List Int},(∀a∈l,0 < a)->0 < qB l
 | [],_=>@_
 | a::l,h=>aa2 (h a aae) (sJ λb hb=>h b (aad _ hb))
def E_:∀{l:List Int},(∀a∈l,0 < a/\a<=1000000)->qB l<=1000000 ^ l.length
 | [],_=>@_
 | a::l,h=>by have i:=E_ λb hb=>h b (aad _ hb);have p:=sJ (l:=l) λb hb=>(h b (aad _ hb)).1;have h0:=h a aae;show a * qB l<=_;rw[aay,abU,aa7 a];exact abG i h0.2 (aaj h0.1) (abV @_)
def zb:∀{l:List Int} {a:Int},a∈l->a∣qB l
 | b::l,a,h=>by
  rcases aaC.mp h with e| e
  ·rw[e];exact⟨qB l,rfl⟩
  ·have⟨c,hc⟩:=zb e;exact⟨b * c,by show b * qB l=_;rw[hc];grind⟩
def z_{p:Fr}(h:p.2∣E):h7 p E:=by have⟨k,e⟩:=h;exact⟨p.1 * k,by rw[e];grind⟩
def sW:∀{l:List Int} {a:Int},(∀b∈l,0 < b)->a∈l->a<=l.sum
 | b::l,a,h,ha=>by
  have ih:∀{l:List Int},(∀b∈l,0 < b)->0<=l.sum:=λ{l}=>by
   induction l with
   | nil=>intro _;exact Int.le_refl _
   | cons c l ih=>
    intro h;have:=ih λd hd=>h d (aad _ hd);have:=h c aae;rw[List.sum_cons];omega
  rw[List.sum_cons];have h0:=h b aae;rcases aaC.mp ha with e| e
  ·have:=ih λd hd=>h d (aad _ hd);omega
  ·have:=sW (λd hd=>h d (aad _ hd)) e;omega
def ME{cs:List Fr}(o:Ir cs){c:Fr}(hc:c∈cs):0 < c.2/\c.2∣bN cs/\gM c/\Sz 300 c:=by
 have⟨a,b,d⟩:=o.Lu.2 c hc;have B0:=o.b0;have⟨_,_,hB⟩:=i0 cs 1 0 @_ (acL _) λc hc=>⟨(o.Lu.2 c hc).1,acL _⟩;have dv:c.2∣bN cs:=hB c hc
 have le:=sW (l:=cs.map (mH (bN cs))) (λb hb=>by
  have⟨x,hx,rfl⟩:=aah.mp hb
  exact o.pos x hx) (aah.mpr ⟨c,hc,rfl⟩)
 rw[o.sum]at le;have wp:=o.pos c hc;unfold mH at le wp;have⟨m,em⟩:=dv;have em':bN cs / c.2=m:=by rw[em];exact abx m ()
 rw[em']at le wp;have m0:0 < m:=by
  rw[em]at B0;rcases acr 0 m with z| z
  ·exact z
  ·have:=aaq z (aaj a);omega
 have c0:0<=c.1:=by
  rcases acr c.1 0 with z| z
  ·have:=aaN (aaj z) (aaj m0);omega
  ·exact z
 have c1:c.1<=c.2:=by rw[em]at le;exact Int.le_of_mul_le_mul_right le m0
 refine⟨a,⟨m,em⟩,⟨c0,c1⟩,qZ (k:=200) ⟨d,a,?_⟩ @_⟩;have:(c.2.natAbs:Int) < ((2 ^ 200:Nat):Int):=by rw[abl (aaj a)];exact b
 exact abO.mp this
abbrev Pl:=List (Int×Int)
def kP(pl:Pl):List Key:=pl.map λp=>Sum.inl p.1
def vP(pl:Pl):List Dt:=pl.map λp=>Dt.int p.2
abbrev dP(pl:Pl):MO:=.eW (kP pl) (vP pl)
def Λ:Pl->Int->Option Int
 | [],_=>none
 | p::r,i=>if p.1=i then some p.2 else Λ r i
def gR(pl:Pl)(i v:Int):Pl:=if (Λ pl i).isSome=true then pl.map (λp=>if p.1=i then (p.1,v) else p) else pl++[(i,v)]
def HM{a:Int}:(decide ((Sum.inl a:Key)=Sum.inl b))=decide (a=b):=by
 by_cases h:a=b
 ·rw[aaB h,aaB (aaX Sum.inl h)]
 ·rw[aaG h,aaG λz=>h (Sum.inl.inj z)]
def zE{i:Int}:∀{pl:Pl},dw (kP pl) (vP pl) (Sum.inl i)=(Λ pl i).map Dt.int
 | []=>rfl
 | p::r=>by
  have ih:=zE (i:=i) (pl:=r);unfold dw at ih⊢;show(List.find? (λq:Key×Dt=>decide (q.1=Sum.inl i)) ((Sum.inl p.1,Dt.int p.2)::(kP r).zip (vP r))).map (·.2)=Option.map Dt.int (if p.1=i then some p.2 else Λ r i);rw[List.find?_cons,HM];by_cases h:p.1=i
  ·rw[aaB h,aaw h];rfl
  ·rw[aaG h,aav h];exact ih
def Nf{i:Int}:∀{pl:Pl},Jq (kP pl) (Sum.inl i)=(Λ pl i).isSome
 | []=>rfl
 | p::r=>by
  have ih:=Nf (i:=i) (pl:=r);unfold Jq at ih⊢;show(decide ((Sum.inl p.1:Key)=Sum.inl i)|| (kP r).any λc=>decide (c=Sum.inl i))=(if p.1=i then some p.2 else Λ r i).isSome;rw[HM,ih];by_cases h:p.1=i
  ·rw[aaB h,aaw h];rfl
  ·rw[aaG h,aav h,Bool.false_or]
def Ef{i v:Int}:∀{pl:Pl},me (Sum.inl i:Key) (Dt.int v) (kP pl) (vP pl)=vP (pl.map λp=>if p.1=i then (p.1,v) else p)
 | []=>rfl
 | p::r=>by
  show(if (Sum.inl p.1:Key)=Sum.inl i then Dt.int v else Dt.int p.2)::me (Sum.inl i:Key) (Dt.int v) (kP r) (vP r)=Dt.int (if p.1=i then (p.1,v) else p).2::vP (r.map λp=>if p.1=i then (p.1,v) else p);rw[Ef];by_cases h:p.1=i
  ·rw[aaw h,aaw (aaX Sum.inl h)]
  ·rw[aav h,aav λz=>h (Sum.inl.inj z)]
def Bb{i v:Int}:∀{pl:Pl},kP (pl.map λp=>if p.1=i then (p.1,v) else p)=kP pl
 | []=>rfl
 | p::r=>by show(Sum.inl (if p.1=i then (p.1,v) else p).1:Key)::kP (r.map λp=>if p.1=i then (p.1,v) else p)=Sum.inl p.1::kP r;rw[Bb];split <;> rfl
def vC{pl:Pl}{i v:Int}:gm (kP pl) (Sum.inl i)=kP (gR pl i v):=by
 unfold gm gR;rw[Nf];split
 ·exact Bb.symm
 ·unfold kP;rw[List.map_append];rfl
def zL{pl:Pl}{i v:Int}:eL (kP pl) (Sum.inl i) (vP pl) (Dt.int v)=vP (gR pl i v):=by
 unfold eL gR;rw[Nf];split
 ·exact Ef
 ·unfold vP;rw[List.map_append];rfl
def rB{i v j:Int}:∀{pl:Pl},Λ (pl.map λp=>if p.1=i then (p.1,v) else p) j=if j=i then (Λ pl j).map λ_=>v else Λ pl j
 | []=>by split <;> rfl
 | p::r=>by
  have ih:=rB (i:=i) (v:=v) (j:=j) (pl:=r);rw[aaM];unfold Λ;by_cases h:p.1=i
  ·rw[aaw h];by_cases hj:p.1=j
   ·rw[aaw hj,aaw hj,aaw ()];rfl
   ·rw[aav hj,aav hj];exact ih
  ·rw[aav h];by_cases hj:p.1=j
   ·rw[aaw hj,aaw hj,aav ()]
   ·rw[aav hj,aav hj];exact ih
def Fc{i j v:Int}:∀{pl:Pl},Λ (pl++[(i,v)]) j=if (Λ pl j).isSome=true then Λ pl j else if i=j then some v else none
 | []=>rfl
 | p::r=>by
  have ih:=Fc (i:=i) (j:=j) (v:=v) (pl:=r);rw[List.cons_append];unfold Λ;by_cases hj:p.1=j
  ·rw[aaw hj,aaw hj];rfl
  ·rw[aav hj,aav hj];exact ih
def D7{pl:Pl}{i v j:Int}:Λ (gR pl i v) j=if j=i then some v else Λ pl j:=by
 unfold gR;split
 ·rename_i h;rw[rB];split
  ·rename_i e;subst e;have⟨x,hx⟩:=abm.mp h;rw[hx];rfl
  ·rfl
 ·rename_i h;rw[Fc];by_cases e:j=i
  ·subst e;rw[aav h,aaw rfl,aaw rfl]
  ·rw[aav e];cases hj:Λ pl j with
   | none=>rw[if_neg (by simp),if_neg ()]
   | some x=>rfl
def Dh(pl:Pl):Prop:=(pl.map (·.1)).Nodup
def Fe{i v:Int}:∀{pl:Pl},Λ pl i=some v->(i,v)∈pl
 | [],h=>by cases h
 | p::r,h=>by
  unfold Λ at h;split at h
  ·rename_i e;have:p=(i,v):=by rw[<-e,<-aax h]
   rw[this];exact aae
  ·exact aad _ (Fe h)
structure Vx(M:Ms)(k:Nat)(p1 p2:Pl):Prop where
 ex:∃k1 k2,M[k]? =some (.eW [Sum.inr "one",Sum.inr "other"] [.loc k1,.loc k2])/\M[k1]? =some (dP p1)/\M[k2]? =some (dP p2)
def bc{E:Ms}{k:Nat}{m:MO}(h:M[k]? =some m):(M++E)[k]? =some m:=by rw[aat (aaf.mp h).1];exact h
def eh(pl:Pl)(i:Nat)(n:Nat):Bool:=match Λ pl i with
 | some v=>decide (0<=v)&&decide (v < n)
 | none=>false
def ai(p1 p2:Pl)(k:Str):Option Pl:=if k="one" then some p1 else if k="other" then some p2 else none
def jU(pf:Str->Option Pl)(i:Nat)(r:Rw):Bool:=match pf (kindOf r) with
 | some pl=>eh pl i (Κ r).length
 | none=>true
def fg(γ:List Rw)(pf:Str->Option Pl)(i:Nat):Bool:=match γ[i]? with
 | some r=>jU pf i r
 | none=>true
def cT(γ:List Rw)(pf:Str->Option Pl):Nat->Pl
 | 0=>[]
 | n+1=>match (γ[n]?).bind λr=>pf (kindOf r) with
  | some pl=>gR (cT γ pf n) n ((Λ pl n).getD 0)
  | none=>cT γ pf n
def x6(γ:List Rw)(pf:Str->Option Pl):∀n,(cT γ pf n).length<=n
 | 0=>aai _
 | n+1=>by
  have ih:=x6 γ pf n;unfold cT;split
  ·unfold gR;split
   ·rw[aac];omega
   ·rw[aag];exact Nat.succ_le_succ ih
  ·omega
def ju(γ:List Rw)(pf:Str->Option Pl):∀(n i:Nat),Λ (cT γ pf n) i=if i < n then ((γ[i]?).bind λr=>pf (kindOf r)).map λpl=>(Λ pl i).getD 0 else none
 | 0,i=>by rw[aav (abJ _)];rfl
 | n+1,i=>by
  have ih:=ju γ pf n i;have step:Λ (cT γ pf (n+1)) i=if i=n then (match (γ[n]?).bind λr=>pf (kindOf r) with| some pl=>some ((Λ pl n).getD 0)| none=>Λ (cT γ pf n) i) else Λ (cT γ pf n) i:=by
   rw[cT];cases hb:(γ[n]?).bind λr=>pf (kindOf r) with
   | none=>dsimp only;split <;> rfl
   | some pl=>
    dsimp only;rw[D7];by_cases e:i=n
    ·rw[aaw e,aaw ()]
    ·rw[aav e,aav ()]
  rw[step,ih];by_cases e:i=n
  ·subst e;rw[aaw rfl,aav (abq _),aaw (abv _)];cases(γ[i]?).bind λr=>pf (kindOf r) with
   | none=>rfl
   | some pl=>rfl
  ·rw[aav e];by_cases h:i < n
   ·rw[aaw h,aaw ()]
   ·rw[aav h,aav ()]
def Nx(k:Str):Jq [Sum.inr "one",Sum.inr "other"] (Sum.inr k)=Β k:=by
 have e:∀z:Str,decide ((Sum.inr z:Key)=Sum.inr k)=(k==z):=λz=>by
  by_cases h:z=k
  ·rw[decide_eq_true (congrArg Sum.inr h),h];simp
  ·rw[decide_eq_false λy=>h (Sum.inr.inj y)];simp;exactλy=>h y.symm
 show(decide ((Sum.inr (Str.ofString "one"):Key)=Sum.inr k)|| (decide ((Sum.inr (Str.ofString "other"):Key)=Sum.inr k)|| false))=Β k;rw[e,e,Bool.or_false];rfl
def oK{p1 p2:Pl}{k:Str}(h:Β k=false):ai p1 p2 k=none:=by unfold Β at h;rw[Bool.or_eq_false_iff,beq_eq_false_iff_ne,beq_eq_false_iff_ne]at h;unfold ai;rw[aav h.1,aav h.2]
def EX{k:Nat}{p1 p2:Pl}(h:Vx M k p1 p2){z:Str}(hz:Β z=true):∃ks ds k' pl,M[k]? =some (.eW ks ds)/\dw ks ds (Sum.inr z)=some (.loc k')/\ai p1 p2 z=some pl/\M[k']? =some (dP pl):=by
 have⟨k1,k2,a,b,c⟩:=h;unfold Β at hz;rw[acE,abw,abw]at hz;rcases hz with rfl| rfl
 ·exact⟨_,_,k1,p1,a,rfl,rfl,b⟩
 ·exact⟨_,_,k2,p2,a,rfl,rfl,c⟩
def QT(M:Ms)(k:Nat)(pf:Str->Option Pl):Prop:=∃ks ds,M[k]? =some (.eW ks ds)/\∀z:Str,Jq ks (Sum.inr z)=(pf z).isSome/\∀pl,pf z=some pl->∃k',dw ks ds (Sum.inr z)=some (.loc k')/\M[k']? =some (dP pl)
def QT.app{E:Ms}{k:Nat}{pf:Str->Option Pl}(h:QT M k pf):QT (M++E) k pf:=by have⟨ks,ds,a,b⟩:=h;refine⟨ks,ds,bc a,λz=>⟨(b z).1,λpl e=>?_⟩⟩;have⟨k',c,d⟩:=(b z).2 pl e;exact⟨k',c,bc d⟩
def Vx.pls{k:Nat}{p1 p2:Pl}(h:Vx M k p1 p2):QT M k (ai p1 p2):=by
 have⟨k1,k2,a,b,c⟩:=id h;refine⟨_,_,a,λz=>⟨?_,λpl e=>?_⟩⟩
 ·rw[Nx];cases hz:Β z with
  | false=>rw[oK hz];rfl
  | true=>
   have⟨_,_,_,_,_,_,g3,_⟩:=EX h hz;rw[g3];rfl
 ·cases hz:Β z with
  | false=>rw[oK hz]at e;cases e
  | true=>
   have⟨ks,ds,k',yQ,g1,g2,g3,g4⟩:=EX h hz;rw[a]at g1;cases g1;rw[g3]at e;cases e;exact⟨k',g2,g4⟩
def S6(A:Addr):DF:=λas M q _=>∃ε γ i r k pl,as=[aD A ε γ,.loc k,.int (i:Nat)]/\M[k]? =some (dP pl)/\γ[i]? =some r/\gc r/\q (.bl (eh pl i (Κ r).length)) M
def G8:Ε ["floor","plan","place"] ["floor","plan","place"] (τ sO):=.of rfl
def Co(F:cX K "has_door" "has_door" sO f fd)(E:Ev K mg w Cm)(aL:da P w K mg base 2 Cm "doors" ["self","place"] (sx Cm) c8 c_):av P w K mg base (bY P w) 3 f fd ["floor","plan","place"] (cK K (S6 Cm)):=by
 refine F.dE G8 (λds M q x h=>?_) (λaX A outer s H E' hr=>⟨_,(μ (Ζ (gY (U9 hr (jv 2) (jv 1)) (gY (Ac ψ (pI hr (jv 1) (jv 2))) (kB (I_ (pI hr (jv 1) (jv 2)) (cQ E.bJ (ι (bK (bX aL hr ξ (jv 0) (Τ (jv 2) θ))) θ aS)))))))),λds M q x h=>?_⟩)
 ·have⟨ε,γ,i,r,k,pl,rfl,_⟩:=h;rfl
 ·have⟨ε,γ,i,r,k,pl,rfl,hk,hi,ro,h⟩:=h;unfold eh at h;have gi:(Sum.inl (i:Int):Key)=Sum.inl ((i:Nat):Int):=rfl;refine⟨k,_,_,Sum.inl (i:Int),rfl,hk,rfl,?_⟩;rw[Nf];cases hg:Λ pl i with
  | none=>
   rw[hg]at h;exact⟨λz=>(nomatch z),λ_=>h⟩
  | some v=>
   rw[hg]at h;have h:q (.bl (decide (0<=v)&&decide (v < ((Κ r).length:Int)))) M:=h;have dg:dw (kP pl) (vP pl) (Sum.inl (i:Int))=some (.int v):=by rw[zE,hg];rfl
   refine⟨λ_=>?_,λz=>(nomatch z)⟩;refine⟨k,_,_,Sum.inl (i:Int),_,rfl,hk,rfl,dg,?_⟩;refine⟨λz=>?_,λz=>?_⟩
   ·have z:0<=v:=aaA z;rw[aaB z,Bool.true_and]at h;refine⟨k,_,_,Sum.inl (i:Int),_,rfl,hk,rfl,dg,?_⟩;refine⟨⟨_,_,.inl rfl,rfl⟩,ε,γ,i,r,rfl,hi,ro,cf (ik _) ?_⟩;walk_at "vc";refine(az (d:=.lst ((Κ r).map fe)) (xs:=(Κ r).map fe) rfl ?_:gw [.lst ((Κ r).map fe)] _ _);rw[aac];exact h
   ·have z:¬0<=v:=abd z;rw[aaG z,Bool.false_and]at h;have key:decide (0<=v)=false:=aaG z;exact h
def tK(A:Addr):DF:=λas M q _=>∃ε γ k pf,as=[aD A ε γ,.loc k]/\QT M k pf/\Rp ε γ/\(∀i,i < γ.length->fg γ pf i=true)/\q (.loc M.length) (M++[dP (cT γ pf γ.length)])
def lF:Ε ["floor","plans","doors","place","hand"] ["floor","plans"] (τ rY):=.of rfl
def BQ(F:cX K "doors_of" "doors_of" rY f fd)(E:Ev K mg w Cm)(aZ:da P w K mg base 1 Cm "size" ["self"] (zY Cm) dZ eD)(Ρ:da P w K mg base 1 Cm "kind" ["self","place"] (oo Cm) aM aN){Jd:Addr}{Ju:FuncData}(oP:aB P w K mg base 3 "has_door" ["floor","plan","place"] (S6 Cm) Jd Ju):av P w K mg base (bY P w) 4 f fd ["floor","plans"] (cK K (tK Cm)):=by
 refine F.dE lF (λds M q x h=>?_) (λaX A outer s H E' hr=>⟨_,(η (Γ 2 lF.nd wz)
   (η (hJ (b_ E.bR (ι (lM aZ hr ξ (jv 0)) θ aS)) (au (i:=3) lF.nd rfl (Or.inl rfl)) aG (η (Γ 4 lF.nd (bX Ρ hr ξ (jv 0) (Τ (jv 3) θ)))
   (η (aI (Ga hr (jv 4) (jv 1)) (μ qA) Υ)
   (η (aI (hV (bL (ao oP hr ξ (Τ (jv 0) (ι (pI hr (jv 1) (jv 4)) (Τ (jv 3) θ) aU))))) (μ fQ) Υ)
   (μ (qW hr (jv 2) (jv 3) (pI hr (pI hr (jv 1) (jv 4)) (jv 3))))))))
   (μ (Ζ (jv 2))))),λds M q x h=>?_⟩)
 ·have⟨ε,γ,k,pf,rfl,_⟩:=h;rfl
 ·have⟨ε,γ,k,pf,rfl,tw,pl,gd0,hg⟩:=h;have lY:=pl.len;have km:k≠M.length:=λe=>by have⟨ks,ds,a,_⟩:=tw;rw[e,abT (aai _)]at a;cases a
  walk_at "vc";refine⟨⟨_,_,.inl rfl,rfl⟩,ε,γ,rfl,?_⟩;refine⟨(),?_⟩;rw[show((γ.length:Int)).toNat=γ.length by omega];refine cN (λzs ρ' M'=>∃(i m:Nat) (o3 o4:Option Dt),zs=dN (i:Int) m/\i+m=γ.length/\M'=M++[dP (cT γ pf i)]/\ρ'=[some (aD Cm ε γ),some (.loc k),some (.loc M.length),o3,o4]) (λx zs ρ' M' hj fW=>?_) (λρ' M' hj=>?_) _ _ _ ⟨0,γ.length,none,none,rfl,(),rfl,rfl⟩
  ·have⟨i,m,o3,o4,ex,im,rfl,rfl⟩:=hj;have⟨m',rfl,rfl,rfl⟩:=cv ex;have il:i < γ.length:=()
   have hi:γ[i]? =some γ[i]:=aaa il;generalize hr0:γ[i]=r at *
   have rm:r∈γ:=aam hi;have ro:=(pl.row r rm).1;have ga:fg γ pf i=jU pf i r:=by unfold fg;rw[hi]
   have ac:∀yQ,pf (kindOf r)=some yQ->cT γ pf (i+1)=gR (cT γ pf i) i ((Λ yQ i).getD 0):=λyQ e=>by rw[cT,hi];show(match pf (kindOf r) with| some pl=>_| none=>_)=_;rw[e]
   have an:pf (kindOf r)=none->cT γ pf (i+1)=cT γ pf i:=λe=>by rw[cT,hi];show(match pf (kindOf r) with| some pl=>_| none=>_)=_;rw[e]
   have⟨ks,ds,ca,cb⟩:=(tw.app:QT (M++[dP (cT γ pf i)]) k pf);refine⟨⟨_,_,.inl rfl,rfl⟩,ε,γ,i,r,rfl,hi,?_⟩;refine⟨k,_,_,Sum.inr (kindOf r),rfl,ca,rfl,?_⟩;rw[(cb (kindOf r)).1];cases hh:pf (kindOf r) with
   | none=>
    refine⟨λ_=>?_,λz=>(nomatch z)⟩;have e:=hh;refine fW _ _ ⟨i+1,m',_,_,by rw[abu];rfl,(),by rw[an e],rfl⟩
   | some yQ=>
    refine⟨λz=>(nomatch z),λ_=>?_⟩;have⟨k',g2,g4⟩:=(cb (kindOf r)).2 yQ hh;have g1:=ca;have g3:=hh;refine⟨k,ks,ds,Sum.inr (kindOf r),_,rfl,g1,rfl,g2,?_⟩;have gr:jU pf i r=eh yQ i (Κ r).length:=by unfold jU;rw[g3]
    refine⟨ε,γ,i,r,k',yQ,rfl,g4,hi,ro,λz=>?_,λz=>?_⟩
    ·have z:eh yQ i (Κ r).length=false:=by simpa using z
     have:=gd0 i il;rw[ga,gr,z]at this;cases this
    ·have z:eh yQ i (Κ r).length=true:=by simpa using z
     obtain⟨v,hv⟩:∃v,Λ yQ i=some v:=by
      unfold eh at z;cases hv:Λ yQ i with
      | none=>rw[hv]at z;cases z
      | some v=>exact⟨v,rfl⟩
     have dg:dw (kP yQ) (vP yQ) (Sum.inl (i:Int))=some (.int v):=by rw[zE,hv];rfl
     dsimp only[xf,Oi];walk_at "vc";refine⟨k,ks,ds,Sum.inr (kindOf r),_,rfl,g1,rfl,g2,?_⟩;refine⟨k',_,_,Sum.inl (i:Int),_,rfl,g4,rfl,dg,?_⟩;refine⟨M.length,_,_,Sum.inl (i:Int),rfl,ax,rfl,?_,?_⟩
     ·unfold kP;rw[List.length_map];have:=x6 γ pf i;omega
     rw[vC (v:=v),zL,cY];have e:=ac yQ g3;rw[hv]at e;have e:cT γ pf (i+1)=gR (cT γ pf i) i v:=e;refine fW _ _ ⟨i+1,m',_,_,by rw[abu];rfl,(),by rw[e],rfl⟩
  ·have⟨i,m,o3,o4,ex,im,rfl,rfl⟩:=hj;have m0:m=0:=by have:=aaX List.length ex;rw[dU]at this;exact this.symm
   have:i=γ.length:=()
   subst this;exact hg
structure gL(γ:List Rw)(Η:Pl):Prop where
 hand:∀(i:Nat) (r:Rw),γ[i]? =some r->Β (kindOf r)=true->∃j:Nat,Λ Η i=some (j:Int)/\j < (Κ r).length
 Lq:∀(i:Nat) (r:Rw),γ[i]? =some r->Β (kindOf r)=false->Λ Η i=none
def tS{γ:List Rw}{p1 p2:Pl}(h:∀i,i < γ.length->fg γ (ai p1 p2) i=true):gL γ (cT γ (ai p1 p2) γ.length):=by
 refine⟨λi r hi hk=>?_,λi r hi hk=>?_⟩
 ·have il:=(aaf.mp hi).1;have g:=h i il;unfold fg at g;rw[hi]at g;have g:jU (ai p1 p2) i r=true:=g;obtain⟨pl,e⟩:∃pl,ai p1 p2 (kindOf r)=some pl:=by
   unfold Β at hk;rw[acE,abw,abw]at hk;rcases hk with e| e <;> rw[e]
   ·exact⟨p1,rfl⟩
   ·exact⟨p2,rfl⟩
  unfold jU at g;rw[e]at g;have g:eh pl i (Κ r).length=true:=g;unfold eh at g;cases hv:Λ pl i with
  | none=>rw[hv]at g;cases g
  | some v=>
   rw[hv]at g;have g:(decide (0<=v)&&decide (v < ((Κ r).length:Int)))=true:=g;rw[aaz,aao,aao]at g;refine⟨v.toNat,?_,()⟩;rw[ju,aaw il,hi];show Option.map (λpl=>(Λ pl i).getD 0) (ai p1 p2 (kindOf r))=_;rw[e];show some ((Λ pl i).getD 0)=_;rw[hv,aco g.1];rfl
 ·have il:=(aaf.mp hi).1;rw[ju,aaw il,hi];show Option.map (λpl=>(Λ pl i).getD 0) (ai p1 p2 (kindOf r))=_;rw[oK hk];rfl
def aK(Η:Pl)(i:Nat)(r:Rw):List cG:=match Λ Η i with
 | some j=>let d:=(Κ r).getD j.toNat d0;[(d.1,d.2.1,d.2.2++[(1,1)])]
 | none=>Κ r
def N5(A:Addr):DF:=λas M q _=>∃ε γ i r k Η,as=[aD A ε γ,.int (i:Nat),.loc k]/\M[k]? =some (dP Η)/\γ[i]? =some r/\gc r/\gL γ Η/\q (.lst ((aK Η i r).map fe)) M
def uu:Ε ["floor","place","doors","ways"] ["floor","place","doors"] (τ oR):=.of rfl
def zu(F:cX K "ways_from" "ways_from" oR f fd)(E:Ev K mg w Cm)(aL:da P w K mg base 2 Cm "doors" ["self","place"] (sx Cm) c8 c_)(Ρ:da P w K mg base 1 Cm "kind" ["self","place"] (oo Cm) aM aN):av P w K mg base (bY P w) 3 f fd ["floor","place","doors"] (cK K (N5 Cm)):=by
 refine F.dE uu (λds M q x h=>?_) (λaX A outer s H E' hr=>⟨_,(η (Γ 3 uu.nd (bK (bX aL hr ξ (jv 0) (Τ (jv 1) θ))))
   (η (aI (IK (bX Ρ hr ξ (jv 0) (Τ (jv 1) θ)) (K4 E.wK)) (μ (Ζ (ma (ι (cW (Μ (jv 3) (pI hr (jv 2) (jv 1))) (fM 3 (d:=.tup [.tup [.int 1,.int 1]]) (by rfl))) θ cj)))) Υ)
   (μ (Ζ (jv 3))))),λds M q x h=>?_⟩)
 ·have⟨ε,γ,i,r,k,Η,rfl,_⟩:=h;rfl
 ·have⟨ε,γ,i,r,k,Η,rfl,hk,hi,ro,dk,h⟩:=h;refine⟨⟨_,_,.inl rfl,rfl⟩,ε,γ,i,r,rfl,hi,ro,cf (ik _) ?_⟩;refine⟨⟨_,_,.inl rfl,rfl⟩,ε,γ,i,r,rfl,hi,?_⟩;refine⟨_,_,_,rfl,rfl,rfl,?_⟩;rw[ur];cases hh:Β (kindOf r) with
  | true=>
   refine⟨λ_=>?_,λz=>(nomatch z)⟩;have⟨j,hj,jl⟩:=dk.hand i r hi hh;have dg:dw (kP Η) (vP Η) (Sum.inl (i:Int))=some (.int (j:Int)):=by rw[zE,hj];rfl
   have e:aK Η i r=[(((Κ r).getD j d0).1,((Κ r).getD j d0).2.1,((Κ r).getD j d0).2.2++[(1,1)])]:=by unfold aK;rw[hj];rfl
   rw[e]at h;have gd:(Κ r).getD j d0=(Κ r)[j]:=by rw[aab,aaa jl];rfl
   have dm:(Κ r)[j].2.2.length<=1:=by
    cases r with
    | fin p=>exact aaJ jl (abJ _)
    | υ k' ds=>exact(ro.2.2.2 _ (aaF jl)).1
   rw[gd]at h;obtain⟨d,hd⟩:∃d,d=(Κ r)[j]:=⟨_,rfl⟩;rw[<-hd]at h dm;walk_at "vc";refine⟨k,_,_,Sum.inl (i:Int),_,rfl,hk,rfl,dg,?_⟩;refine(Ι (d:=.lst ((Κ r).map fe)) rfl (U1 jl) ?_:fm (.lst ((Κ r).map fe)) (.int (j:Int)) _ _);rw[<-hd];have sz:∀{z:Nat},z<=1000->z<=sizeLine:=λh=>aas h @_;refine⟨⟨λz=>(nomatch z),sz ?_⟩,sz @_,?_⟩
   ·simp;omega
   have e2:fe (d.1,d.2.1,d.2.2++[(1,1)])= .tup ((.int d.1::Ξ d.2.1::d.2.2.map Ξ)++[.tup [.int 1,.int 1]]):=by unfold fe;rw[List.map_append];rfl
   have h:q (.lst [fe (d.1,d.2.1,d.2.2++[(1,1)])]) M:=h;rw[e2]at h;exact h
  | false=>
   refine⟨λz=>(nomatch z),λ_=>?_⟩;have e:aK Η i r=Κ r:=by unfold aK;rw[dk.Lq i r hi hh]
   rw[e]at h;exact h
def dG(f:Nat->Rat):Nat->Rat
 | 0=>0
 | n+1=>dG f n+f n
def aY(f:cG->Rat):List cG->Rat
 | []=>0
 | d::ds=>f d+aY f ds
def d_{f g:Nat->Rat}:∀{n:Nat},(∀i,i < n->f i=g i)->dG f n=dG g n
 | 0,_=>rfl
 | n+1,h=>by show dG f n+f n=dG g n+g n;rw[d_ λi hi=>h i (abY hi),h n (abv _)]
def rX(a b:Rat)(f g:Nat->Rat):∀n,dG (λi=>a * f i - b * g i) n=a * dG f n - b * dG g n
 | 0=>by show(0:Rat)=a * 0 - b * 0;grind
 | n+1=>by show dG (λi=>a * f i - b * g i) n+(a * f n - b * g n)=a * (dG f n+f n) - b * (dG g n+g n);rw[rX a b f g n];grind
def AH{t:Nat}(y:Nat->Rat):∀{n:Nat},n<=t->dG (λx=>(if x=t then 1 else 0) * y x) n=0
 | 0,_=>rfl
 | n+1,h=>by show dG (λx=>(if x=t then 1 else 0) * y x) n+(if n=t then 1 else 0) * y n=0;rw[AH y (),if_neg ()];grind
def rH{t:Nat}(y:Nat->Rat):∀{n:Nat},t < n->dG (λx=>(if x=t then 1 else 0) * y x) n=y t
 | 0,h=>aaJ h (abJ _)
 | n+1,h=>by
  show dG (λx=>(if x=t then 1 else 0) * y x) n+(if n=t then 1 else 0) * y n=y t;by_cases e:n=t
  ·subst e;rw[AH y (Nat.le_refl _),if_pos rfl];grind
  ·rw[rH y (),if_neg e];grind
def pY(f:Nat->Int):∀n,((Bz.Δ f n:Int):Rat)=dG (λi=>(f i:Rat)) n
 | 0=>rfl
 | n+1=>by show((Bz.Δ f n+f n:Int):Rat)=dG (λi=>(f i:Rat)) n+f n;rw[Rat.intCast_add,pY f n]
def ab(q:Rat):Rat:=if q < 0 then -q else q
def lX{x m:Rat}:ab x<=m↔ -m<=x/\x<=m:=by unfold ab;split <;> grind
def Rt(x:Rat):0<=ab x:=by unfold ab;split <;> grind
def J6(x:Nat->Rat):∀n,∃i,i < n+1/\∀j,j < n+1->ab (x j)<=ab (x i)
 | 0=>⟨0,(),λj hj=>by rw[show j=0 by omega];grind⟩
 | n+1=>by
  have⟨i,hi,h⟩:=J6 x n;by_cases c:ab (x i)<=ab (x (n+1))
  ·refine⟨n+1,(),λj hj=>?_⟩;by_cases e:j=n+1
   ·subst e;grind
   ·have:=h j ();grind
  ·refine⟨i,(),λj hj=>?_⟩;by_cases e:j=n+1
   ·subst e;grind
   ·exact h j ()
def Li{x:Nat->Rat}{s c:Rat}(s1:s < 1)(h:∀i,i < n->∀m,(∀j,j < n->ab (x j)<=m)->ab (x i)<=c+s * m):∀i,i < n->ab (x i) * (1 - s)<=c:=λi hi=>by obtain⟨k,rfl⟩:∃k,n=k+1:=⟨n - 1,()⟩;have⟨t,ht,UG⟩:=J6 x k;have h1:=h t ht _ UG;have h2:=UG i hi;have:=Rat.mul_le_mul_of_nonneg_right h2 (show 0<=1 - s by grind);grind
def ng{f g:cG->Rat}:∀{ds:List cG},(∀d∈ds,f d=g d)->aY f ds=aY g ds
 | [],_=>rfl
 | d::ds,h=>by show f d+aY f ds=g d+aY g ds;rw[h d aae,ng λx hx=>h x (aad _ hx)]
def sL(f g:cG->Rat):∀ds:List cG,aY (λd=>f d - g d) ds=aY f ds - aY g ds
 | []=>by show(0:Rat)=0 - 0;grind
 | d::ds=>by show(f d - g d)+aY (λd=>f d - g d) ds=(f d+aY f ds) - (g d+aY g ds);rw[sL f g ds];grind
abbrev cV(d:cG):Rat:=val (ω d)
structure BA(n:Nat)(aa:List cG):Prop where
 to:∀d∈aa,0<=d.1/\d.1 < n
 c0:∀d∈aa,0<=cV d
 one:aY cV aa<=1
def El{n:Nat}{y:Nat->Rat}{m:Rat}(hm:∀j,j < n->ab (y j)<=m):∀{aa:List cG},(∀d∈aa,0<=d.1/\d.1 < n)->(∀d∈aa,0<=cV d)->ab (aY (λd=>cV d * y d.1.toNat) aa)<=aY cV aa * m
 | [],_,_=>by show ab 0<=0 * m;unfold ab;rw[if_neg (by grind)];grind
 | d::aa,h1,h2=>by have i:=El hm (λx hx=>h1 x (aad _ hx)) (λx hx=>h2 x (aad _ hx));have⟨a,b⟩:=h1 d aae;have c:=h2 d aae;have y1:=lX.mp (hm d.1.toNat ());show ab (cV d * y d.1.toNat+aY (λd=>cV d * y d.1.toNat) aa)<=(cV d+aY cV aa) * m;have e1:=aa3 y1.1 c;have e2:=aa3 y1.2 c;have i:=lX.mp i;refine lX.mpr ⟨?_,?_⟩ <;> grind
def Dy{aa:List cG}(w:BA n aa)(n0:0 < n){y:Nat->Rat}{m:Rat}(hm:∀j,j < n->ab (y j)<=m):ab (aY (λd=>cV d * y d.1.toNat) aa)<=m:=by
 have:=El hm w.to w.c0;have m0:0<=m:=by have:=hm 0 n0;have:=Rt (y 0);grind
 have:=abK w.one m0;grind
def Kx{c:Fr}(h:0 < c.2)(hd:c.2∣B):((mH B c:Int):Rat)=val c * B:=by
 have⟨k,rfl⟩:=hd;unfold mH val;rw[abx _ (),aaR,aaR];have:=bq (show c.2≠0 by omega);generalize (c.1:Rat)=a at *
 generalize (c.2:Rat)=b at *
 generalize (k:Rat)=e at *
 grind
def Jw{B:Int}:∀{ds:List cG},(∀d∈ds,0 < (ω d).2/\(ω d).2∣B)->((((ds.map ω).map (mH B)).sum:Int):Rat)=aY cV ds * B
 | [],_=>by show((0:Int):Rat)=0 * B;grind
 | d::ds,h=>by have i:=Jw (ds:=ds) λx hx=>h x (aad _ hx);have⟨a,b⟩:=h d aae;show(((mH B (ω d)+((ds.map ω).map (mH B)).sum:Int)):Rat)=(cV d+aY cV ds) * B;rw[Rat.intCast_add,i,Kx a b];grind
def se{c:Fr}(h:0 < c.2)(h0:0<=c.1):0<=val c:=by
 have e:val c * (c.2:Rat)=c.1:=by
  have:=bq (show c.2≠0 by omega);unfold val;generalize (c.1:Rat)=x at *
  generalize (c.2:Rat)=y at *
  grind
 have p:(0:Rat) < (c.2:Rat):=abE.mpr h;have q:(0:Rat)<=(c.1:Rat):=abc.mpr h0;by_cases z:0<=val c
 ·exact z
 ·have:=Rat.mul_pos (show 0 < -val c by grind) p;grind
def MK{ds:List cG}(o:Ir (ds.map ω)):aY cV ds=1/\∀d∈ds,0<=cV d:=by
 have⟨_,_,hB⟩:=i0 (ds.map ω) 1 0 @_ (acL _) λc hc=>⟨(o.Lu.2 c hc).1,acL _⟩;have hm:∀d∈ds,ω d∈ds.map ω:=λd hd=>aah.mpr ⟨d,hd,rfl⟩;have e:=Jw (B:=bN (ds.map ω)) (ds:=ds) λd hd=>⟨(o.Lu.2 _ (hm d hd)).1,hB _ (hm d hd)⟩;rw[o.sum]at e;have b0:=bq (show bN (ds.map ω)≠0 by have:=o.b0;omega);refine⟨?_,λd hd=>?_⟩
 ·generalize ((bN (ds.map ω):Int):Rat)=b at *
  grind
 ·refine se (o.Lu.2 _ (hm d hd)).1 ?_;have p:=o.pos _ (hm d hd);unfold mH at p;have q0:0<=bN (ds.map ω) / (ω d).2:=Int.ediv_nonneg (aaj o.b0) (aaj (o.Lu.2 _ (hm d hd)).1);rcases acr (ω d).1 0 with z| z
  ·have:=Int.mul_nonpos_of_nonpos_of_nonneg (aaj z) q0;omega
  ·exact z
def Gz{p q:Fr}(hp:0 < p.2)(hq:0 < q.2):val (iB p q)=val p - val q:=by
 unfold iB;rw[j7 (aby (aa2 hp hq))];have h1:=bq (show p.2≠0 by omega);have h2:=bq (show q.2≠0 by omega);rw[Rat.intCast_sub,aaR,aaR,aaR];unfold val;generalize (p.1:Rat)=a at *
 generalize (p.2:Rat)=b at *
 generalize (q.1:Rat)=c at *
 generalize (q.2:Rat)=d at *
 grind
def BM{p q:Fr}(hp:0 < p.2)(hq:0 < q.2)(h:h7 p E)(h':h7 q E):h7 (iB p q) E:=by have⟨N,e⟩:=h;have⟨N',e'⟩:=h';unfold iB;exact pP (N:=N - N') (Int.ne_of_gt (Int.mul_pos hp hq)) (by grind)
def FZ{p q:Fr}{D:Int}(hp:0 < p.2)(hq:0 < q.2)(h:eG p C)(h':eG q D):eG (iB p q) (C+D):=by
 unfold iB;have a:=b9 h.1 (aaj hq);have b:=b9 h'.1 (aaj hp);have c:=b9 h.2 (aaj hq);have d:=b9 h'.2 (aaj hp);refine nM (aa2 hp hq) ?_ ?_
 ·have e:p.2 * q.2 * (C+D)=p.2 * C * q.2+q.2 * D * p.2:=by grind
  have e2: -(q.2 * D) * p.2= -(q.2 * D * p.2):=by grind
  omega
 ·have e: -(p.2 * q.2 * (C+D))= -(p.2 * C) * q.2+ -(q.2 * D * p.2):=by grind
  omega
structure Nr(E C:Int)(p:Fr):Prop where
 red:Red p
 he:h7 p E
 ab:eG p C
structure mz(n:Nat)(E C:Int)(v:Nat->Rat)(ns:List Fr):Prop where
 len:ns.length=n
 nr:∀x,x < n->Nr E C (ns.getD x (0,1))
 val:∀x,x < n->val (ns.getD x (0,1))=v x
def tG(ε:Fr)(ns:List Fr)(d:cG):List Fr:=ns.set d.1.toNat (iB (ns.getD d.1.toNat (0,1)) (ba ε (ω d)))
def gX(ε:Fr)(n i:Nat)(aa:List cG):List Fr:=aa.foldl (tG ε) ((List.replicate n ((0,1):Fr)).set i (1,1))
def X7(c:0<=C):Nr E C (0,1):=⟨⟨@_,@_⟩,⟨0,by simp⟩,⟨by show(0:Int)<=1 * C;omega,by show -(1 * C)<=(0:Int);omega⟩⟩
def Zs:Nr E 1 (1,1):=⟨⟨@_,@_⟩,⟨E,by simp⟩,⟨@_,@_⟩⟩
def yY{ns:List Fr}{t x:Nat}{a:Fr}(h:t < ns.length):(ns.set t a).getD x (0,1)=if x=t then a else ns.getD x (0,1):=by
 rw[aab,List.getElem?_set];by_cases e:x=t
 ·subst e;rw[aaw rfl,aaw h,aaw rfl];rfl
 ·rw[aav (Ne.symm e),aav e,<-aab]
def IA(hi:i < n):mz n E 1 (λx=>if x=i then 1 else 0) ((List.replicate n ((0,1):Fr)).set i (1,1)):=by
 have g:∀x,((List.replicate n ((0,1):Fr)).set i (1,1)).getD x (0,1)=if x=i then (1,1) else (0,1):=λx=>by
  rw[yY (by simpa using hi)]
  congr 1
  rw[aab,ab0];split <;> rfl
 refine⟨by simp,λx _=>?_,λx _=>?_⟩
 ·rw[g];split
  ·exact Zs
  ·exact X7 @_
 ·rw[g];show Pg.val (if x=i then (1,1) else (0,1))=if x=i then 1 else 0
  unfold Pg.val;split
  ·show((1:Int):Rat) / ((1:Int):Rat)=1;grind
  ·show((0:Int):Rat) / ((1:Int):Rat)=0;grind
structure RV(ε:Fr)(E:Int)(d:cG):Prop where
 s0:0 < ε.2
 su:gM ε
 c0:0 < (ω d).2
 cu:gM (ω d)
 he:h7 (ba ε (ω d)) E
def RV.nr{ε:Fr}{d:cG}(h:RV ε E d):Nr E 1 (ba ε (ω d)):=by have p:=aa2 h.s0 h.c0;have u:=B' h.s0 h.c0 h.su h.cu;have r:Red (ba ε (ω d)):=cP (aby p);have rp:=r.pos;have⟨u1,u2⟩:=u;exact⟨r,h.he,⟨(),()⟩⟩
def AM{ε:Fr}{v:Nat->Rat}{ns:List Fr}{d:cG}(h:mz n E C v ns)(c:0<=C)(hd:0<=d.1/\d.1 < n)(sc:RV ε E d):mz n E (C+1) (λx=>v x - Pg.val ε * ((if d.1.toNat=x then 1 else 0) * cV d)) (tG ε ns d):=by
 have ht:d.1.toNat < ns.length:=by rw[h.len];omega
 have k:=sc.nr;have g:=λx=>yY (x:=x) (a:=iB (ns.getD d.1.toNat (0,1)) (ba ε (ω d))) ht;refine⟨by unfold tG;rw[List.length_set];exact h.len,λx hx=>?_,λx hx=>?_⟩
 ·unfold tG;rw[g];have a:=h.nr x hx;split
  ·rename_i e;rw[<-e];have p:=aa2 a.red.pos k.red.pos;exact⟨cP (aby p),BM a.red.pos k.red.pos a.he k.he,FZ a.red.pos k.red.pos a.ab k.ab⟩
  ·have:=aaq (show C<=C+1 by omega) (aaj a.red.pos);exact⟨a.red,a.he,⟨abC a.ab.1 this,by have:=a.ab.2;omega⟩⟩
 ·unfold tG;rw[g];have a:=h.nr x hx;have b:=h.val x hx;split
  ·rename_i e;rw[<-e,Gz a.red.pos k.red.pos,b,oV sc.s0 sc.c0,if_pos rfl];grind
  ·rename_i e;rw[b,if_neg (Ne.symm e)];grind
def wg{n:Nat}{ε:Fr}{E:Int}:∀{aa:List cG} {ns:List Fr} {v:Nat->Rat} {C:Int},(∀d∈aa,(0<=d.1/\d.1 < n)/\RV ε E d)->0<=C->mz n E C v ns->mz n E (C+aa.length) (λx=>v x - Pg.val ε * aY (λd=>(if d.1.toNat=x then 1 else 0) * cV d) aa) (aa.foldl (tG ε) ns)
 | [],ns,v,C,_,_,h=>by
  refine⟨h.len,λx hx=>?_,λx hx=>?_⟩
  ·rw[acz,Int.natCast_zero,Int.add_zero];exact h.nr x hx
  ·show _=v x - Pg.val ε * 0;rw[show v x - Pg.val ε * 0=v x by grind];exact h.val x hx
 | d::aa,ns,v,C,hw,c,h=>by have⟨h1,h2⟩:=hw d aae;have i:=wg (aa:=aa) (λx hx=>hw x (aad _ hx)) () (AM h c h1 h2);rw[abI,aay,show C+((aa.length+1:Nat):Int)=C+1+aa.length by omega];refine⟨i.len,i.nr,λx hx=>?_⟩;rw[i.val x hx];show v x - Pg.val ε * ((if d.1.toNat=x then 1 else 0) * cV d) - Pg.val ε * aY (λd=>(if d.1.toNat=x then 1 else 0) * cV d) aa=v x - Pg.val ε * ((if d.1.toNat=x then 1 else 0) * cV d+aY (λd=>(if d.1.toNat=x then 1 else 0) * cV d) aa);grind
def vW(s:Rat)(i:Nat)(aa:List cG)(x:Nat):Rat:=(if x=i then 1 else 0) - s * aY (λd=>(if d.1.toNat=x then 1 else 0) * cV d) aa
def Mz{ε:Fr}{aa:List cG}(hi:i < n)(hw:∀d∈aa,(0<=d.1/\d.1 < n)/\RV ε E d):mz n E (1+aa.length) (vW (Pg.val ε) i aa) (gX ε n i aa):=wg hw @_ (IA hi)
def HP{n i:Nat}{s:Rat}(hi:i < n)(y:Nat->Rat):∀{aa:List cG},(∀d∈aa,0<=d.1/\d.1 < n)->dG (λx=>vW s i aa x * y x) n=y i - s * aY (λd=>cV d * y d.1.toNat) aa
 | [],_=>by rw[d_ (g:=λx=>(if x=i then 1 else 0) * y x) λx _=>by show((if x=i then 1 else 0) - s * 0) * y x=_;grind];rw[rH y hi];show y i=y i - s * 0;grind
 | d::aa,h=>by
  have⟨a,b⟩:=h d aae;have ih:=HP (s:=s) hi y (aa:=aa) λx hx=>h x (aad _ hx)
  rw[d_ (g:=λx=>1 * (vW s i aa x * y x) - (s * cV d) * ((if x=d.1.toNat then 1 else 0) * y x)) λx _=>by
   show((if x=i then 1 else 0) - s * ((if d.1.toNat=x then 1 else 0) * cV d+aY (λd=>(if d.1.toNat=x then 1 else 0) * cV d) aa)) * y x=1 * (((if x=i then 1 else 0) - s * aY (λd=>(if d.1.toNat=x then 1 else 0) * cV d) aa) * y x) - (s * cV d) * ((if x=d.1.toNat then 1 else 0) * y x);by_cases e:x=d.1.toNat
   ·rw[if_pos e,if_pos e.symm];grind
   ·rw[if_neg e,if_neg (Ne.symm e)];grind]
  rw[rX,ih,rH y (show d.1.toNat < n by omega)];show _=y i - s * (cV d * y d.1.toNat+aY (λd=>cV d * y d.1.toNat) aa);grind
def nq(ns:List Fr):List Int:=ns.map λc=>c.1 * (bN ns / c.2)
def zN{ns:List Fr}(h:∀c∈ns,Nr E C c)(e0:0 < E)(c0:0<=C):0 < bN ns/\bN ns<=E/\∀c∈ns,((mH (bN ns) c:Int):Rat)=val c * (bN ns:Int)/\ -(C * E)<=mH (bN ns) c/\mH (bN ns) c<=C * E:=by
 have b0:0 < bN ns:=fG ns 1 @_ λc hc=>(h c hc).red.pos;have⟨d1,_,d3⟩:=i0 ns 1 E @_ (Int.one_dvd _) λc hc=>⟨(h c hc).red.pos,xP (h c hc).red (h c hc).he⟩;have le:=ace e0 d1;refine⟨b0,le,λc hc=>⟨Kx (h c hc).red.pos (d3 c hc),?_⟩⟩;have hd:=d3 c hc;have cp:=(h c hc).red.pos;have⟨a1,a2⟩:=(h c hc).ab;have le:bN ns<=E:=le;have b0:0 < bN ns:=b0;generalize hL:bN ns=L at *
 have hd:c.2∣L:=by rw[<-hL];exact hd
 have⟨k,rfl⟩:=hd;unfold mH;rw[abx _ ()];have k0:0<=k:=by
  rcases acr k 0 with z| z
  ·have:=abW cp z;omega
  ·exact z
 have m1:=b9 a1 k0;have m2:=b9 a2 k0;have m3:=aaq le c0;have e1:c.2 * C * k=C * (c.2 * k):=by grind
 have e2: -(c.2 * C) * k= -(C * (c.2 * k)):=by grind
 exact⟨(),()⟩
def mE(ε:Fr)(n i:Nat)(aa:List cG)(given:Fr):List Int:=nq (gX ε n i aa++[given])
structure wc(ε:Fr)(n:Nat)(E C:Int)(aa:List cG)(given:Fr):Prop where
 wo:BA n aa
 sc:∀d∈aa,RV ε E d
 gn:Nr E C given
 e0:0 < E
 cl:1+(aa.length:Int)<=C
def Av{D:Int}{p:Fr}(h:Nr E C p)(l:C<=D):Nr E D p:=by have:=aaq l (aaj h.red.pos);have⟨a,b⟩:=h.ab;exact⟨h.red,h.he,⟨(),()⟩⟩
def rC{ns:List Fr}{x:Nat}(h:x < ns.length):ns.getD x (0,1)∈ns:=by rw[aab,aaa h];exact aaF h
def C1{ε:Fr}{aa:List cG}{given:Fr}(hi:i < n)(p:wc ε n E C aa given):(mE ε n i aa given).length=n+1/\(∀x∈mE ε n i aa given,-(C * E)<=x/\x<=C * E)/\∃L:Rat,0 < L/\(∀y:Nat->Rat,dG (λx=>((mE ε n i aa given).getD x 0:Rat) * y x) n=L * (y i - Pg.val ε * aY (λd=>cV d * y d.1.toNat) aa))/\((mE ε n i aa given).getD n 0:Rat)=L * Pg.val given:=by
 have no:=Mz hi λd hd=>⟨p.wo.to d hd,p.sc d hd⟩;have c0:0<=C:=by have:=p.cl;omega
 have all:∀c∈gX ε n i aa++[given],Nr E C c:=λc hc=>by
  rcases aa0.mp hc with z| z
  ·have⟨x,hx,e⟩:=abf z;have Tz:x < n:=by rw[<-no.len];exact hx
   have:=no.nr x Tz;rw[aab,aaa hx]at this;rw[<-e];exact Av this p.cl
  ·rw[aa8.mp z];exact p.gn
 have⟨b0,bE,hb⟩:=zN all p.e0 c0;have ln:(gX ε n i aa).length=n:=no.len;have at_:∀x,x < n+1->(mE ε n i aa given).getD x 0=mH (bN (gX ε n i aa++[given])) ((gX ε n i aa++[given]).getD x (0,1)):=λx hx=>by
  unfold mE nq;have hx:x < (gX ε n i aa++[given]).length:=by simp[ln];exact hx
  rw[aab,aal,aab,aaa hx];rfl
 have in_:∀x,x < n+1->(gX ε n i aa++[given]).getD x (0,1)∈gX ε n i aa++[given]:=λx hx=>rC (by simp[ln];exact hx);refine⟨by unfold mE nq;simp[ln],λx hx=>?_,((bN (gX ε n i aa++[given]):Int):Rat),?_,λy=>?_,?_⟩
 ·unfold mE nq at hx;have⟨c,hc,rfl⟩:=aah.mp hx;exact(hb c hc).2
 ·exact abE.mpr b0
 ·rw[d_ (g:=λx=>((bN (gX ε n i aa++[given]):Int):Rat) * (vW (Pg.val ε) i aa x * y x) - 0 * 0) λx hx=>by
   rw[at_ x (),(hb _ (in_ x ())).1];have:(gX ε n i aa++[given]).getD x (0,1)=(gX ε n i aa).getD x (0,1):=by rw[aab,aat (by rw[ln];exact hx),<-aab]
   rw[this,no.val x hx];grind]
  rw[rX _ 0 (λx=>vW (Pg.val ε) i aa x * y x) (λ_=>0),HP hi y p.wo.to];grind
 ·rw[at_ n (),(hb _ (in_ n ())).1];have:(gX ε n i aa++[given]).getD n (0,1)=given:=by rw[aab,aan (by rw[ln];exact aai _),ln,acK];rfl
  rw[this];grind
structure Sys(ε:Fr)(n:Nat)(B:Int)(ws:Nat->List cG)(gv:Nat->Fr):Prop where
 n1:1<=n
 s0:0<=Pg.val ε
 s1:Pg.val ε < 1
 b1:1<=B
 Hy:∀i,i < n->∃E C,wc ε n E C (ws i) (gv i)/\C * E<=B
def hZ(ε:Fr)(n:Nat)(ws:Nat->List cG)(gv:Nat->Fr):List (List Int):=(List.range n).map λi=>mE ε n i (ws i) (gv i)
section
variable{ε:Fr}{ws:Nat->List cG}{gv:Nat->Fr}
def C5{k x:Nat}(h:k < n):Bz.arr (hZ ε n ws gv) k x=(mE ε n k (ws k) (gv k)).getD x 0:=by
 unfold Bz.arr hZ
 congr 1
 rw[aab,aal,aaU h];rfl
def lx:(hZ ε n ws gv).length=n:=by unfold hZ;simp
def Sys.eq(S:Sys ε n B ws gv){k:Nat}(hk:k < n):∃L:Rat,0 < L/\(∀y:Nat->Rat,dG (λx=>(Bz.arr (hZ ε n ws gv) k x:Rat) * y x) n=L * (y k - Pg.val ε * aY (λd=>cV d * y d.1.toNat) (ws k)))/\(Bz.arr (hZ ε n ws gv) k n:Rat)=L * Pg.val (gv k):=by
 have⟨E,C,p,_⟩:=S.Hy k hk;have⟨_,_,L,l0,l1,l2⟩:=C1 hk p;refine⟨L,l0,λy=>?_,?_⟩
 ·rw[<-l1 y];exact d_ λx _=>by rw[C5 hk]
 ·rw[C5 hk];exact l2
def Sys.zero(S:Sys ε n B ws gv){y:Nat->Rat}(h:∀k,k < n->y k=Pg.val ε * aY (λd=>cV d * y d.1.toNat) (ws k)):∀k,k < n->y k=0:=λk hk=>by
 have:=Li (n:=n) (x:=y) (c:=0) S.s1 (λi hi m hm=>by
  have⟨E,C,p,_⟩:=S.Hy i hi;have w:=lX.mp (Dy p.wo () hm);have a:=aa3 w.1 S.s0;have b:=aa3 w.2 S.s0;rw[h i hi]
  refine lX.mpr ⟨?_,?_⟩ <;> grind) k hk
 have a0:=Rt (y k);have s1:=S.s1;have:ab (y k)=0:=by
  by_cases e:ab (y k)=0
  ·exact e
  ·have p:=Rat.mul_pos (show 0 < ab (y k) by grind) (show 0 < 1 - Pg.val ε by grind);grind
 unfold ab at this;split at this <;> grind
def Sys.ZT(S:Sys ε n B ws gv)(y:Bz.Row)(h:∀k,k < n->Bz.Δ (λx=>Bz.arr (hZ ε n ws gv) k x * y x) n=0):∀x,x < n->y x=0:=λx hx=>by
 have:=S.zero (y:=λx=>(y x:Rat)) (λk hk=>by
  have⟨L,l0,l1,_⟩:=S.eq hk;have e:=aaX (λz:Int=>(z:Rat)) (h k hk);rw[pY,d_ (g:=λx=>(Bz.arr (hZ ε n ws gv) k x:Rat) * (y x:Rat)) λx _=>aaR _ _,l1 λx=>(y x:Rat)]at e;have e:L * ((y k:Rat) - Pg.val ε * aY (λd=>cV d * (y d.1.toNat:Rat)) (ws k))=0:=e;rcases Rat.mul_eq_zero.mp e with z| z
  ·grind
  ·grind) x hx
 exact Rat.intCast_eq_zero_iff.mp this
def Sys.bd(S:Sys ε n B ws gv):Bz.Bd (Bz.arr (hZ ε n ws gv)) n (n+1) B:=⟨S.b1,λk c hk hc=>by
 have⟨E,C,p,hB⟩:=S.Hy k hk;have⟨ln,hb,_⟩:=C1 hk p;rw[C5 hk];have:=hb ((mE ε n k (ws k) (gv k)).getD c 0) (by rw[aab,aaa ()];exact aaF _)
 exact⟨(),()⟩⟩
structure Tab(ε:Fr)(n:Nat)(ws:Nat->List cG)(gv:Nat->Fr)(tb:List Fr):Prop where
 len:tb.length=n
 red:∀i,i < n->Red (tb.getD i (0,1))
 eq:∀i,i < n->Pg.val (tb.getD i (0,1))=Pg.val (gv i)+Pg.val ε * aY (λd=>cV d * Pg.val (tb.getD d.1.toNat (0,1))) (ws i)
def Sys.uniq(S:Sys ε n B ws gv){t t':List Fr}(h:Tab ε n ws gv t)(h':Tab ε n ws gv t'):t=t':=by
 have z:=S.zero (y:=λx=>Pg.val (t.getD x (0,1)) - Pg.val (t'.getD x (0,1))) (λk hk=>by
  rw[h.eq k hk,h'.eq k hk];rw[show(λd:cG=>cV d * (Pg.val (t.getD d.1.toNat (0,1)) - Pg.val (t'.getD d.1.toNat (0,1))))=λd=>cV d * Pg.val (t.getD d.1.toNat (0,1)) - cV d * Pg.val (t'.getD d.1.toNat (0,1)) by funext d;grind,sL]
  grind)
 apply abp
 ·rw[h.len,h'.len]
 ·intro i h1 h2;have hi:i < n:=by rw[<-h.len];exact h1
  have a:=h.red i hi;have b:=h'.red i hi;have c:=z i hi;rw[aab,aaa h1]at a c;rw[aab,aaa h2]at b c;exact yM a b (by have c:Pg.val t[i] - Pg.val t'[i]=0:=c;grind)
def Sys.ex(S:Sys ε n B ws gv)(Bj:n<=12):∃(tb:List Fr) (z:Bz.Row) (N:Int),Bz.Rk (Bz.arr (hZ ε n ws gv)) n n z N/\N≠0/\(∀i,i < n->N * (tb.getD i (0,1)).1=z i * (tb.getD i (0,1)).2)/\Tab ε n ws gv tb/\∀i,i < n->(tb.getD i (0,1)).2<=(12 * B) ^ n:=by
 have⟨ρ,ν,q,d,W,t⟩:=Bz.Turn.exists (A:=Bz.arr (hZ ε n ws gv)) (n:=n) n;have hc:ν=List.range n:=by
  rcases t.all with e| ⟨x,h1,h2⟩
  ·exact e
  ·have⟨z,z1,z2⟩:=t.kernel h1 h2;have:=S.ZT z z2 x h1;rw[z1]at this;exact aaJ () t.d0
 have lr:ρ.length=n:=by rw[<-t.st.lc,hc,aaP]
 have sol:=t.Sw λi h1 h2=>aaJ h1 ();have d0:=t.d0;generalize hz:Bz.Ls (Bz.arr (hZ ε n ws gv)) n W ν n ν.length=z at *
 have g:∀i,i < n->((List.range n).map λi=>aA (z i) d).getD i (0,1)=aA (z i) d:=λi hi=>by rw[aab,aal,aaU hi];rfl
 refine⟨(List.range n).map λi=>aA (z i) d,z,d,sol,d0,λi hi=>?_,⟨by simp,λi hi=>?_,λi hi=>?_⟩,λi hi=>?_⟩
 ·rw[g i hi,<-cE d0]
 ·rw[g i hi];exact cP d0
 ·have⟨L,l0,l1,l2⟩:=S.eq hi;have⟨E,C,p,_⟩:=S.Hy i hi;have e:=aaX (λz:Int=>(z:Rat)) (sol i hi);rw[pY,d_ (g:=λx=>(Bz.arr (hZ ε n ws gv) i x:Rat) * (z x:Rat)) λx _=>aaR _ _,l1 λx=>(z x:Rat),aaR,l2]at e;rw[g i hi,j7 d0]
  rw[ng (g:=λdd=>(1 / (d:Rat)) * (cV dd * (z dd.1.toNat:Rat)) - 0) λdd hdd=>by
   have⟨a,b⟩:=p.wo.to dd hdd;rw[g _ (),j7 d0];have:=bq d0
   grind]
  have sc:∀(k:Rat) (ds:List cG),aY (λdd=>k * (cV dd * (z dd.1.toNat:Rat)) - 0) ds=k * aY (λdd=>cV dd * (z dd.1.toNat:Rat)) ds:=λk ds=>by
   induction ds with
   | nil=>show(0:Rat)=k * 0;grind
   | cons a ds ih=>
    show k * (cV a * (z a.1.toNat:Rat)) - 0+aY (λdd=>k * (cV dd * (z dd.1.toNat:Rat)) - 0) ds=k * (cV a * (z a.1.toNat:Rat)+aY (λdd=>cV dd * (z dd.1.toNat:Rat)) ds);rw[ih];grind
  rw[sc];have:=bq d0;have e:L * ((z i:Rat) - Pg.val ε * aY (λdd=>cV dd * (z dd.1.toNat:Rat)) (ws i))=(d:Rat) * (L * Pg.val (gv i)):=e;have e2:(z i:Rat) - Pg.val ε * aY (λdd=>cV dd * (z dd.1.toNat:Rat)) (ws i)=(d:Rat) * Pg.val (gv i):=by
   have:L * ((z i:Rat) - Pg.val ε * aY (λdd=>cV dd * (z dd.1.toNat:Rat)) (ws i) - (d:Rat) * Pg.val (gv i))=0:=by grind
   rcases Rat.mul_eq_zero.mp this with y| y
   ·grind
   ·grind
  grind
 ·rw[g i hi];have ad:=t.st.YC S.bd (λc zC=>aau (t.cl c zC) (Nat.le_succ _)) ();rw[lr]at ad;have l:=kZ (t:=z i) d0;have q0:=cM (t:=z i) d0;have⟨a1,a2⟩:=ad;omega
end
def N4{d:cG}{c:Fr}{q:DQ}(e:d.2.2=[c])(h:q (Ξ c) M):fm (fe d) (.int 2) M q:=by unfold fe;rw[e];exact Ι (xs:=[.int d.1,Ξ d.2.1,Ξ c]) rfl (Ο (j:=2) rfl) h
def r9{k:Nat}(h:M[k]? =some (MO.lst xs)):jq M (.loc k)=some xs:=by show(match M[k]? with| some (MO.lst xs)=>some xs| _=>none)=some xs;rw[h]
def K5{p:Fr}(h:Nr E C p)(e0:0 < E)(e1:E < 2 ^ 190)(c0:0<=C)(c1:C < 2 ^ 110):Sz 300 p:=N2 (k:=190) (m:=110) h.red h.he e0 e1 h.ab c0 c1
def KU:DF:=λas M q _=>∃(ns:List Fr) (E C:Int),as=[.lst (ns.map Ξ)]/\ns.length<=13/\(∀c∈ns,Nr E C c)/\0 < E/\E < 2 ^ 190/\0<=C/\C < 2 ^ 110/\q (cw (nq ns)) M
def mn:Ε ["numbers","bottom"] ["numbers"] (τ oU):=.of rfl
def Ar(F:cX K "whole_row" "whole_row" oU f fd)(E:Ev K mg w Cm){iC:Addr}{iD:FuncData}(cc:aB P w K mg base 2 "common_bottom" ["chances"] iw iC iD):av P w K mg base (bY P w) 3 f fd ["numbers"] (cK K KU):=by
 refine F.dE mn (λds M q x h=>?_) (λaX A outer s H E' hr=>⟨_,(η (Γ 1 mn.nd (ao cc hr ξ (Τ (jv 0) θ)))
   (μ (Ζ (dX (ys:=["bottom"]) (Ω:=[1]) (.of mn rfl rfl rfl) (aV (jv 0)) (λC s H fp=>(aR (Μ (jv 0) ψ) (j9 (jv 1) (Μ (jv 0) ψ)))))))),λds M q x h=>?_⟩)
 ·have⟨ns,E,C,rfl,_⟩:=h;rfl
 ·have⟨ns,Ep,C,rfl,hz,hn,e0,e1,c0,c1,h⟩:=h;have⟨b0,bE,_⟩:=zN hn e0 c0;have XA:∀c∈ns,Sz 300 c:=λc hc=>K5 (hn c hc) e0 e1 c0 c1;have b2:∀c∈ns,c.2 < 2 ^ 200:=λc hc=>by have:=ace e0 (xP (hn c hc).red (hn c hc).he);exact aaL this (acu e1 @_)
  refine⟨ns,rfl,⟨hz,λc hc=>⟨(hn c hc).red.pos,b2 c hc⟩⟩,?_⟩;walk_at "vc";refine eK (i:=0) rfl rfl ⟨by rw[aac];exact aas hz @_,?_⟩;refine gG (f:=λd=>.int (match d with| .tup [.int a,.int b]=>a * (bN ns / b)| _=>0)) trivial (λx hx q hq=>?_) ?_
  ·have⟨y,hy,rfl⟩:=aah.mp hx;have s:=XA y hy;have y0:=(hn y hy).red.pos;refine⟨⟨y0,de s @_⟩,⟨gs s @_,?_⟩,hq⟩;exact qH (k:=190) (Int.ediv_nonneg (aaj b0) (aaj y0)) (aaL (acm _ (aaj b0)) (aaL bE e1)) @_
  ·rw[aaQ,aaK];have e:ns.map ((λd=>Dt.int (match d with| .tup [.int a,.int b]=>a * (bN ns / b)| _=>0)) ∘ Ξ)=(nq ns).map Dt.int:=by unfold nq;rw[aaK];rfl
   rw[e];exact h
structure XX(E C:Int):Prop where
 e1:E < 2 ^ 190
 c1:C < 2 ^ 110
def Vj(A:Addr):DF:=λas M q _=>∃(ε:Fr) (γ:List Rw) (i:Nat) (aa:List cG) (given:Fr) (E C:Int),as=[aD A ε γ,.int (i:Nat),.lst (aa.map fe),Ξ ε,Ξ given]/\i < γ.length/\γ.length<=12/\aW ε=true/\(∀d∈aa,∃c,d.2.2=[c])/\wc ε γ.length E C aa given/\XX E C/\(∀d∈aa,Sz 300 (ω d))/\∀E',q (cw (mE ε γ.length i aa given)) (M++E')
def uc:Ε ["floor","place","ways","share","given","numbers","way"] ["floor","place","ways","share","given"] (τ xA):=.of rfl
def He(F:cX K "led_row" "led_row" xA f fd)(E:Ev K mg w Cm)(aZ:da P w K mg base 1 Cm "size" ["self"] (zY Cm) dZ eD){PL:Addr}{Qn:FuncData}(xg:aB P w K mg base 3 "minus" ["one","other"] KP PL Qn)(gB:aB P w K mg base 3 "times" ["one","other"] x5 uw tH){Gf:Addr}{Gy:FuncData}(mR:aB P w K mg base 3 "whole_row" ["numbers"] KU Gf Gy):av P w K mg base (bY P w) 5 f fd ["floor","place","ways","share","given"] (cK K (Vj Cm)):=by
 refine F.dE uc (λds M q x h=>?_) (λaX A outer s H E' hr=>⟨_,(η (Γ 5 uc.nd (CP (fM 3 (d:=.lst [.tup [.int 0,.int 1]]) (by rfl)) (lM aZ hr ξ (jv 0))))
   (η (kY (jv 5) (jv 1) (fR (ι ψ (ι ψ θ eE) eE)))
   (η (cC (aV (jv 2)) (au (i:=6) uc.nd rfl (Or.inl rfl)) aG (μ (kY (jv 5) (Μ (jv 6) ψ) (ao xg hr ξ (ι (Μ (jv 5) (Μ (jv 6) ψ)) (ι (ao gB hr ξ (Τ (jv 3) (ι (Μ (jv 6) ψ) θ aU))) θ aS) aU)))))
   (μ (Ζ (ao mR hr ξ (ι (mI (jv 5) (ma (Τ (jv 4) θ))) θ cj))))))),λds M q x h=>?_⟩)
 ·have⟨ε,γ,i,aa,given,E,C,rfl,_⟩:=h;rfl
 ·have⟨ε,γ,i,aa,given,Ep,C,rfl,il,lY,hs,LU,p,sz,hcs,h⟩:=h;have szs:=oi hs;have e0:=p.e0;have c0:0<=C:=by have:=p.cl;omega
  generalize hn:γ.length=n at *
  refine⟨⟨_,_,.inl rfl,rfl⟩,ε,γ,rfl,?_⟩;rw[hn];refine⟨[Ξ (0,1)],n,rfl,rfl,(),(),?_,?_⟩
  ·show 1 * ((n:Int)).toNat<=sizeLine;exact aas (show _<=12 by omega) @_
  rw[show((n:Int)).toNat=n by omega,rS];dsimp only[pZ];walk_at "vc";refine⟨gV,?_⟩;refine⟨M.length,(i:Nat),_,i,rfl,rfl,ax,by rw[aa6];exact ua il,?_⟩;rw[cY];have e00:(List.replicate n (Ξ (0,1))).set i (.tup [.int 1,.int 1])=((List.replicate n ((0,1):Fr)).set i (1,1)).map Ξ:=by rw[List.map_set,List.map_replicate];rfl
  rw[e00];dsimp only[oh,eF];walk_at "vc";refine bx (λzs ρ' M'=>∃(gE rest:List cG) (ns:List Fr) (v:Nat->Rat) (o:Option Dt),aa=gE++rest/\zs=rest.map fe/\ns=gE.foldl (tG ε) ((List.replicate n ((0,1):Fr)).set i (1,1))/\mz n Ep (1+gE.length) v ns/\M'=M++[MO.lst (ns.map Ξ)]/\ρ'=[some (aD Cm ε γ),some (.int (i:Int)),some (.lst (aa.map fe)),some (Ξ ε),some (Ξ given),some (.loc M.length),o]) (λzs ρ' M' hj=>trivial) (λx zs ρ' M' hj fW=>?_) (λρ' M' hj=>?_) _ _ _ ⟨[],aa,_,_,none,rfl,rfl,rfl,IA il,rfl,rfl⟩
  ·have⟨gE,rest,ns,v,o,ew,ex,en,no,rfl,rfl⟩:=hj;cases rest with
   | nil=>cases ex
   | cons d rest=>
    cases ex;have dm:d∈aa:=by rw[ew];exact aaE _ aae
    have⟨t0,t1⟩:=p.wo.to d dm;have⟨c,hc⟩:=LU d dm;have ec:ω d=c:=by unfold ω;rw[hc];rfl
    have sc:=p.sc d dm;have RP:=hcs d dm;have dl:1+(gE.length:Int)<=C:=by have:=aaX List.length ew;rw[aag,aay]at this;have:=p.cl;omega
    have tl:d.1.toNat < ns.length:=by rw[no.len];omega
    have XA:=K5 (Av (no.nr d.1.toNat ()) dl) e0 sz.e1 c0 sz.c1;have szt:=K5 (Av sc.nr (show(1:Int)<=C by omega)) e0 sz.e1 c0 sz.c1;have at_:nJ (ns.map Ξ) d.1=some (Ξ (ns.getD d.1.toNat (0,1))):=by have:=J' tl;rw[show((d.1.toNat:Nat):Int)=d.1 by omega]at this;rw[this,aab,aaa tl];rfl
    have nx:∀o,_:=λo=>fW [some (aD Cm ε γ),some (.int (i:Int)),some (.lst (aa.map fe)),some (Ξ ε),some (Ξ given),some (.loc M.length),o] (M++[MO.lst ((tG ε ns d).map Ξ)]) ⟨gE++[d],rest,tG ε ns d,_,o,by rw[ew];simp,rfl,by rw[List.foldl_append,<-en];rfl,by
     have:=AM no () ⟨t0,t1⟩ sc;rw[show 1+((gE++[d]).length:Int)=1+(gE.length:Int)+1 by simp;omega]
     exact this,rfl,rfl⟩
    dsimp only[gN,pZ];walk_at "vc";refine HW ?_;refine(Ι (d:=.loc M.length) (r9 ax) at_ ?_:fm (.loc M.length) (.int d.1) _ _);refine N4 hc ?_;rw[<-ec];refine⟨ε,ω d,11,300,rfl,szs,RP,@_,?_⟩;refine⟨_,_,300,300,rfl,XA,szt,@_,?_⟩;refine HW ?_;refine⟨M.length,d.1,_,d.1.toNat,rfl,rfl,ax,by rw[aac];have:=ua tl;rwa[show((d.1.toNat:Nat):Int)=d.1 by omega]at this,?_⟩;rw[cY];have:(ns.map Ξ).set d.1.toNat (Ξ (iB (ns.getD d.1.toNat (0,1)) (ba ε (ω d))))=(tG ε ns d).map Ξ:=by unfold tG;rw[List.map_set]
    rw[this];exact nx _
  ·have⟨gE,rest,ns,v,o,ew,ex,en,no,rfl,rfl⟩:=hj;cases rest with
   | cons d rest=>cases ex
   | nil=>
    rw[aa1]at ew;subst ew;have en:ns=gX ε n i aa:=en;walk_at "vc";refine⟨by show 1<=sizeLine;decide,ns.map Ξ,[Ξ given],qR ax,rfl,?_,?_⟩
    ·rw[aac,no.len];exact aas (show n+1<=13 by omega) @_
    refine⟨ns++[given],Ep,C,by rw[aaW];rfl,by rw[aag,no.len];show n+1<=13;omega,λc hc=>?_,e0,sz.e1,c0,sz.c1,?_⟩
    ·rcases aa0.mp hc with z| z
     ·have⟨x,hx,e⟩:=abf z;have:=no.nr x (by rw[<-no.len];exact hx);rw[aab,aaa hx]at this;rw[<-e];exact Av this p.cl
     ·rw[aa8.mp z];exact p.gn
    rw[en];exact h _
def AB:∀(ps:List (Fr×Fr)) (w:Fr),Red w->(∀p∈ps,0 < p.1.2/\0 < p.2.2)->Red (ps.foldl (λw p=>gf w (ba p.1 p.2)) w)
 | [],w,h,_=>h
 | p::ps,w,h,hp=>by have⟨a,b⟩:=hp p aae;have t:Red (ba p.1 p.2):=cP (aby (aa2 a b));exact AB ps _ (cP (aby (aa2 h.pos t.pos))) λx hx=>hp x (aad _ hx)
structure FW(ε:Fr)(γ:List Rw)(X C:Int):Prop where
 pl:Rp ε γ
 n1:1<=γ.length
 hnd:∀k ds,Rw.υ k ds∈γ->Β k=true->∀d∈ds,d.2.2=[]
 pay:∀k ds,Rw.υ k ds∈γ->∃E,0 < E/\E<=X/\∀d∈ds,Nr E C d.2.1
 fin:∀p,Rw.fin p∈γ->∃E,0 < E/\E<=X/\Nr E C p
 x1:X<=10 ^ 36
 c9:9<=C
 c1:C<=10 ^ 30
def iK(X C:Int):Int:=6 * C * (1000000000 * X)
def PB(Η:Pl)(i:Nat):Rw->List cG
 | .fin _=>[]
 | .υ k ds=>aK Η i (.υ k ds)
def RH(Η:Pl)(i:Nat):Rw->Fr
 | .fin p=>p
 | .υ k ds=>iy (((aK Η i (.υ k ds)).map ω).zip ((aK Η i (.υ k ds)).map (·.2.1)))
def d7(γ:List Rw)(i:Nat):Rw:=γ.getD i (.fin (0,1))
structure YF(n:Nat)(B E C:Int)(d:cG):Prop where
 to:0<=d.1/\d.1 < n
 one:d.2.2=[ω d]
 ch:Ch B (ω d)
 py:Nr E C d.2.1
section
variable{ε:Fr}{γ:List Rw}{X:Int}{Η:Pl}
def FW.aa(fw:FW ε γ X C)(dk:gL γ Η){k:Str}{ds:List cG}(hi:γ[i]? =some (.υ k ds)):(aK Η i (.υ k ds)).length<=6/\aY cV (aK Η i (.υ k ds))=1/\(∀d∈aK Η i (.υ k ds),0<=cV d)/\∃B E,0 < B/\B<=1000000/\0 < E/\E<=X/\∀d∈aK Η i (.υ k ds),YF γ.length B E C d:=by
 have rm:Rw.υ k ds∈γ:=aam hi;have dr:=e9 fw.pl rm;have⟨E,e0,eX,hp⟩:=fw.pay k ds rm;cases hh:Β k with
 | true=>
  have⟨j,hj,jl⟩:=dk.hand i _ hi hh;have jl:j < ds.length:=jl;have gd:ds.getD j d0=ds[j]:=by rw[aab,aaa jl];rfl
  have dm:=aaF jl;have e:aK Η i (.υ k ds)=[(ds[j].1,ds[j].2.1,[(1,1)])]:=by unfold aK;rw[hj];show[((ds.getD ((j:Int)).toNat d0).1,(ds.getD ((j:Int)).toNat d0).2.1,(ds.getD ((j:Int)).toNat d0).2.2++[(1,1)])]=_;rw[abP,gd,fw.hnd k ds rm hh _ dm];rfl
  have v1:cV (ds[j].1,ds[j].2.1,[((1,1):Fr)])=1:=by show((1:Int):Rat) / ((1:Int):Rat)=1;grind
  rw[e];refine⟨by simp,?_,λd hd=>?_,1,E,@_,@_,e0,eX,λd hd=>?_⟩
  ·show cV (ds[j].1,ds[j].2.1,[(1,1)])+0=1;rw[v1];grind
  ·rw[List.mem_singleton.mp hd,v1];grind
  ·rw[aa8.mp hd];refine⟨dr.to ds[j] dm,rfl,?_,hp ds[j] dm⟩;show Ch 1 ((1,1):Fr);exact⟨@_,⟨1,@_⟩,⟨@_,@_⟩,qZ (k:=2) ⟨@_,@_,@_⟩ @_⟩
 | false=>
  have hc:k="chance"/\Ir (ds.map ω):=by
   rcases dr.kd with z| ⟨_,z⟩
   ·rw[z]at hh;cases hh
   ·exact z
  have⟨rfl,co⟩:=hc;have e:aK Η i (.υ "chance" ds)=ds:=by unfold aK;rw[dk.Lq i _ hi hh];rfl
  have⟨s1,s2⟩:=MK co;rw[e];refine⟨dr.l6,s1,s2,bN (ds.map ω),E,co.b0,co.b1,e0,eX,λd hd=>?_⟩;have⟨a,b,c,f⟩:=ME co (aah.mpr ⟨d,hd,rfl⟩);exact⟨dr.to d hd,(dr.ro.2.2.1 rfl).1 d hd,⟨a,z_ b,c,f⟩,hp d hd⟩
def OD{p:Fr}(h:Nr E C p)(e0:0 < E)(e1:E<=10 ^ 36)(c0:0<=C)(c1:C<=10 ^ 30):Nb E C p:=Jx h.red h.he h.ab ⟨e0,aaL e1 @_,c0,aaL c1 @_⟩
def FW.sh(fw:FW ε γ X C):0 < ε.2/\ε.2<=1000/\gM ε/\0<=val ε/\val ε < 1/\1<=1000 * (1 - val ε):=by
 have h:=fw.pl.sh;have⟨a,b,c⟩:=Ii h;unfold aW at h;rw[aaz,aaz,aao,aao,aao]at h;have⟨h1,h2,h3⟩:=h;have ev:val ε * (ε.2:Rat)=ε.1:=by
  have:=bq (show ε.2≠0 by omega);unfold val;generalize (ε.1:Rat)=x at *
  generalize (ε.2:Rat)=y at *
  grind
 have p:(0:Rat) < (ε.2:Rat):=abE.mpr a;have q:(ε.2:Rat)<=((1000:Int):Rat):=abc.mpr b;have r:(ε.1:Rat)+((1:Int):Rat)<=(ε.2:Rat):=by rw[<-Rat.intCast_add];exact abc.mpr ()
 have q:(ε.2:Rat)<=1000:=q;have r:(ε.1:Rat)+1<=(ε.2:Rat):=r;have lt:val ε < 1:=by
  by_cases z:val ε < 1
  ·exact z
  ·have:=Rat.mul_le_mul_of_nonneg_right (show 1<=val ε by grind) (Rat.le_of_lt p);grind
 refine⟨a,b,c,se a h1,lt,?_⟩;have:=Rat.mul_le_mul_of_nonneg_right q (show 0<=1 - val ε by grind);grind
def FW.Hy(fw:FW ε γ X C)(dk:gL γ Η){r:Rw}(hi:γ[i]? =some r):∃E,wc ε γ.length E (6 * C) (PB Η i r) (RH Η i r)/\6 * C * E<=iK X C/\XX E (6 * C)/\(∀d∈PB Η i r,∃c,d.2.2=[c])/\∀d∈PB Η i r,Sz 300 (ω d):=by
 have⟨s0,s1,su,_⟩:=fw.sh;have c9:=fw.c9;have c1:=fw.c1;have x1:=fw.x1;have rm:r∈γ:=aam hi;have Ul:∀E,E<=1000000000 * X->6 * C * E<=iK X C:=λE h=>aaq h ();cases r with
 | fin p=>
  have⟨E,e0,eX,hp⟩:=fw.fin p rm;exact⟨E,⟨⟨λ_ z=>(nomatch z),λ_ z=>(nomatch z),by show(0:Rat)<=1;grind⟩,λ_ z=>(nomatch z),Av hp (),e0,by show 1+0<=6 * C;omega⟩,Ul E (),⟨Int.lt_of_le_of_lt eX (),()⟩,λ_ z=>(nomatch z),λ_ z=>(nomatch z)⟩
 | υ k ds=>
  have⟨l6,one,pos,B,E,b0,b1,e0,eX,hw⟩:=fw.aa dk hi;show∃E,wc ε γ.length E (6 * C) (aK Η i (.υ k ds)) (iy (((aK Η i (.υ k ds)).map ω).zip ((aK Η i (.υ k ds)).map (·.2.1))))/\6 * C * E<=iK X C/\XX E (6 * C)/\(∀d∈aK Η i (.υ k ds),∃c,d.2.2=[c])/\∀d∈aK Η i (.υ k ds),Sz 300 (ω d);generalize Um:aK Η i (.υ k ds)=ws at *
  have Z_:0 < B * E:=aa2 b0 e0;have be1:B * E<=1000000 * X:=abG b1 eX (aaj e0) @_;have se0:0 < ε.2 * (B * E):=aa2 s0 Z_;have se1:ε.2 * (B * E)<=1000 * (1000000 * X):=abG s1 be1 (aaj Z_) @_
  have nb:=sv (E:=E) (B:=B) (C:=C) b0 e0 (aaL be1 ()) () () ((ws.map ω).zip (ws.map (·.2.1))) (0,1) 0 (by rw[abB,aac,aac];omega) (by rw[Int.natCast_zero,Int.zero_mul];exact Uz) (λp hp=>by
   have⟨q1,q2⟩:=abH hp;have⟨d1,m1,x1⟩:=aah.mp q1;have⟨d2,m2,x2⟩:=aah.mp q2
   exact⟨by rw[<-x1];exact(hw d1 m1).ch,by rw[<-x2];exact OD (hw d2 m2).py e0 () () c1⟩)
  have red:Red (iy ((ws.map ω).zip (ws.map (·.2.1)))):=AB _ _ ⟨@_,@_⟩ λp hp=>by have⟨q1,q2⟩:=abH hp;have⟨d1,m1,x1⟩:=aah.mp q1;have⟨d2,m2,x2⟩:=aah.mp q2;exact⟨by rw[<-x1];exact(hw d1 m1).ch.pos,by rw[<-x2];exact(hw d2 m2).py.red.pos⟩
  refine⟨ε.2 * (B * E),⟨⟨λd hd=>(hw d hd).to,pos,by rw[one];grind⟩,λd hd=>⟨s0,su,(hw d hd).ch.pos,(hw d hd).ch.u,?_⟩,⟨red,?_,?_⟩,se0,()⟩,Ul _ (),⟨Int.lt_of_le_of_lt se1 (),()⟩,λd hd=>⟨_,(hw d hd).one⟩,λd hd=>(hw d hd).ch.sz⟩
  ·have:=zz E (tq s0 (hw d hd).ch.pos (Hk ε) (hw d hd).ch.he);rwa[acA]at this
  ·have:=zz ε.2 nb.he;rwa[aa7]at this
  ·refine QZ red.pos nb.ab ?_;refine aaN ?_ ();rw[abB,aac,aac];omega
def rw_at(h:i < γ.length):γ[i]? =some (d7 γ i):=by unfold d7;rw[aab,aaa h];rfl
abbrev yP(γ:List Rw)(Η:Pl)(i:Nat):List cG:=PB Η i (d7 γ i)
abbrev yO(γ:List Rw)(Η:Pl)(i:Nat):Fr:=RH Η i (d7 γ i)
def FW.sys(fw:FW ε γ X C)(dk:gL γ Η)(b1:1<=iK X C):Sys ε γ.length (iK X C) (yP γ Η) (yO γ Η):=by have⟨_,_,_,v0,v1,_⟩:=fw.sh;refine⟨fw.n1,v0,v1,b1,λi hi=>?_⟩;have⟨E,p,l,_⟩:=fw.Hy dk (rw_at hi);exact⟨E,_,p,l⟩
structure i_(ε:Fr)(γ:List Rw)(Η:Pl)(tb:List Fr):Prop where
 tab:Tab ε γ.length (yP γ Η) (yO γ Η) tb
 bot:∀i,i < γ.length->(tb.getD i (0,1)).2 < 2 ^ 1030
end
def IU(A:Addr):DF:=λas M q _=>∃ε γ i r k Η X C,as=[aD A ε γ,.int (i:Nat),.loc k]/\M[k]? =some (dP Η)/\γ[i]? =some r/\gL γ Η/\FW ε γ X C/\∀E',q (cw (mE ε γ.length i (PB Η i r) (RH Η i r))) (M++E')
def nU:Ε ["floor","place","doors","ways","paid"] ["floor","place","doors"] (τ Cp):=.of rfl
def HG(F:cX K "row_of" "row_of" Cp f fd)(E:Ev K mg w Cm)(Ρ:da P w K mg base 1 Cm "kind" ["self","place"] (oo Cm) aM aN){Mb:Addr}{MP:FuncData}(n8:aB P w K mg base 5 "led_row" ["floor","place","ways","share","given"] (Vj Cm) Mb MP){pF:Addr}{oW:FuncData}(fh:da P w K mg base 2 Cm "pay" ["self","place"] (PH Cm) pF oW){zP:Addr}{AQ:FuncData}(gq:da P w K mg base 1 Cm "share" ["self"] (Jo Cm) zP AQ){Gq:Addr}{Gu:FuncData}(mw:aB P w K mg base 3 "ways_from" ["floor","place","doors"] (N5 Cm) Gq Gu){rK:Addr}{sQ:FuncData}(gF:aB P w K mg base 4 "weighed" ["chances","numbers"] rM rK sQ):av P w K mg base (bY P w) 6 f fd ["floor","place","doors"] (cK K (IU Cm)):=by
 refine F.dE nU (λds M q x h=>?_) (λaX A outer s H E' hr=>⟨_,(η (aI (eZ hr (bX Ρ hr ξ (jv 0) (Τ (jv 1) θ)) jV) (μ (Ζ (ao n8 hr ξ (Τ (jv 0) (Τ (jv 1) (ι (ma θ) (ι (lM gq hr ξ (jv 0)) (ι (bX fh hr ξ (jv 0) (Τ (jv 1) θ)) θ aS) aS))))))) Υ)
   (η (Γ 3 nU.nd (ao mw hr ξ (Τ (jv 0) (Τ (jv 1) (Τ (jv 2) θ)))))
   (η (Γ 4 nU.nd (ao gF hr ξ (ι (dX (ys:=[]) (Ω:=[]) (.of nU rfl rfl rfl) (aV (jv 3)) (λC s H fp=>(Μ (jv 0) ψ))) (ι (dX (ys:=[]) (Ω:=[]) (.of nU rfl rfl rfl) (aV (jv 3)) (λC s H fp=>(Μ (jv 0) ψ))) θ))))
   (μ (Ζ (ao n8 hr ξ (Τ (jv 0) (Τ (jv 1) (Τ (jv 3) (ι (lM gq hr ξ (jv 0)) (Τ (jv 4) θ) aS)))))))))),λds M q x h=>?_⟩)
 ·have⟨ε,γ,i,r,k,Η,X,C,rfl,_⟩:=h;rfl
 ·have⟨ε,γ,i,r,k,Η,X,C,rfl,hk,hi,dk,fw,h⟩:=h;have il:=(aaf.mp hi).1;have lY:=fw.pl.len;have rm:r∈γ:=aam hi;have ro:=(fw.pl.row r rm).1;have⟨Ep,p,_,sz,one,RP⟩:=fw.Hy dk hi;have sl:∀{z:Nat},z<=1000->z<=sizeLine:=λh=>aas h @_;refine⟨⟨_,_,.inl rfl,rfl⟩,ε,γ,i,r,rfl,hi,?_⟩;cases r with
  | fin pp=>
   refine⟨λ_=>?_,λz=>(nomatch z)⟩;walk_at "vc";refine⟨sl @_,?_⟩;refine⟨⟨_,_,.inl rfl,rfl⟩,ε,γ,rfl,?_⟩;refine⟨⟨_,_,.inl rfl,rfl⟩,ε,γ,i,.fin pp,rfl,hi,ro,?_⟩;exact⟨ε,γ,i,[],pp,Ep,6 * C,rfl,il,lY,fw.pl.sh,one,p,sz,RP,h⟩
  | υ kd ds=>
   refine⟨λz=>aaJ (aaA z) ro.1,λ_=>?_⟩;have⟨l6,_,_,B,E,b0,b1,e0,eX,hw⟩:=fw.aa dk hi;have c9:=fw.c9;have c1:=fw.c1;have x1:=fw.x1;have h:∀E',q (cw (mE ε γ.length i (aK Η i (.υ kd ds)) (iy (((aK Η i (.υ kd ds)).map ω).zip ((aK Η i (.υ kd ds)).map (·.2.1)))))) (M++E'):=h;have p:wc ε γ.length Ep (6 * C) (aK Η i (.υ kd ds)) (iy (((aK Η i (.υ kd ds)).map ω).zip ((aK Η i (.υ kd ds)).map (·.2.1)))):=p;have one:∀d∈aK Η i (.υ kd ds),∃c,d.2.2=[c]:=one;have RP:∀d∈aK Η i (.υ kd ds),Sz 300 (ω d):=RP;refine⟨ε,γ,i,.υ kd ds,k,Η,rfl,hk,hi,ro,dk,?_⟩;generalize aK Η i (.υ kd ds)=ws at *
   dsimp only[kR,eF];walk_at "vc";refine⟨by rw[aac];exact sl (),?_⟩;refine d9 (F:=λx d=>x=fe d/\d∈ws) (f:=λd=>Ξ (ω d)) (as:=ws) trivial (λx d hx qq hq=>?_) (kT fe ws ws λx hx=>hx) ?_
   ·have⟨rfl,hd⟩:=hx;walk_at "vc";exact N4 (hw d hd).one hq
   rw[aaQ];refine⟨by rw[aac];exact sl (),?_⟩;refine d9 (F:=λx d=>x=fe d/\d∈ws) (f:=λd=>Ξ d.2.1) (as:=ws) trivial (λx d hx qq hq=>?_) (kT fe ws ws λx hx=>hx) ?_
   ·have⟨rfl,hd⟩:=hx;walk_at "vc";exact Oz hq
   rw[aaQ];refine⟨ws.map ω,ws.map (·.2.1),E,B,C,by rw[aaK,aaK];rfl,by rw[aac];exact l6,b0,e0,?_,(),(),λc hc=>?_,λc hc=>?_,?_⟩
   ·have:B * E<=1000000 * X:=abG b1 eX (aaj e0) @_;exact aaL this ()
   ·have⟨d,hd,rfl⟩:=aah.mp hc;exact(hw d hd).ch
   ·have⟨d,hd,rfl⟩:=aah.mp hc;exact OD (hw d hd).py e0 () () c1
   refine⟨⟨_,_,.inl rfl,rfl⟩,ε,γ,rfl,?_⟩;exact⟨ε,γ,i,ws,_,Ep,6 * C,rfl,il,lY,fw.pl.sh,one,p,sz,RP,h⟩
def PR(A:Addr):DF:=λas M q _=>∃ε γ k Η X C,as=[aD A ε γ,.loc k]/\M[k]? =some (dP Η)/\gL γ Η/\FW ε γ X C/\iK X C<=2 ^ 450/\(12 * iK X C) ^ γ.length < 2 ^ 1030/\∀tb,i_ ε γ Η tb->q (.loc M.length) (M++[.lst (tb.map Ξ)])
def uh:Ε ["floor","doors"] ["floor","doors"] (τ pS):=.of rfl
def Aj(F:cX K "worths_by" "worths_by" pS f fd)(E:Ev K mg w Cm){Ft:Addr}{FF:FuncData}(mj:aB P w K mg base 4 "answer_of" ["rows"] yF Ft FF)(aZ:da P w K mg base 1 Cm "size" ["self"] (zY Cm) dZ eD){Q1:Addr}{OU:FuncData}(yH:aB P w K mg base 6 "row_of" ["floor","place","doors"] (IU Cm) Q1 OU):av P w K mg base (bY P w) 7 f fd ["floor","doors"] (cK K (PR Cm)):=by
 refine F.dE uh (λds M q x h=>?_) (λaX A outer s H E' hr=>⟨_,(μ (Ζ (ao mj hr ξ (ι (Kn (ys:=["floor","doors"]) (Ω:=[0,1]) (.of uh rfl rfl rfl) (b_ E.bR (ι (lM aZ hr ξ (jv 0)) θ aS)) (λC s H fp=>(bK (ao yH hr (fv (P:=P) (w:=w)) (Τ (jv 1) (Τ (jv 0) (Τ (jv 2) θ))))))) θ)))),λds M q x h=>?_⟩)
 ·have⟨ε,γ,k,Η,X,C,rfl,_⟩:=h;rfl
 ·have⟨ε,γ,k,Η,X,C,rfl,hk,dk,fw,j3,pX,h⟩:=h;have lY:=fw.pl.len;have n1:=fw.n1;have b1:1<=iK X C:=by have⟨E,p,l,_⟩:=fw.Hy dk (rw_at (show 0 < γ.length by omega));have c9:=fw.c9;have:=aaq (show 1<=E by have:=p.e0;omega) (show 0<=6 * C by omega);omega
  have S:=fw.sys dk b1;have⟨tb,z,N,sol,n0,Tu,tab,bot⟩:=S.ex lY;have sl:∀{z:Nat},z<=1000->z<=sizeLine:=λh=>aas h @_;walk_at "vc";dsimp only[K6];walk_at "vc";refine⟨⟨_,_,.inl rfl,rfl⟩,ε,γ,rfl,?_⟩;refine⟨⟨(),()⟩,by rw[dU];exact sl (),?_⟩;refine oZ (f:=λx=>match x with| .int j=>cw ((hZ ε γ.length (yP γ Η) (yO γ Η)).getD j.toNat [])| _=>.bF) _ _ (λx XR q' hq=>?_) ?_
  ·have⟨j,hj,rfl⟩:=rR XR;have hj:j < γ.length:=()
   rw[Int.zero_add]at hq⊢;have hq:q' (cw ((hZ ε γ.length (yP γ Η) (yO γ Η)).getD j [])) M:=hq;have e:(hZ ε γ.length (yP γ Η) (yO γ Η)).getD j []=mE ε γ.length j (yP γ Η j) (yO γ Η j):=by unfold hZ;rw[aab,aal,aaU hj];rfl
   rw[e]at hq;exact⟨ε,γ,j,d7 γ j,k,Η,X,C,rfl,hk,rw_at hj,dk,fw,λE'=>jN (.old (h8 _)) hq⟩
  have er:=DO (hZ ε γ.length (yP γ Η) (yO γ Η)) [] cw;rw[lx]at er;rw[aaQ,show((γ.length:Int)).toNat=γ.length by omega];refine(λ(key:∀l,l=(hZ ε γ.length (yP γ Η) (yO γ Η)).map cw->yF [.lst l] M q _)=>key _ er) λl hl=>?_;subst hl;have ln:∀r∈hZ ε γ.length (yP γ Η) (yO γ Η),r.length=γ.length+1:=λr fZ=>by unfold hZ at fZ;have⟨i,hi,rfl⟩:=aah.mp fZ;have⟨E,p,_⟩:=fw.Hy dk (rw_at (aa4.mp hi));exact(C1 (aa4.mp hi) p).1
  have bd:=S.bd;refine⟨hZ ε γ.length (yP γ Η) (yO γ Η),γ.length,iK X C,tb,z,N,rfl,⟨by rw[lx];exact n1,by rw[lx];exact lY,lY,ln,by rw[lx];exact bd,j3⟩,n1,tab.len,by rw[lx];exact sol,n0,λi hi=>⟨(tab.red i hi).pos,(tab.red i hi).low,Tu i hi⟩,by rw[lx];exact S.ZT,?_⟩;exact h tb ⟨tab,λi hi=>aaL (bot i hi) pX⟩
def EZ(A:Addr):DF:=λas M q _=>∃ε γ k1 k2 p1 p2 X C,as=[aD A ε γ,.loc k1,.loc k2]/\M[k1]? =some (dP p1)/\M[k2]? =some (dP p2)/\FW ε γ X C/\iK X C<=2 ^ 450/\(12 * iK X C) ^ γ.length < 2 ^ 1030/\(∀i,i < γ.length->fg γ (ai p1 p2) i=true)/\∀tb,i_ ε γ (cT γ (ai p1 p2) γ.length) tb->∀m1 m2,q (.loc (M.length+2)) (M++[m1,m2,.lst (tb.map Ξ)])
def B8:Ε ["floor","plan_one","plan_other"] ["floor","plan_one","plan_other"] (τ oY):=.of rfl
def Ba(F:cX K "worths_of" "worths_of" oY f fd)(E:Ev K mg w Cm){p_:Addr}{pL:FuncData}(fi:aB P w K mg base 7 "worths_by" ["floor","doors"] (PR Cm) p_ pL){sj:Addr}{rW:FuncData}(gI:aB P w K mg base 4 "doors_of" ["floor","plans"] (tK Cm) sj rW):av P w K mg base (bY P w) 8 f fd ["floor","plan_one","plan_other"] (cK K (EZ Cm)):=by
 refine F.dE B8 (λds M q x h=>?_) (λaX A outer s H E' hr=>⟨_,(μ (Ζ (ao fi hr ξ (Τ (jv 0) (ι (ao gI hr ξ (Τ (jv 0) (ι (NJ (jv 1) (jv 2)) θ))) θ aS))))),λds M q x h=>?_⟩)
 ·have⟨ε,γ,k1,k2,p1,p2,X,C,rfl,_⟩:=h;rfl
 ·have⟨ε,γ,k1,k2,p1,p2,X,C,rfl,h1,h2,fw,j3,pX,gd,h⟩:=h;refine⟨ε,γ,M.length,ai p1 p2,rfl,Vx.pls ⟨k1,k2,ax,bc h1,bc h2⟩,fw.pl,gd,?_⟩;refine⟨ε,γ,_,_,X,C,rfl,ax,tS gd,fw,j3,pX,λtb wt=>?_⟩;have:=h tb wt (.eW [Sum.inr "one",Sum.inr "other"] [.loc k1,.loc k2]) (dP (cT γ (ai p1 p2) γ.length));simpa [List.append_assoc] using this
def KW(x:Nat->Rat):∀n,∃i,i < n+1/\∀j,j < n+1->x i<=x j
 | 0=>⟨0,(),λj hj=>by rw[show j=0 by omega];grind⟩
 | n+1=>by
  have⟨i,hi,h⟩:=KW x n;by_cases c:x (n+1)<=x i
  ·refine⟨n+1,(),λj hj=>?_⟩;by_cases e:j=n+1
   ·rw[e];grind
   ·have:=h j ();grind
  ·refine⟨i,(),λj hj=>?_⟩;by_cases e:j=n+1
   ·rw[e];grind
   ·exact h j ()
def xG{n:Nat}{y:Nat->Rat}{m:Rat}(hm:∀j,j < n->m<=y j):∀{aa:List cG},(∀d∈aa,0<=d.1/\d.1 < n)->(∀d∈aa,0<=cV d)->aY cV aa * m<=aY (λd=>cV d * y d.1.toNat) aa
 | [],_,_=>by show(0:Rat) * m<=0;grind
 | d::aa,h1,h2=>by have i:=xG hm (λx hx=>h1 x (aad _ hx)) (λx hx=>h2 x (aad _ hx));have t:=h1 d aae;have:=aa3 (hm d.1.toNat ()) (h2 d aae);show(cV d+aY cV aa) * m<=cV d * y d.1.toNat+aY (λd=>cV d * y d.1.toNat) aa;grind
def Ry{s:Rat}{ws:Nat->List cG}{δ r:Nat->Rat}(s0:0<=s)(s1:s < 1)(wo:∀i,i < n->BA n (ws i))(h:∀i,i < n->δ i=r i+s * aY (λd=>cV d * δ d.1.toNat) (ws i))(r0:∀i,i < n->0<=r i):∀i,i < n->r i<=δ i:=λi hi=>by
 obtain⟨k,rfl⟩:∃k,n=k+1:=⟨n - 1,()⟩;have⟨t,ht,UG⟩:=KW δ k;have nn:0<=δ t:=by
  by_cases c:0<=δ t
  ·exact c
  ·have g:=xG UG (wo t ht).to (wo t ht).c0;have o:=Rat.mul_le_mul_of_nonneg_right (wo t ht).one (show 0<= -δ t by grind);have g2:δ t<=aY (λd=>cV d * δ d.1.toNat) (ws t):=by grind
   have g3:=aa3 g2 s0;have e:=h t ht;have r:=r0 t ht;have:=Rat.mul_pos (show 0 < 1 - s by grind) (show 0 < -δ t by grind);grind
 have g:=xG (y:=δ) (m:=0) (λj hj=>by have:=UG j hj;grind) (wo i hi).to (wo i hi).c0;have:=Rat.mul_nonneg s0 (show 0<=aY (λd=>cV d * δ d.1.toNat) (ws i) by grind);have e:=h i hi;grind
def vX(c:Rat)(f:cG->Rat):∀ds:List cG,aY (λd=>c * f d) ds=c * aY f ds
 | []=>by show(0:Rat)=c * 0;grind
 | d::ds=>by show c * f d+aY (λd=>c * f d) ds=c * (f d+aY f ds);rw[vX c f ds];grind
section
variable{ε:Fr}{ws:Nat->List cG}{gv:Nat->Fr}{tb:List Fr}
def j4(ε:Fr)(ws:Nat->List cG)(gv:Nat->Fr)(x:Nat->Rat)(i:Nat):Rat:=val (gv i)+val ε * aY (λd=>cV d * x d.1.toNat) (ws i)
def Tab.cmp(S:Sys ε n B ws gv)(h:Tab ε n ws gv tb){x:Nat->Rat}{sg:Rat}(hr:∀i,i < n->0<=sg * (j4 ε ws gv x i - x i)):∀i,i < n->sg * (j4 ε ws gv x i - x i)<=sg * (val (tb.getD i (0,1)) - x i):=by
 refine Ry (δ:=λi=>sg * (val (tb.getD i (0,1)) - x i)) (r:=λi=>sg * (j4 ε ws gv x i - x i)) S.s0 S.s1 (ws:=ws) (λi hi=>?_) (λi hi=>?_) hr
 ·have⟨E,C,p,_⟩:=S.Hy i hi;exact p.wo
 ·have e:=h.eq i hi;have l:aY (λd=>cV d * (sg * (val (tb.getD d.1.toNat (0,1)) - x d.1.toNat))) (ws i)=sg * (aY (λd=>cV d * val (tb.getD d.1.toNat (0,1))) (ws i) - aY (λd=>cV d * x d.1.toNat) (ws i)):=by rw[<-sL,<-vX];exact ng λd _=>by grind
  show sg * (val (tb.getD i (0,1)) - x i)=sg * (j4 ε ws gv x i - x i)+val ε * aY (λd=>cV d * (sg * (val (tb.getD d.1.toNat (0,1)) - x d.1.toNat))) (ws i);rw[l,e];unfold j4;grind
end
def aw:List (Int×Nat)->Pl->Prop
 | [],[]=>True
 | (k,c)::r,(k',v)::p=>k=k'/\0<=v/\v < c/\aw r p
 | _,_=>False
def cn:List (Int×Nat)->List Pl
 | []=>[[]]
 | (k,c)::r=>(List.range c).flatMap λj:Nat=>(cn r).map λp=>(k,(j:Int))::p
def gT:∀{kc:List (Int×Nat)} {p:Pl},aw kc p->p∈cn kc
 | [],[],_=>aa8.mpr rfl
 | (k,c)::r,(k',v)::p,h=>by have⟨rfl,v0,v1,h⟩:=h;refine List.mem_flatMap.mpr ⟨v.toNat,aa4.mpr (),aah.mpr ⟨p,gT h,?_⟩⟩;rw[aco v0]
 | [],_::_,h=>h.elim
 | _::_,[],h=>h.elim
def bD:∀{kc:List (Int×Nat)} {p:Pl},aw kc p->p.map (·.1)=kc.map (·.1)
 | [],[],_=>rfl
 | (k,c)::r,(k',v)::p,h=>by have⟨rfl,_,_,h⟩:=h;rw[aaM,aaM,bD h]
 | [],_::_,h=>h.elim
 | _::_,[],h=>h.elim
def r_:∀{kc:List (Int×Nat)} {p:Pl} {i v:Int},aw kc p->Λ p i=some v->∃c,(i,c)∈kc/\0<=v/\v < (c:Int)
 | [],[],_,_,_,h=>by cases h
 | (k,c)::r,(k',v')::p,i,v,h,g=>by
  have⟨rfl,v0,v1,h⟩:=h;unfold Λ at g;split at g
  ·rename_i e;have e:k=i:=e;cases g;exact⟨c,by rw[<-e];exact aae,v0,v1⟩
  ·have⟨c',m,a⟩:=r_ h g;exact⟨c',aad _ m,a⟩
 | [],_::_,_,_,h,_=>h.elim
 | _::_,[],_,_,h,_=>h.elim
def AI:∀{kc:List (Int×Nat)} {p:Pl} {i v:Int},aw kc p->(∀c,(i,c)∈kc->0<=v/\v < (c:Int))->aw kc (p.map λq=>if q.1=i then (q.1,v) else q)
 | [],[],_,_,_,_=>trivial
 | (k,c)::r,(k',v')::p,i,v,h,g=>by
  have⟨rfl,v0,v1,h⟩:=h;have ih:=AI h λc hc=>g c (aad _ hc);show aw ((k,c)::r) ((if k=i then (k,v) else (k,v'))::p.map λq=>if q.1=i then (q.1,v) else q);by_cases e:k=i
  ·rw[aaw e];have:=g c (by rw[<-e];exact aae);exact⟨rfl,this.1,this.2,ih⟩
  ·rw[aav e];exact⟨rfl,v0,v1,ih⟩
 | [],_::_,_,_,h,_=>h.elim
 | _::_,[],_,_,h,_=>h.elim
def nC{i:Int}:∀{p:Pl},i∈p.map (·.1)->(Λ p i).isSome=true
 | q::p,h=>by
  unfold Λ;split
  ·rfl
  ·rcases aaC.mp h with e| e
   ·rename_i ne;exact aaJ e.symm ne
   ·exact nC e
def HI{p:Pl}{i v:Int}(h:aw kc p)(hk:i∈kc.map (·.1))(g:∀c,(i,c)∈kc->0<=v/\v < (c:Int)):aw kc (gR p i v):=by unfold gR;rw[aaw (nC (by rw[bD h];exact hk))];exact AI h g
def CC{α:Type}{P Q:α->Bool}:∀{l:List α},(∀a∈l,P a=true->Q a=true)->∀{b:α},b∈l->Q b=true->P b=false->l.countP P < l.countP Q
 | a::l,h,b,hb,hq,hp=>by
  have le:l.countP P<=l.countP Q:=List.countP_mono_left λx hx=>h x (aad _ hx);rw[List.countP_cons,List.countP_cons];rcases aaC.mp hb with e| e
  ·subst e;rw[hq,hp];show l.countP P+0 < l.countP Q+1;omega
  ·have:=CC (λx hx=>h x (aad _ hx)) e hq hp;have ha:=h a aae;cases hP:P a with
   | false=>rw[aav @_];split <;> omega
   | true=>rw[ha hP,aaw rfl];omega
noncomputable def ZD(ε:Fr)(γ:List Rw)(Η:Pl)(i:Nat):Rat:=open Classical in if h:∃tb,i_ ε γ Η tb then val (h.choose.getD i (0,1)) else 0
noncomputable def BN(ε:Fr)(γ:List Rw)(sg:Rat)(Η:Pl):Rat:=dG (λi=>sg * ZD ε γ Η i) γ.length
def xw{ε:Fr}{γ:List Rw}{Η:Pl}{X:Int}{tb:List Fr}(fw:FW ε γ X C)(dk:gL γ Η)(b1:1<=iK X C)(h:i_ ε γ Η tb)(i:Nat):ZD ε γ Η i=val (tb.getD i (0,1)):=by have ex:∃tb,i_ ε γ Η tb:=⟨tb,h⟩;unfold ZD;rw[dif_pos ex,(fw.sys dk b1).uniq ex.choose_spec.tab h.tab]
def wW{f g:Nat->Rat}:∀{n:Nat},(∀i,i < n->f i<=g i)->∀{k:Nat},k < n->f k < g k->dG f n < dG g n
 | n+1,h,k,hk,hl=>by
  have le:∀{m:Nat},(∀i,i < m->f i<=g i)->dG f m<=dG g m:=λ{m}=>by
   induction m with
   | zero=>intro _;show(0:Rat)<=0;grind
   | succ m ih=>
    intro h;have:=ih λi hi=>h i (abY hi);have:=h m (abv _);show dG f m+f m<=dG g m+g m;grind
  show dG f n+f n < dG g n+g n;by_cases e:k=n
  ·subst e;have:=le λi hi=>h i (abY hi);grind
  ·have:=wW (λi hi=>h i (abY hi)) (show k < n by omega) hl;have:=h n (abv _);grind
noncomputable def above(ε:Fr)(γ:List Rw)(sg:Rat)(mk:Pl->Pl)(kc:List (Int×Nat))(p:Pl):Nat:=open Classical in (cn kc).countP λq=>decide (BN ε γ sg (mk p) < BN ε γ sg (mk q))
def J4{ε:Fr}{γ:List Rw}{sg:Rat}{mk:Pl->Pl}{p q:Pl}(hq:aw kc q)(lt:BN ε γ sg (mk p) < BN ε γ sg (mk q)):above ε γ sg mk kc q < above ε γ sg mk kc p:=by unfold above;refine CC (λa _ ha=>?_) (gT hq) (decide_eq_true lt) (decide_eq_false (by grind));have:=aaA ha;exact decide_eq_true (by grind)
def mv(ns:List Fr):Fr:=ns.foldl (λf n=>if cU f n then n else f) (ns.headD (0,1))
def my(ns:List Fr):Fr:=ns.foldl (λf n=>if cU n f then n else f) (ns.headD (0,1))
def BL:DF:=λas M q _=>∃p r k l,as=[Ξ p,Ξ r]/\Sz k p/\Sz l r/\k+l+1<=8000/\q (.bl (cU p r)) M
def MN:Ε ["one","other"] ["one","other"] (τ CU):=.of rfl
def K8(F:cX K "under" "under" CU f fd)(E:Ev K mg w Cm):av P w K mg base (bY P w) 1 f fd ["one","other"] (cK K BL):=by
 refine F.dE MN (λds M q x h=>?_) (λaX A outer s H E' hr=>⟨_,(μ (Ζ (I_ (aR (Μ (jv 0) ψ) (Μ (jv 1) ψ)) (aR (Μ (jv 1) ψ) (Μ (jv 0) ψ))))),λds M q x h=>?_⟩)
 ·have⟨p,r,k,l,rfl,_⟩:=h;rfl
 ·have⟨p,r,k,l,rfl,hp,fZ,hk,h⟩:=h;exact⟨⟨gs hp (),de fZ ()⟩,⟨gs fZ (),de hp ()⟩,h⟩
def wQ(f:List Fr->Fr):DF:=λas M q _=>∃ns:List Fr,as=[.lst (ns.map Ξ)]/\ns≠[]/\(∀n∈ns,Sz 1300 n)/\q (Ξ (f ns)) M
def jO:Ε ["numbers","found","number"] ["numbers"] (τ pU):=.of rfl
def zw(F:cX K "greatest" "greatest" pU f fd)(E:Ev K mg w Cm){CD:Addr}{Cj:FuncData}(lE:aB P w K mg base 1 "under" ["one","other"] BL CD Cj):av P w K mg base (bY P w) 2 f fd ["numbers"] (cK K (wQ mv)):=by
 refine F.dE jO (λds M q x h=>?_) (λaX A outer s H E' hr=>⟨_,(η (Γ 1 jO.nd (Μ (jv 0) ψ))
   (η (cC (aV (jv 0)) (au (i:=2) jO.nd rfl (Or.inl rfl)) aG (μ (aI (bL (ao lE hr ξ (Τ (jv 1) (Τ (jv 2) θ)))) (μ (Γ 1 jO.nd (jv 2))) Υ)))
   (μ (Ζ (jv 1))))),λds M q x h=>?_⟩)
 ·have⟨ns,rfl,_⟩:=h;rfl
 ·have⟨ns,rfl,h0,hn,h⟩:=h;have⟨n0,ns',rfl⟩:=abe h0;walk_at "vc";refine Ι (d:=.lst ((n0::ns').map Ξ)) rfl bu ?_;refine eK (i:=0) (d:=.lst ((n0::ns').map Ξ)) rfl rfl ?_;refine bx (λxs ρ M'=>M'=M/\∃(rest:List Fr) (f:Fr) (a:Option Dt),xs=rest.map Ξ/\(∀p∈rest,Sz 1300 p)/\Sz 1300 f/\rest.foldl (λf n=>if cU f n then n else f) f=mv (n0::ns')/\ρ=[some (.lst ((n0::ns').map Ξ)),some (Ξ f),a]) (λxs ρ M' hj=>trivial) (λx xs ρ M' hj fW=>?_) (λρ M' hj=>?_) _ _ _ ⟨rfl,n0::ns',n0,none,rfl,hn,hn n0 aae,rfl,rfl⟩
  ·have⟨rfl,rest,f,a,ex,yN,hw,hf,rfl⟩:=hj;cases rest with
   | nil=>cases ex
   | cons p rest=>
    cases ex;have hp:=yN p aae;rw[abI]at hf;refine⟨f,p,1300,1300,rfl,hw,hp,@_,λz=>?_,λz=>?_⟩
    ·rw[z,aaw rfl]at hf;exact fW _ _ ⟨rfl,rest,p,_,rfl,λp hp=>yN p (aad _ hp),hp,hf,rfl⟩
    ·rw[z,aav @_]at hf;exact fW _ _ ⟨rfl,rest,f,_,rfl,λp hp=>yN p (aad _ hp),hw,hf,rfl⟩
  ·have⟨rfl,rest,f,a,ex,yN,hw,hf,rfl⟩:=hj;cases rest with
   | nil=>rw[<-hf]at h;exact h
   | cons p rest=>cases ex
def qQ:Ε ["numbers","found","number"] ["numbers"] (τ Cq):=.of rfl
def Js(F:cX K "least" "least" Cq f fd)(E:Ev K mg w Cm){CD:Addr}{Cj:FuncData}(lE:aB P w K mg base 1 "under" ["one","other"] BL CD Cj):av P w K mg base (bY P w) 2 f fd ["numbers"] (cK K (wQ my)):=by
 refine F.dE qQ (λds M q x h=>?_) (λaX A outer s H E' hr=>⟨_,(η (Γ 1 qQ.nd (Μ (jv 0) ψ))
   (η (cC (aV (jv 0)) (au (i:=2) qQ.nd rfl (Or.inl rfl)) aG (μ (aI (bL (ao lE hr ξ (Τ (jv 2) (Τ (jv 1) θ)))) (μ (Γ 1 qQ.nd (jv 2))) Υ)))
   (μ (Ζ (jv 1))))),λds M q x h=>?_⟩)
 ·have⟨ns,rfl,_⟩:=h;rfl
 ·have⟨ns,rfl,h0,hn,h⟩:=h;have⟨n0,ns',rfl⟩:=abe h0;walk_at "vc";refine Ι (d:=.lst ((n0::ns').map Ξ)) rfl bu ?_;refine eK (i:=0) (d:=.lst ((n0::ns').map Ξ)) rfl rfl ?_;refine bx (λxs ρ M'=>M'=M/\∃(rest:List Fr) (f:Fr) (a:Option Dt),xs=rest.map Ξ/\(∀p∈rest,Sz 1300 p)/\Sz 1300 f/\rest.foldl (λf n=>if cU n f then n else f) f=my (n0::ns')/\ρ=[some (.lst ((n0::ns').map Ξ)),some (Ξ f),a]) (λxs ρ M' hj=>trivial) (λx xs ρ M' hj fW=>?_) (λρ M' hj=>?_) _ _ _ ⟨rfl,n0::ns',n0,none,rfl,hn,hn n0 aae,rfl,rfl⟩
  ·have⟨rfl,rest,f,a,ex,yN,hw,hf,rfl⟩:=hj;cases rest with
   | nil=>cases ex
   | cons p rest=>
    cases ex;have hp:=yN p aae;rw[abI]at hf;refine⟨p,f,1300,1300,rfl,hp,hw,@_,λz=>?_,λz=>?_⟩
    ·rw[z,aaw rfl]at hf;exact fW _ _ ⟨rfl,rest,p,_,rfl,λp hp=>yN p (aad _ hp),hp,hf,rfl⟩
    ·rw[z,aav @_]at hf;exact fW _ _ ⟨rfl,rest,f,_,rfl,λp hp=>yN p (aad _ hp),hw,hf,rfl⟩
  ·have⟨rfl,rest,f,a,ex,yN,hw,hf,rfl⟩:=hj;cases rest with
   | nil=>rw[<-hf]at h;exact h
   | cons p rest=>cases ex
structure Lc(ε:Fr)(γ:List Rw)(tb:List Fr):Prop where
 sh:aW ε=true
 len:γ.length<=12
 row:∀r∈γ,gc r/\fK r γ.length=true
 tl:tb.length=γ.length
 ts:∀t∈tb,Sz 1150 t
def gh(ε:Fr)(tb:List Fr):Rw->Fr
 | .fin p=>p
 | .υ k ds=>if k="one" then mv (ds.map (ag ε tb)) else my (ds.map (ag ε tb))
def cL(ε:Fr)(tb:List Fr):Rw->List Nat
 | .fin _=>[]
 | .υ k ds=>if Β k then (List.range ds.length).filter λj=>decide (ag ε tb (ds.getD j d0)=gh ε tb (.υ k ds)) else []
def ze{ε:Fr}{γ:List Rw}{tb:List Fr}{k:Str}{ds:List cG}(f:Lc ε γ tb)(h:Rw.υ k ds∈γ):aq ds γ.length=true/\(Β k=true\/k="chance"):=by
 have h2:=(f.row _ h).2;have h2:(if Β k then aq ds γ.length else if k="chance" then aq ds γ.length&&ar (ds.map ω) else false)=true:=h2;by_cases hk:Β k=true
 ·rw[aaw hk]at h2;exact⟨h2,.inl hk⟩
 ·rw[aav hk]at h2;by_cases hc:k="chance"
  ·rw[aaw hc,aaz]at h2;exact⟨h2.1,.inr hc⟩
  ·rw[aav hc]at h2;cases h2
def Ew{ε:Fr}{γ:List Rw}{tb:List Fr}{k:Str}{ds:List cG}{d:cG}(f:Lc ε γ tb)(h:Rw.υ k ds∈γ)(hd:d∈ds):0<=d.1/\d.1 < γ.length/\Sz 101 d.2.1:=by have h2:=(ze f h).1;unfold aq at h2;rw[aaz,aaz]at h2;have h3:=abN.mp h2.2 d hd;unfold aJ at h3;rw[aaz,aaz,aao,aao]at h3;exact⟨h3.1,h3.2.1,QM h3.2.2 ((f.row _ h).1.2.2.2 d hd).2⟩
def Kz{ε:Fr}{γ:List Rw}{tb:List Fr}{k:Str}{ds:List cG}(f:Lc ε γ tb)(h:Rw.υ k ds∈γ):1<=ds.length/\ds.length<=6:=by have h2:=(ze f h).1;unfold aq at h2;rw[aaz,aaz,aao,aao]at h2;exact h2.1
def EO{ε:Fr}{γ:List Rw}{tb:List Fr}(f:Lc ε γ tb)(h0:0<=t)(h1:t < γ.length):nJ (tb.map Ξ) t=some (Ξ (uC tb t))/\Sz 1150 (uC tb t):=by
 have hl:t.toNat < tb.length:=by rw[f.tl];omega
 have e:uC tb t=tb[t.toNat]:=by unfold uC;rw[List.getD_eq_getElem?_getD,List.getElem?_eq_getElem hl];rfl
 refine⟨?_,by rw[e];exact f.ts _ (aaF hl)⟩;have e2:(tb.map Ξ)[t.toNat]? =some (Ξ (uC tb t)):=by rw[aal,aaa hl,e];rfl
 have:=Ο e2;rwa[show((t.toNat:Nat):Int)=t by omega]at this
def IE{ε:Fr}{γ:List Rw}{tb:List Fr}{k:Str}{ds:List cG}{d:cG}(f:Lc ε γ tb)(h:Rw.υ k ds∈γ)(hd:d∈ds):Sz 1300 (ag ε tb d):=by have⟨a,b,c⟩:=Ew f h hd;exact qZ (NR c (zA (oi f.sh) (EO f a b).2)) @_
def SM(p q:Fr):og [.int p.1,.int p.2] [.int q.1,.int q.2]=decide (p=q):=by
 have⟨a,b⟩:=p;have⟨c,d⟩:=q;show((a==c)&&((b==d)&&true))=_;rw[Bool.and_true];by_cases h1:a=c
 ·by_cases h2:b=d
  ·subst h1 h2;simp
  ·have:¬((a,b)=(c,d)):=λz=>h2 (Prod.mk.inj z).2;rw[decide_eq_false this];simp[h2]
 ·have:¬((a,b)=(c,d)):=λz=>h1 (Prod.mk.inj z).1;rw[decide_eq_false this];simp[h1]
def SA{p r:Fr}{k:Bool->Ms->Prop}(h:k (decide (p=r)) M):Cn (Ξ p) (Ξ r) M (λd M1=>match d with| .bl b=>k b M1| _=>False):=by show k (og [.int p.1,.int p.2] [.int r.1,.int r.2]) M;rw[SM];exact h
def qm(p:Fr->Bool):∀(xs:List Fr) (n:Nat),((iS n (xs.map Ξ)).filter (λx=>match x with| .tup [_,.tup [.int a,.int b]]=>p (a,b)| _=>false)).map (λx=>match x with| .tup [i,_]=>i| _=>.bF)=((List.range xs.length).filter λj=>p (xs.getD j (0,1))).map λj:Nat=>Dt.int ((n+j:Nat):Int)
 | [],n=>rfl
 | x::xs,n=>by
  have ih:=qm p xs (n+1);rw[aay,abR,aaM];show(List.filter _ (.tup [.int n,Ξ x]::iS (n+1) (xs.map Ξ))).map _=_;have e1:((List.map Nat.succ (List.range xs.length)).filter λj=>p ((x::xs).getD j (0,1)))=((List.range xs.length).filter λj=>p (xs.getD j (0,1))).map Nat.succ:=by rw[List.filter_map];rfl
  by_cases hp:p x=true
  ·have h1:(match Dt.tup [.int n,Ξ x] with| .tup [_,.tup [.int a,.int b]]=>p (a,b)| _=>false)=true:=hp;rw[ab3 (by exact h1),ab3 (by exact hp),aaM,aaM,ih,e1,aaK]
   congr 1
   apply abg;intro j _;show Dt.int _=Dt.int _
   congr 2;omega
  ·have h1:¬(match Dt.tup [.int n,Ξ x] with| .tup [_,.tup [.int a,.int b]]=>p (a,b)| _=>false)=true:=hp;rw[ab4 (by exact h1),ab4 (by exact hp),ih,e1,aaK];apply abg;intro j _;show Dt.int _=Dt.int _
   congr 2;omega
def IS(C:Addr):DF:=λas M q _=>∃ε γ tb i j k ds d,as=[aD C ε γ,.int (i:Nat),.int (j:Nat),.lst (tb.map Ξ)]/\γ[i]? =some (.υ k ds)/\ds[j]? =some d/\Lc ε γ tb/\q (Ξ (ag ε tb d)) M
def nR:Ε ["self","place","door","table","taken"] ["self","place","door","table"] (τ kH):=.of rfl
def u9(F:cX K "shown" "Floor.shown" kH f fd)(E:Ev K mg w Cm){J9:Addr}{Ik:FuncData}(oX:aB P w K mg base 3 "plus" ["one","other"] Ks J9 Ik)(gB:aB P w K mg base 3 "times" ["one","other"] x5 uw tH):av P w K mg base (bY P w) 4 f fd ["self","place","door","table"] (cK K (IS Cm)):=by
 refine F.dE nR (λds M q x h=>?_) (λaX A outer s H E' hr=>⟨_,(η (Γ 4 nR.nd (Μ (Μ (Μ (r8 E.dR E.cB (jv 0)) (jv 1)) ψ) (jv 2)))
   (μ (Ζ (ao oX hr ξ (ι (Μ (jv 4) ψ) (ι (ao gB hr ξ (ι (r8 E.dR E.fH (jv 0)) (ι (Μ (jv 3) (Μ (jv 4) ψ)) θ aU))) θ aS) aU))))),λds M q x h=>?_⟩)
 ·have⟨ε,γ,tb,i,j,k,ds,d,rfl,_⟩:=h;rfl
 ·have⟨ε,γ,tb,i,j,k,ds,d,rfl,hi,hj,f,h⟩:=h;have hm:Rw.υ k ds∈γ:=aam hi;have hd:d∈ds:=aam hj;have⟨a,b,c⟩:=Ew f hm hd;have⟨t1,t2⟩:=EO f a b;have hdj:(ds.map fe)[j]? =some (fe d):=by rw[aal,hj];rfl
  refine⟨_,_,_,.inl rfl,rfl,?_⟩;walk_at "vc";refine Ι (xs:=γ.map bo) rfl (Ο (n6 hi)) (OJ (Ι (d:=.lst (ds.map fe)) rfl (Ο hdj) ?_));refine Oz ⟨_,_,_,.inl rfl,rfl,HW (Ι (d:=.lst (tb.map Ξ)) rfl t1 ⟨ε,uC tb d.1,11,1150,rfl,oi f.sh,t2,@_,d.2.1,_,101,1161,rfl,c,zA (oi f.sh) t2,@_,h⟩)⟩
def pR(C:Addr):DF:=λas M q _=>∃ε γ tb i k ds,as=[aD C ε γ,.int (i:Nat),.lst (tb.map Ξ)]/\γ[i]? =some (.υ k ds)/\Lc ε γ tb/\q (.lst (ds.map λd=>Ξ (ag ε tb d))) M
def jQ:Ε ["self","place","table"] ["self","place","table"] (τ gJ):=.of rfl
def pT(F:cX K "all_shown" "Floor.all_shown" gJ f fd)(E:Ev K mg w Cm)(aL:da P w K mg base 2 Cm "doors" ["self","place"] (sx Cm) c8 c_){AW:Addr}{A2:FuncData}(jk:da P w K mg base 4 Cm "shown" ["self","place","door","table"] (IS Cm) AW A2):av P w K mg base (bY P w) 5 f fd ["self","place","table"] (cK K (pR Cm)):=by
 refine F.dE jQ (λds M q x h=>?_) (λaX A outer s H E' hr=>⟨_,(μ (Ζ (Kn (ys:=["place","table","self"]) (Ω:=[1,2,0]) (.of jQ rfl rfl rfl) (b_ E.bR (ι (cQ E.bJ (ι (bK (bX aL hr ξ (jv 0) (Τ (jv 1) θ))) θ aS)) θ aS)) (λC s H fp=>(bX jk hr (fv (P:=P) (w:=w)) (jv 3) (Τ (jv 1) (Τ (jv 0) (Τ (jv 2) θ)))))))),λds M q x h=>?_⟩)
 ·have⟨ε,γ,tb,i,k,ds,rfl,_⟩:=h;rfl
 ·have⟨ε,γ,tb,i,k,ds,rfl,hi,f,h⟩:=h;have hm:Rw.υ k ds∈γ:=aam hi;have ro:=(f.row _ hm).1;have l6:=Kz f hm;refine⟨⟨_,_,.inl rfl,rfl⟩,ε,γ,i,.υ k ds,rfl,hi,ro,cf (ds:=ds.map fe) (ik ds) ?_⟩;walk_at "vc";refine az (d:=.lst (ds.map fe)) (xs:=ds.map fe) rfl ?_;rw[aac];refine⟨⟨(),()⟩,by rw[dU];exact aas (show _<=6 by omega) @_,?_⟩;refine oZ (f:=λx=>match x with| .int j=>Ξ (ag ε tb (ds.getD j.toNat d0))| _=>.bF) _ _ (λx XR q' hq=>?_) ?_
  ·have⟨j,hj,rfl⟩:=rR XR;have hj:j < ds.length:=()
   have e:ds.getD (0+(j:Int)).toNat d0=ds[j]:=by rw[show(0+(j:Int)).toNat=j by omega,aab,aaa hj];rfl
   have hq:q' (Ξ (ag ε tb (ds.getD (0+(j:Int)).toNat d0))) M:=hq;rw[e]at hq;refine⟨⟨_,_,.inl rfl,rfl⟩,ε,γ,tb,i,j,k,ds,ds[j],by rw[Int.zero_add],hi,aaa hj,f,hq⟩
  ·rw[aaQ,show((ds.length:Int)).toNat=ds.length by omega];exact(λ(key:∀l,l=ds.map (λd=>Ξ (ag ε tb d))->q (.lst l) M)=>key _ (DO ds d0 (λd=>Ξ (ag ε tb d)))) λl hl=>by rw[hl];exact h
def N1(C:Addr):DF:=λas M q _=>∃ε γ tb i r,as=[aD C ε γ,.int (i:Nat),.lst (tb.map Ξ)]/\γ[i]? =some r/\Β (kindOf r)=true/\Lc ε γ tb/\q (Ξ (gh ε tb r)) M
def j6:Ε ["self","place","table","kind"] ["self","place","table"] (τ nu):=.of rfl
def xB(F:cX K "look" "Floor.look" nu f fd)(E:Ev K mg w Cm)(Ρ:da P w K mg base 1 Cm "kind" ["self","place"] (oo Cm) aM aN){pF:Addr}{oW:FuncData}(fh:da P w K mg base 2 Cm "pay" ["self","place"] (PH Cm) pF oW){rK:Addr}{sQ:FuncData}(gF:aB P w K mg base 4 "weighed" ["chances","numbers"] rM rK sQ){gZ:Addr}{g_:FuncData}(a_:da P w K mg base 5 Cm "all_shown" ["self","place","table"] (pR Cm) gZ g_)(aL:da P w K mg base 2 Cm "doors" ["self","place"] (sx Cm) c8 c_){Fg:Addr}{GP:FuncData}(mT:aB P w K mg base 2 "greatest" ["numbers"] (wQ mv) Fg GP){Ql:Addr}{Pt:FuncData}(wD:aB P w K mg base 2 "least" ["numbers"] (wQ my) Ql Pt):av P w K mg base (bY P w) 6 f fd ["self","place","table"] (cK K (N1 Cm)):=by
 refine F.dE j6 (λds M q x h=>?_) (λaX A outer s H E' hr=>⟨_,(η (Γ 3 j6.nd (bX Ρ hr ξ (jv 0) (Τ (jv 1) θ)))
   (η (aI (eZ hr (jv 3) jV) (μ (Ζ (bX fh hr ξ (jv 0) (Τ (jv 1) θ)))) Υ)
   (η (aI (eZ hr (jv 3) jV) (μ (Ζ (ao gF hr ξ (ι (dX (ys:=[]) (Ω:=[]) (.of j6 rfl rfl rfl) (aV (bK (bX aL hr ξ (jv 0) (Τ (jv 1) θ)))) (λC s H fp=>(Μ (jv 0) ψ))) (ι (bX a_ hr ξ (jv 0) (Τ (jv 1) (Τ (jv 2) θ))) θ aS))))) Υ)
   (η (aI (eZ hr (jv 3) jV) (μ (Ζ (ao mT hr ξ (ι (bX a_ hr ξ (jv 0) (Τ (jv 1) (Τ (jv 2) θ))) θ aS)))) Υ)
   (μ (Ζ (ao wD hr ξ (ι (bX a_ hr ξ (jv 0) (Τ (jv 1) (Τ (jv 2) θ))) θ aS)))))))),λds M q x h=>?_⟩)
 ·have⟨ε,γ,tb,i,r,rfl,_⟩:=h;rfl
 ·have⟨ε,γ,tb,i,r,rfl,hi,hand,f,h⟩:=h;have hm:r∈γ:=aam hi;have ro:=(f.row _ hm).1;refine⟨⟨_,_,.inl rfl,rfl⟩,ε,γ,i,r,rfl,hi,?_⟩;cases r with
  | fin p=>exact⟨λ_=>⟨⟨_,_,.inl rfl,rfl⟩,ε,γ,i,.fin p,rfl,hi,ro,h⟩,λz=>(nomatch z)⟩
  | υ k ds=>
   have l6:=Kz f hm;have eS:ds.map (λd=>Ξ (ag ε tb d))=(ds.map (ag ε tb)).map Ξ:=by rw[aaK];rfl
   have hS:∀n∈ds.map (ag ε tb),Sz 1300 n:=λn hn=>by have⟨d,hd,rfl⟩:=aah.mp hn;exact IE f hm hd
   have hN:ds.map (ag ε tb)≠[]:=λz=>by have:=aaX List.length z;rw[aac]at this;simp at this;rw[this]at l6;exact aaJ l6.1 @_
   refine⟨λz=>aaJ (aaA z) ro.1,λ_=>⟨λz=>?_,λz=>?_⟩⟩
   ·have z:k="chance":=aaA z;rw[z]at hand;exact aaJ hand (by show¬Β (Str.ofString "chance")=true;decide)
   ·have z:k≠"chance":=abd z;refine⟨λz1=>?_,λz1=>?_⟩
    ·have z1:k="one":=aaA z1;have e1:gh ε tb (.υ k ds)=mv (ds.map (ag ε tb)):=aaw z1;rw[e1]at h;refine⟨⟨_,_,.inl rfl,rfl⟩,ε,γ,tb,i,k,ds,rfl,hi,f,?_⟩;rw[eS];exact⟨_,rfl,hN,hS,h⟩
    ·have z1:k≠"one":=abd z1;have e1:gh ε tb (.υ k ds)=my (ds.map (ag ε tb)):=aav z1;rw[e1]at h;refine⟨⟨_,_,.inl rfl,rfl⟩,ε,γ,tb,i,k,ds,rfl,hi,f,?_⟩;rw[eS];exact⟨_,rfl,hN,hS,h⟩
def OA(C:Addr):DF:=λas M q _=>∃ε γ tb i r,as=[aD C ε γ,.int (i:Nat),.lst (tb.map Ξ)]/\γ[i]? =some r/\Lc ε γ tb/\q (.lst ((cL ε tb r).map λj:Nat=>Dt.int j)) M
def kL:Ε ["self","place","table","look"] ["self","place","table"] (τ mN):=.of rfl
def xX(F:cX K "best" "Floor.best" mN f fd)(E:Ev K mg w Cm)(Ρ:da P w K mg base 1 Cm "kind" ["self","place"] (oo Cm) aM aN){Dj:Addr}{Bu:FuncData}(kN:da P w K mg base 6 Cm "look" ["self","place","table"] (N1 Cm) Dj Bu){gZ:Addr}{g_:FuncData}(a_:da P w K mg base 5 Cm "all_shown" ["self","place","table"] (pR Cm) gZ g_):av P w K mg base (bY P w) 7 f fd ["self","place","table"] (cK K (OA Cm)):=by
 refine F.dE kL (λds M q x h=>?_) (λaX A outer s H E' hr=>⟨_,(η (aI (vy (bX Ρ hr ξ (jv 0) (Τ (jv 1) θ)) (K4 E.wK)) (μ (Ζ (ma θ))) Υ)
   (η (Γ 3 kL.nd (bX kN hr ξ (jv 0) (Τ (jv 1) (Τ (jv 2) θ))))
   (μ (Ζ (HD (ys:=["look"]) (Ω:=[3]) (.of kL rfl rfl rfl) (xo E.eI (ι (bX a_ hr ξ (jv 0) (Τ (jv 1) (Τ (jv 2) θ))) θ aS)) (λC s H fp=>(eZ hr (jv 1) (jv 2))) (λC s H fp=>(jv 0))))))),λds M q x h=>?_⟩)
 ·have⟨ε,γ,tb,i,r,rfl,_⟩:=h;rfl
 ·have⟨ε,γ,tb,i,r,rfl,hi,f,h⟩:=h;have hm:r∈γ:=aam hi;have ro:=(f.row _ hm).1;refine⟨⟨_,_,.inl rfl,rfl⟩,ε,γ,i,r,rfl,hi,.str (kindOf r),[.str "one",.str "other"],[.str "one",.str "other"],rfl,rfl,rfl,?_⟩;rw[ur];cases r with
  | fin p=>exact⟨λ_=>⟨@_,h⟩,λz=>(nomatch (show(!Β "end")=false from z))⟩
  | υ k ds=>
   have l6:=Kz f hm;refine⟨λz=>?_,λz=>?_⟩
   ·have z:Β k=false:=by have:(!Β k)=true:=z;simpa using this
    have e1:cL ε tb (.υ k ds)=[]:=aav (by rw[z];decide);rw[e1]at h;exact⟨@_,h⟩
   ·have z:Β k=true:=by have:(!Β k)=false:=z;simpa using this
    have e1:cL ε tb (.υ k ds)=(List.range ds.length).filter λj=>decide (ag ε tb (ds.getD j d0)=gh ε tb (.υ k ds)):=aaw z;rw[e1]at h;refine⟨⟨_,_,.inl rfl,rfl⟩,ε,γ,tb,i,.υ k ds,rfl,hi,z,f,?_⟩;refine⟨⟨_,_,.inl rfl,rfl⟩,ε,γ,tb,i,k,ds,rfl,hi,f,?_⟩;generalize gh ε tb (.υ k ds)=lk at *
    have eS:ds.map (λd=>Ξ (ag ε tb d))=(ds.map (ag ε tb)).map Ξ:=by rw[aaK];rfl
    rw[eS];refine⟨_,_,_,rfl,rfl,by rw[jF,aac,aac];exact aas l6.2 @_,?_⟩;refine gu trivial (λx=>match x with| .tup [_,.tup [.int a,.int b]]=>decide ((a,b)=lk)| _=>false) (λx=>match x with| .tup [i,_]=>i| _=>.bF) _ _ (λx hx q' p' h1 h2=>?_) ?_
    ·have⟨j,hj,ej⟩:=abf hx;have⟨y,hy,rfl⟩:=pC (n:=0) (i:=j) (aaf.mpr ⟨hj,ej⟩);rw[aal]at hy;have⟨s0,hs0,rfl⟩:=ab8.mp hy;have h1:decide (s0=lk)=true->q' (.int ((0+j:Nat):Int)) M:=h1;have h2:decide (s0=lk)=false->p' M:=h2;clear hx hj ej hy;have key:Cn (Ξ s0) (Ξ lk) M (λd M1=>match d with| .bl b=>(match b with| true=>q' (.int ((0+j:Nat):Int)) M1| false=>p' M1)| _=>False):=by
      refine SA (k:=λb M1=>match b with| true=>q' (.int ((0+j:Nat):Int)) M1| false=>p' M1) ?_;cases hb:decide (s0=lk) with
      | true=>exact h1 hb
      | false=>exact h2 hb
     exact key
    ·rw[aaQ,qm (λs0=>decide (s0=lk)) (ds.map (ag ε tb)) 0,aac];have e3:∀j∈List.range ds.length,decide ((ds.map (ag ε tb)).getD j (0,1)=lk)=decide (ag ε tb (ds.getD j d0)=lk):=λj hj=>by have hj:=aa4.mp hj;rw[aab,aal,aab,aaa hj];rfl
     rw[List.filter_congr e3];have e4:∀l:List Nat,(l.map λj:Nat=>Dt.int ((0+j:Nat):Int))=l.map λj:Nat=>Dt.int j:=λl=>abg λj _=>by rw[Nat.zero_add]
     rw[e4];exact h
end
end Pg
namespace L2
open PySem
def zk{g:Dt->En->(En->Prop)->Prop}{tb:DS}{Dn:l_}{k:Nat}{u:Addr->HO}{m:MO}(J:List Key->En->Ms->Prop)(bb:∀xs ρ M,J xs ρ M->M[k]? =some (.raw u))
  (step:∀x xs ρ M,J (x::xs) ρ M->(∀ρ M,J xs ρ M->u6 g tb Dn k u m xs ρ M)->g (Kj x) ρ λρ'=>tb {Dn with nx:=u6 g tb Dn k u m xs,ct:=u6 g tb Dn k u m xs,bk:=λρ M=>M[k]? =some (.raw u)/\Dn.nx ρ (M.set k m)} ρ' M)
  (fin:∀ρ M,J [] ρ M->Dn.nx ρ (M.set k m)):∀(xs:List Key) (ρ:En) (M:Ms),J xs ρ M->u6 g tb Dn k u m xs ρ M
 | [],ρ,M,h=>⟨bb _ _ _ h,fin _ _ h⟩
 | x::xs,ρ,M,h=>⟨bb _ _ _ h,step x xs ρ M h λρ' M' h'=>zk J bb step fin xs ρ' M' h'⟩
end L2
namespace Pg
open PySem L2 Fr0 Tx
variable{M:Ms}{mg:Str->Option Value}{f e6 d8:Addr}{fd eV eC:FuncData}{ε p:Fr}{γ:List Rw}{tb mC:List Fr}{ds:List cG}{X C b:Int}{Η bQ:Pl}{i j n:Nat}{r:Rw}{hand ο z:Str}{its:Array Value}{cJ:Bool}{xs:List Dt}{q_:List (List Fr)}
def iJ(ε:Fr)(γ:List Rw)(tb:List Fr)(i:Int):List Nat:=match γ[i.toNat]? with
 | some r=>cL ε tb r
 | none=>[]
def Bg(l:List Nat)(v:Int):Bool:=Q8 (.int v) (l.map λj:Nat=>V.int j)
def qD(ε:Fr)(γ:List Rw)(tb:List Fr)(p:Int×Int):Pl:=if Bg (iJ ε γ tb p.1) p.2 then [] else [(p.1,((iJ ε γ tb p.1).headD 0:Nat))]
def Α(ε:Fr)(γ:List Rw)(tb:List Fr)(pl:Pl):Pl:=pl.flatMap (qD ε γ tb)
def vZ:∀l:List Nat,hU (l.map λj:Nat=>Dt.int j)=some (l.map λj:Nat=>V.int j)
 | []=>rfl
 | j::l=>by have ih:=vZ l;rw[aaM,aaM];unfold hU;rw[ih];rfl
def Lj{k:Nat}{m:MO}(h:M[k]? =some m):M.set k m=M:=by
 apply acG;intro i;rw[List.getElem?_set];split
 ·rename_i e;subst e;rw[aaw (aaf.mp h).1,h]
 ·rfl
def xY(pl:Pl):vP pl=(pl.map (·.2)).map Dt.int:=by unfold vP;rw[List.map_map];rfl
def fT{ε:Fr}{γ:List Rw}{tb:List Fr}{i:Int}:∀{pl:Pl},i∈(Α ε γ tb pl).map (·.1)->i∈pl.map (·.1)
 | p::r,h=>by
  unfold Α at h;rw[abZ,aaW]at h;rcases aa0.mp h with z| z
  ·unfold qD at z;split at z
   ·cases z
   ·rw[aaM];exact aaC.mpr (.inl (aa8.mp z))
  ·exact aad _ (fT z)
def jh{ε:Fr}{γ:List Rw}{tb:List Fr}:∀pl:Pl,(Α ε γ tb pl).length<=pl.length
 | []=>aai _
 | p::r=>by
  have ih:=jh (ε:=ε) (γ:=γ) (tb:=tb) r;unfold Α at ih⊢;rw[abZ,aag,aay];have:(qD ε γ tb p).length<=1:=by
   unfold qD;split
   ·exact ab9 _
   ·exact aai _
  omega
def oa{i:Int}:∀{pl:Pl},i∉pl.map (·.1)->Λ pl i=none
 | [],_=>rfl
 | p::r,h=>by unfold Λ;rw[aav λz=>h (by rw[<-z];exact aae)];exact oa λz=>h (aad _ z)
section
variable{P:Program}{w:World}{K:fI}{base:Heap}{Cm:Addr}
def xn(A:Addr):DF:=λas M q _=>∃(ε:Fr) (γ:List Rw) (tb:List Fr) (k:Nat) (pl:Pl),as=[aD A ε γ,.loc k,.lst (tb.map Ξ)]/\M[k]? =some (dP pl)/\Lc ε γ tb/\Dh pl/\pl.length<=12/\(∀p∈pl,0<=p.1/\∃r,γ[p.1.toNat]? =some r/\Β (kindOf r)=true/\cL ε tb r≠[])/\q (.loc M.length) (M++[dP (Α ε γ tb pl)])
def fD:Ε ["floor","plan","table","better","place","best"] ["floor","plan","table"] (τ js):=.of rfl
def rG(F:cX K "better_doors" "better_doors" js f fd)(E:Ev K mg w Cm){CJ:Addr}{C7:FuncData}(kU:da P w K mg base 7 Cm "best" ["self","place","table"] (OA Cm) CJ C7):av P w K mg base (bY P w) 8 f fd ["floor","plan","table"] (cK K (xn Cm)):=by
 refine F.dE fD (λds M q x h=>?_) (λaX A outer s H E' hr=>⟨_,(η (Γ 3 fD.nd wz)
   (η (NL (jv 1) (au (i:=4) fD.nd rfl (Or.inl rfl)) aG (η (Γ 5 fD.nd (bX kU hr ξ (jv 0) (Τ (jv 4) (Τ (jv 2) θ))))
   (μ (aI (vy (LV (jv 1) (jv 4)) (jv 5)) (μ (qW hr (jv 3) (jv 4) (Μ (jv 5) ψ))) Υ))))
   (μ (Ζ (jv 3))))),λds M q x h=>?_⟩)
 ·have⟨ε,γ,tb,k,pl,rfl,_⟩:=h;rfl
 ·have⟨ε,γ,tb,k,pl,rfl,hk,f,nd,lY,hp,h⟩:=h;have kl:k < M.length:=(aaf.mp hk).1;walk_at "vc";refine⟨k,kP pl,pl.map (·.2),rfl,by rw[<-xY];exact bc hk,λep=>?_⟩;show u6 _ _ _ k (N8 P w (kP pl) (pl.map (·.2)) ep) _ _ _ ((M++[MO.eW [] []]).set k (.raw (N8 P w (kP pl) (pl.map (·.2)) ep)));have Qk:∀p∈pl,dw (kP pl) ((pl.map (·.2)).map Dt.int) (Sum.inl p.1)=some (.int p.2):=λp hm=>by
   rw[<-xY,zE];have:∀{l:Pl},Dh l->p∈l->Λ l p.1=some p.2:=λ{l}=>by
    induction l with
    | nil=>intro _ z;cases z
    | cons a l ih=>
     intro nl hm;unfold Dh at nl;rw[aaM,abQ]at nl;unfold Λ;rcases aaC.mp hm with e| e
     ·rw[aaw (by rw[e]),e]
     ·rw[aav λz=>nl.1 (by rw[z];exact aah.mpr ⟨p,e,rfl⟩)];exact ih nl.2 e
   rw[this nd hm];rfl
  generalize hu:N8 P w (kP pl) (pl.map (·.2)) ep=u;have Yb:(M++[MO.eW [] []]).set k (.raw u)=M.set k (.raw u)++[dP []]:=by rw[abX _ _ kl];rfl
  have hb:∀Η,((M.set k (.raw u)++[dP Η]).set k (.eW (kP pl) (vP pl)))=M++[dP Η]:=λΗ=>by
   rw[abX _ _ (by rw[abh];exact kl),List.set_set]
   congr 1
   exact Lj hk
  rw[Yb];refine zk (λxs ρ' M'=>∃(gE rest:Pl) (o4 o5:Option Dt),pl=gE++rest/\xs=kP rest/\M'=M.set k (.raw u)++[dP (Α ε γ tb gE)]/\ρ'=[some (aD Cm ε γ),some (.loc k),some (.lst (tb.map Ξ)),some (.loc M.length),o4,o5]) (λxs ρ' M' hj=>?_) (λx xs ρ' M' hj fW=>?_) (λρ' M' hj=>?_) _ _ _ ⟨[],pl,none,none,rfl,rfl,rfl,rfl⟩
  ·have⟨gE,rest,o4,o5,e,rfl,rfl,rfl⟩:=hj;exact bc (by rw[abb kl])
  ·have⟨gE,rest,o4,o5,e,ex,rfl,rfl⟩:=hj;cases rest with
   | nil=>cases ex
   | cons p rest=>
    cases ex;have pm:p∈pl:=by rw[e];simp
    have⟨p0,r,V1,yN,hr3⟩:=hp p pm;have⟨p1,v⟩:=p;obtain⟨i,rfl⟩:∃i:Nat,p1=(i:Int):=⟨p1.toNat,by have:0<=p1:=p0;omega⟩;have V1:γ[i]? =some r:=V1;have hbA:iJ ε γ tb (i:Int)=cL ε tb r:=by unfold iJ;rw[abP,V1]
    have NQ:(M.set k (.raw u)++[dP (Α ε γ tb gE)])[k]? =some (.raw u):=bc (by rw[abb kl]);have U':(M.set k (.raw u)++[dP (Α ε γ tb gE)])[M.length]? =some (dP (Α ε γ tb gE)):=by have:=ax (M:=M.set k (.raw u)) (o:=dP (Α ε γ tb gE));rwa[abh]at this
    have bsn:Α ε γ tb (gE++[((i:Int),v)])=Α ε γ tb gE++qD ε γ tb ((i:Int),v):=by unfold Α;rw[List.flatMap_append];simp
    have UB:∀Η o5,Η=Α ε γ tb (gE++[((i:Int),v)])->_:=λΗ o5 ea=>fW [some (aD Cm ε γ),some (.loc k),some (.lst (tb.map Ξ)),some (.loc M.length),some (.int (i:Int)),o5] (M.set k (.raw u)++[dP Η]) ⟨gE++[((i:Int),v)],rest,_,o5,by rw[e,aaO];rfl,rfl,by rw[ea],rfl⟩;have hg:=Qk _ pm;rw[<-hu]at NQ U' UB⊢;walk_at "vc";refine⟨⟨_,_,.inl rfl,rfl⟩,ε,γ,tb,i,r,rfl,V1,f,?_⟩;generalize cL ε tb r=bl at *
    refine⟨k,kP pl,(pl.map λx:Int×Int=>x.2),ep,Sum.inl (i:Int),v,rfl,NQ,rfl,hg,?_⟩;refine⟨.int v,_,_,rfl,rfl,vZ bl,λz=>?_,λz=>?_⟩
    ·have z:(!Bg bl v)=true:=z;have z:¬Bg bl v=true:=by simpa using z
     have⟨j,bl',rfl⟩:=abe hr3;dsimp only[xf];walk_at "vc";refine(Ι (d:=.lst ((j::bl').map λj:Nat=>Dt.int j)) rfl bu ?_:fm (.lst ((j::bl').map λj:Nat=>Dt.int j)) (.int 0) _ _);have ll:=jh (ε:=ε) (γ:=γ) (tb:=tb) gE;have dl:gE.length<=12:=by have:=aaX List.length e;rw[aag]at this;omega
     refine⟨M.length,_,_,Sum.inl (i:Int),rfl,U',rfl,by unfold kP;rw[List.length_map];omega,?_⟩;rw[vC (v:=(j:Int)),zL];have gn:Λ (Α ε γ tb gE) (i:Int)=none:=oa λy=>by have y:=fT y;rw[e]at nd;unfold Dh at nd;rw[aaW,acF]at nd;exact nd.2.2 _ y _ aae rfl
     have e1:gR (Α ε γ tb gE) (i:Int) (j:Int)=Α ε γ tb (gE++[((i:Int),v)]):=by rw[bsn];unfold gR qD;rw[gn,hbA,aav z,aav @_];rfl
     rw[e1,aca (h:=by rw[abh];exact aai _),abh,acK];exact UB _ _ rfl
    ·have z:(!Bg bl v)=false:=z;have z:Bg bl v=true:=by simpa using z
     exact UB _ _ (by rw[bsn];unfold qD;rw[hbA,if_pos z,List.append_nil])
  ·have⟨gE,rest,o4,o5,e,ex,rfl,rfl⟩:=hj;have:rest=[]:=by cases rest with| nil=>rfl| cons p r=>cases ex
   subst this;rw[aa1]at e;rw[xY]at hb;rw[hb,<-e];exact h
def bZ(γ:List Rw)(i:Nat):Str:=match γ[i]? with
 | some r=>kindOf r
 | none=>""
def i4(γ:List Rw)(hand:Str):List Nat:=(List.range γ.length).filter λi=>decide (bZ γ i=hand)
def o9(γ:List Rw)(hand:Str):Pl:=(i4 γ hand).map λi:Nat=>((i:Int),0)
def B6(p:Nat->Bool)(n:Nat):((dN 0 n).filter λx=>match x with| .int j=>p j.toNat| _=>false)=((List.range n).filter p).map λi:Nat=>Dt.int i:=by
 unfold dN;rw[List.filter_map];have e:((λx:Dt=>match x with| .int j=>p j.toNat| _=>false) ∘ λi:Nat=>Dt.int (0+(i:Int)))=p:=funext λi=>by show p (0+(i:Int)).toNat=p i;rw[show(0+(i:Int)).toNat=i by omega]
 rw[e];exact abg λi _=>by show Dt.int (0+(i:Int))=Dt.int i;rw[Int.zero_add]
def Em(A:Addr):DF:=λas M q _=>∃(ε:Fr) (γ:List Rw) (hand:Str),as=[aD A ε γ,.str hand]/\γ.length<=12/\q (.lst ((i4 γ hand).map λi:Nat=>Dt.int i)) M
def uy:Ε ["floor","hand"] ["floor","hand"] (τ oB):=.of rfl
def AA(F:cX K "places_of" "places_of" oB f fd)(E:Ev K mg w Cm){dZ:Addr}{eD:FuncData}(aZ:da P w K mg base 1 Cm "size" ["self"] (zY Cm) dZ eD){aM:Addr}{aN:FuncData}(Ρ:da P w K mg base 1 Cm "kind" ["self","place"] (oo Cm) aM aN):av P w K mg base (bY P w) 2 f fd ["floor","hand"] (cK K (Em Cm)):=by
 refine F.dE uy (λds M q x h=>?_) (λaX A outer s H E' hr=>⟨_,(μ (Ζ (Kk (ys:=["hand","floor"]) (Ω:=[1,0]) (.of uy rfl rfl rfl) (Ow (b_ E.bR (ι (lM aZ hr ξ (jv 0)) θ aS))) (λC s H fp=>(eZ hr (bX Ρ hr (fv (P:=P) (w:=w)) (jv 2) (Τ (jv 0) θ)) (jv 1))) (λC s H fp=>(jv 0))))),λds M q x h=>?_⟩)
 ·have⟨ε,γ,hand,rfl,_⟩:=h;rfl
 ·have⟨ε,γ,hand,rfl,lY,h⟩:=h;have sl:∀{z:Nat},z<=1000->z<=sizeLine:=λh=>aas h @_;walk_at "vc";dsimp only[CK,kOf];walk_at "vc";refine⟨⟨_,_,.inl rfl,rfl⟩,ε,γ,rfl,?_⟩;refine⟨(),by rw[dU];exact sl (),?_⟩;rw[show((γ.length:Int)).toNat=γ.length by omega];refine gu trivial (λx=>match x with| .int j=>decide (bZ γ j.toNat=hand)| _=>false) (λx=>x) _ _ (λx hx q' p' h1 h2=>?_) ?_
  ·have⟨j,hj,rfl⟩:=rR hx;rw[Int.zero_add]at h1 h2⊢;have hr:γ[j]? =some γ[j]:=aaa hj;have Qw:bZ γ j=kindOf γ[j]:=by unfold bZ;rw[hr]
   have h1:decide (bZ γ j=hand)=true->q' (.int (j:Int)) M:=h1;have h2:decide (bZ γ j=hand)=false->p' M:=h2;rw[Qw]at h1 h2;refine⟨⟨_,_,.inl rfl,rfl⟩,ε,γ,j,γ[j],rfl,hr,?_⟩;show(match decide (kindOf γ[j]=hand) with| true=>q' (.int (j:Int)) M| false=>p' M);cases hb:decide (kindOf γ[j]=hand) with
   | true=>exact h1 hb
   | false=>exact h2 hb
  ·rw[aaQ,List.map_id'];exact(λ(key:∀l,l=(i4 γ hand).map (λi:Nat=>Dt.int i)->q (.lst l) M)=>key _ (B6 (λi=>decide (bZ γ i=hand)) γ.length)) λl hl=>by rw[hl];exact h
def yx(A:Addr):DF:=λas M q _=>∃(ε:Fr) (γ:List Rw) (hand:Str),as=[aD A ε γ,.str hand]/\γ.length<=12/\q (.loc M.length) (M++[dP (o9 γ hand)])
def k7:Ε ["floor","hand","plan","place"] ["floor","hand"] (τ nj):=.of rfl
def x_(F:cX K "first_plan" "first_plan" nj f fd)(E:Ev K mg w Cm){Gn:Addr}{GW:FuncData}(ni:aB P w K mg base 2 "places_of" ["floor","hand"] (Em Cm) Gn GW):av P w K mg base (bY P w) 3 f fd ["floor","hand"] (cK K (yx Cm)):=by
 refine F.dE k7 (λds M q x h=>?_) (λaX A outer s H E' hr=>⟨_,(η (Γ 2 k7.nd wz)
   (η (cC (aV (ao ni hr ξ (Τ (jv 0) (Τ (jv 1) θ)))) (au (i:=3) k7.nd rfl (Or.inl rfl)) aG (μ (qW hr (jv 2) (jv 3) ψ)))
   (μ (Ζ (jv 2))))),λds M q x h=>?_⟩)
 ·have⟨ε,γ,hand,rfl,_⟩:=h;rfl
 ·have⟨ε,γ,hand,rfl,lY,h⟩:=h;have acx:(i4 γ hand).length<=12:=by have:=acb (λi=>decide (bZ γ i=hand)) (List.range γ.length);rw[aaP]at this;unfold i4;omega
  have pnd:(i4 γ hand).Nodup:=List.nodup_range.filter _;walk_at "vc";dsimp only[oh,eF];walk_at "vc";refine⟨ε,γ,hand,rfl,lY,?_⟩;refine bx (λxs ρ' M'=>∃(gE rest:List Nat) (o3:Option Dt),i4 γ hand=gE++rest/\xs=rest.map (λi:Nat=>Dt.int i)/\M'=M++[dP (gE.map λi:Nat=>((i:Int),0))]/\ρ'=[some (aD Cm ε γ),some (.str hand),some (.loc M.length),o3]) (λxs ρ' M' hj=>trivial) (λx xs ρ' M' hj fW=>?_) (λρ' M' hj=>?_) _ _ _ ⟨[],i4 γ hand,none,rfl,rfl,rfl,rfl⟩
  ·have⟨gE,rest,o3,e,ex,rfl,rfl⟩:=hj;cases rest with
   | nil=>cases ex
   | cons i rest=>
    cases ex;have dl:gE.length<=12:=by have:=aaX List.length e;rw[aag]at this;omega
    dsimp only[xf];walk_at "vc";refine⟨M.length,_,_,Sum.inl (i:Int),rfl,ax,rfl,by unfold kP;rw[List.length_map,List.length_map];omega,?_⟩;rw[vC (v:=0),zL,cY];have gn:Λ (gE.map λi:Nat=>((i:Int),0)) (i:Int)=none:=oa λy=>by
     rw[aaK]at y;have⟨j,hj,ej⟩:=aah.mp y;have ej:(j:Int)=(i:Int):=ej;have:j=i:=()
     subst this;rw[e,acF]at pnd;exact pnd.2.2 _ hj _ aae rfl
    refine fW _ _ ⟨gE++[i],rest,_,by rw[e,aaO];rfl,rfl,?_,rfl⟩;unfold gR;rw[gn,aav @_,aaW];rfl
  ·have⟨gE,rest,o3,e,ex,rfl,rfl⟩:=hj;have:rest=[]:=by cases rest with| nil=>rfl| cons p r=>cases ex
   subst this;rw[aa1]at e;rw[<-e];exact h
def br:Pl->Pl->Pl
 | p,[]=>p
 | p,e::r=>br (gR p e.1 e.2) r
def Er:∀{r p:Pl},qi (kP p) (kP r)=kP (br p r)
 | [],p=>rfl
 | e::r,p=>by show qi (gm (kP p) (Sum.inl e.1)) (kP r)=kP (br (gR p e.1 e.2) r);rw[vC (v:=e.2)];exact Er
def EW:∀{r p:Pl},sN (kP p) (vP p) (kP r) (vP r)=vP (br p r)
 | [],p=>rfl
 | e::r,p=>by show sN (gm (kP p) (Sum.inl e.1)) (eL (kP p) (Sum.inl e.1) (vP p) (.int e.2)) (kP r) (vP r)=vP (br (gR p e.1 e.2) r);rw[vC (v:=e.2),zL];exact EW
def eO{i:Int}:∀{r p:Pl},Dh r->Λ (br p r) i=match Λ r i with| some v=>some v| none=>Λ p i
 | [],p,_=>rfl
 | e::r,p,nd=>by
  unfold Dh at nd;rw[aaM,abQ]at nd;have ih:=eO (i:=i) (r:=r) (p:=gR p e.1 e.2) nd.2;show Λ (br (gR p e.1 e.2) r) i=match (if e.1=i then some e.2 else Λ r i) with| some v=>some v| none=>Λ p i
  rw[ih,D7];by_cases h:e.1=i
  ·have hn:Λ r i=none:=by
    cases hg:Λ r i with
    | none=>rfl
    | some v=>exact aaJ (aah.mpr ⟨_,Fe hg,h.symm⟩) nd.1
   rw[hn,aaw h,aaw h.symm]
  ·rw[aav h,aav (Ne.symm h)]
def T3(A:Addr):DF:=λas M q _=>∃(ε:Fr) (γ:List Rw) (kh ka:Nat) (ph pa:Pl) (X C:Int),as=[aD A ε γ,.loc kh,.loc ka]/\M[kh]? =some (dP ph)/\M[ka]? =some (dP pa)/\ph.length+pa.length<=1000/\gL γ (br ph pa)/\FW ε γ X C/\iK X C<=2 ^ 450/\(12 * iK X C) ^ γ.length < 2 ^ 1030/\∀tb,i_ ε γ (br ph pa) tb->q (.loc (M.length+1)) (M++[dP (br ph pa),.lst (tb.map Ξ)])
def jT:Ε ["floor","held","answer","doors"] ["floor","held","answer"] (τ g9):=.of rfl
def pW(F:cX K "worths_against" "worths_against" g9 f fd)(E:Ev K mg w Cm){p_:Addr}{pL:FuncData}(fi:aB P w K mg base 7 "worths_by" ["floor","doors"] (PR Cm) p_ pL):av P w K mg base (bY P w) 8 f fd ["floor","held","answer"] (cK K (T3 Cm)):=by
 refine F.dE jT (λds M q x h=>?_) (λaX A outer s H E' hr=>⟨_,(η (Γ 3 jT.nd (Bl E.pA (Τ (jv 1) θ)))
   (η (dh (CY (jv 3) (jv 2)))
   (μ (Ζ (ao fi hr ξ (Τ (jv 0) (Τ (jv 3) θ))))))),λds M q x h=>?_⟩)
 ·have⟨ε,γ,kh,ka,ph,pa,X,C,rfl,_⟩:=h;rfl
 ·have⟨ε,γ,kh,ka,ph,pa,X,C,rfl,hh,ha,lz,dk,fw,j3,pX,h⟩:=h;walk_at "vc";refine⟨kh,_,_,rfl,hh,?_⟩;dsimp only[Ek];walk_at "vc";have kl:ka < M.length:=(aaf.mp ha).1;refine⟨⟨M.length,_,_,rfl,ax⟩,M.length,ka,_,_,_,_,rfl,rfl,(),ax,bc ha,by unfold kP;rw[List.length_map,List.length_map];exact lz,?_⟩;rw[Er,EW,cY];refine⟨ε,γ,_,_,X,C,rfl,ax,dk,fw,j3,pX,λtb wt=>?_⟩;have:=h tb wt;simpa [List.append_assoc] using this
def IQ{a b:Fr}(ha:0 < a.2)(hb:0 < b.2):a.1 * b.2<=b.1 * a.2↔val a<=val b:=by
 have e1:val a * (a.2:Rat)=a.1:=by
  have:=bq (show a.2≠0 by omega);unfold val;generalize (a.1:Rat)=x at *
  generalize (a.2:Rat)=y at *
  grind
 have e2:val b * (b.2:Rat)=b.1:=by
  have:=bq (show b.2≠0 by omega);unfold val;generalize (b.1:Rat)=x at *
  generalize (b.2:Rat)=y at *
  grind
 have p1:(0:Rat) < (a.2:Rat):=abE.mpr ha;have p2:(0:Rat) < (b.2:Rat):=abE.mpr hb;have pp:=Rat.mul_pos p1 p2;rw[<-abc,aaR,aaR,<-e1,<-e2];generalize (a.2:Rat)=y at *
 generalize (b.2:Rat)=z at *
 generalize val a=u at *
 generalize val b=v at *
 constructor
 ·intro h;by_cases c:u<=v
  ·exact c
  ·have:=Rat.mul_pos (show 0 < u - v by grind) pp;grind
 ·intro h;have:=abK h (Rat.le_of_lt pp);grind
def lK{f n:Fr}(h1:0 < f.2)(h2:0 < n.2):cU f n=true↔val f < val n:=by
 unfold cU;rw[aao];have:=IQ h2 h1;constructor
 ·intro h;by_cases c:val n<=val f
  ·have:=this.mpr c;omega
  ·grind
 ·intro h;by_cases c:n.1 * f.2<=f.1 * n.2
  ·have:=this.mp c;grind
  ·omega
def mr:∀(ns:List Fr) (f:Fr),0 < f.2->(∀n∈ns,0 < n.2)->(ns.foldl (λf n=>if cU f n then n else f) f∈f::ns)/\val f<=val (ns.foldl (λf n=>if cU f n then n else f) f)/\∀n∈ns,val n<=val (ns.foldl (λf n=>if cU f n then n else f) f)
 | [],f,_,_=>⟨List.mem_cons_self,by show val f<=val f;grind,λ_ z=>nomatch z⟩
 | a::ns,f,h,hn=>by
  have ha:=hn a aae;have u:=lK h ha;rw[abI];by_cases c:cU f a=true
  ·rw[aaw c];have⟨m,l,al⟩:=mr ns a ha λn z=>hn n (aad _ z);have:=u.mp c;refine⟨List.mem_cons_of_mem _ m,by grind,λn z=>?_⟩;rcases aaC.mp z with e| e
   ·rw[e];exact l
   ·exact al n e
  ·rw[aav c];have⟨m,l,al⟩:=mr ns f h λn z=>hn n (aad _ z);have c2:¬val f < val a:=λz=>c (u.mpr z);refine⟨?_,l,λn z=>?_⟩
   ·rcases aaC.mp m with e| e
    ·rw[e];exact aae
    ·exact aad _ (aad _ e)
   ·rcases aaC.mp z with e| e
    ·rw[e];grind
    ·exact al n e
def mf:∀(ns:List Fr) (f:Fr),0 < f.2->(∀n∈ns,0 < n.2)->(ns.foldl (λf n=>if cU n f then n else f) f∈f::ns)/\val (ns.foldl (λf n=>if cU n f then n else f) f)<=val f/\∀n∈ns,val (ns.foldl (λf n=>if cU n f then n else f) f)<=val n
 | [],f,_,_=>⟨List.mem_cons_self,by show val f<=val f;grind,λ_ z=>nomatch z⟩
 | a::ns,f,h,hn=>by
  have ha:=hn a aae;have u:=lK ha h;rw[abI];by_cases c:cU a f=true
  ·rw[aaw c];have⟨m,l,al⟩:=mf ns a ha λn z=>hn n (aad _ z);have:=u.mp c;refine⟨List.mem_cons_of_mem _ m,by grind,λn z=>?_⟩;rcases aaC.mp z with e| e
   ·rw[e];exact l
   ·exact al n e
  ·rw[aav c];have⟨m,l,al⟩:=mf ns f h λn z=>hn n (aad _ z);have c2:¬val a < val f:=λz=>c (u.mpr z);refine⟨?_,l,λn z=>?_⟩
   ·rcases aaC.mp m with e| e
    ·rw[e];exact aae
    ·exact aad _ (aad _ e)
   ·rcases aaC.mp z with e| e
    ·rw[e];grind
    ·exact al n e
def jX(k:Str):Rat:=if k="one" then 1 else -1
section
variable{k:Str}
def vk(h0:ds≠[])(hp:∀d∈ds,0 < (ag ε tb d).2):gh ε tb (.υ k ds)∈ds.map (ag ε tb)/\∀d∈ds,jX k * val (ag ε tb d)<=jX k * val (gh ε tb (.υ k ds)):=by
 have⟨d1,uD,rfl⟩:=abe h0;have hn:∀n∈(d1::uD).map (ag ε tb),0 < n.2:=λn hn=>by have⟨d,hd,rfl⟩:=aah.mp hn;exact hp d hd
 have h1:=hp d1 aae;unfold jX;by_cases e:k="one"
 ·have e1:gh ε tb (.υ k (d1::uD))=mv ((d1::uD).map (ag ε tb)):=aaw e;have⟨m,l,al⟩:=mr ((d1::uD).map (ag ε tb)) (ag ε tb d1) h1 hn;have e2:mv ((d1::uD).map (ag ε tb))=((d1::uD).map (ag ε tb)).foldl (λf n=>if cU f n then n else f) (ag ε tb d1):=rfl;rw[e1,e2,aaw e];refine⟨?_,λd hd=>?_⟩
  ·rcases aaC.mp m with y| y
   ·rw[y];exact aae
   ·exact y
  ·have:=al _ (aah.mpr ⟨d,hd,rfl⟩);grind
 ·have e1:gh ε tb (.υ k (d1::uD))=my ((d1::uD).map (ag ε tb)):=aav e;have⟨m,l,al⟩:=mf ((d1::uD).map (ag ε tb)) (ag ε tb d1) h1 hn;have e2:my ((d1::uD).map (ag ε tb))=((d1::uD).map (ag ε tb)).foldl (λf n=>if cU n f then n else f) (ag ε tb d1):=rfl;rw[e1,e2,aav e];refine⟨?_,λd hd=>?_⟩
  ·rcases aaC.mp m with y| y
   ·rw[y];exact aae
   ·exact y
  ·have:=al _ (aah.mpr ⟨d,hd,rfl⟩);grind
end
def yu{l:List Nat}{v:Int}:Bg l v=true↔∃j∈l,(j:Int)=v:=by
 unfold Bg Q8;rw[List.any_eq_true];constructor
 ·rintro⟨u,hu,e⟩;have⟨j,hj,rfl⟩:=aah.mp hu;refine⟨j,hj,?_⟩;unfold qL at e;simpa using e
 ·rintro⟨j,hj,e⟩;refine⟨.int j,aah.mpr ⟨j,hj,rfl⟩,?_⟩;unfold qL;simpa using e
section
variable{k:Str}
def jz(hi:γ[i]? =some r):d7 γ i=r:=by unfold d7;rw[aab,hi];rfl
def lj(hh:Β k=true):j∈cL ε tb (.υ k ds)↔j < ds.length/\ag ε tb (ds.getD j d0)=gh ε tb (.υ k ds):=by have e:cL ε tb (.υ k ds)=(List.range ds.length).filter λj=>decide (ag ε tb (ds.getD j d0)=gh ε tb (.υ k ds)):=aaw hh;rw[e,List.mem_filter,aa4,aao]
def NA(hh:Β k=true)(h0:ds≠[])(hp:∀d∈ds,0 < (ag ε tb d).2):cL ε tb (.υ k ds)≠[]:=by have⟨m,_⟩:=vk (k:=k) h0 hp;have⟨d,hd,e⟩:=aah.mp m;have⟨j,jl,ej⟩:=abf hd;have:j∈cL ε tb (.υ k ds):=(lj hh).mpr ⟨jl,by rw[aab,aaa jl];show ag ε tb ds[j]=_;rw[ej,e]⟩;exact List.ne_nil_of_mem this
def n9(fw:FW ε γ X C)(hm:Rw.υ k ds∈γ){d:cG}(hd:d∈ds)(hp:∀t,t < γ.length->0 < (tb.getD t (0,1)).2):val (ag ε tb d)=val d.2.1+val ε * val (tb.getD d.1.toNat (0,1))/\Red (ag ε tb d):=by have s0:=fw.sh.1;have dr:=e9 fw.pl hm;have⟨t0,t1⟩:=dr.to d hd;have tp:0 < (tb.getD d.1.toNat (0,1)).2:=hp _ ();have p0:=(dr.py d hd).2;have t:Red (ba ε (tb.getD d.1.toNat (0,1))):=cP (aby (aa2 s0 tp));refine⟨?_,cP (aby (aa2 p0 t.pos))⟩;show val (gf d.2.1 (ba ε (tb.getD d.1.toNat (0,1))))=_;rw[AE p0 t.pos,oV s0 tp]
def ny(fw:FW ε γ X C)(hi:γ[i]? =some (.υ k ds))(hh:Β k=true)(gj:Λ Η i=some (j:Int))(jl:j < ds.length)(hp:∀t,t < γ.length->0 < (tb.getD t (0,1)).2):j4 ε (yP γ Η) (yO γ Η) (λx=>val (tb.getD x (0,1))) i=val (ag ε tb (ds.getD j d0)):=by
 have rm:Rw.υ k ds∈γ:=aam hi;have gd:ds.getD j d0=ds[j]:=by rw[aab,aaa jl];rfl
 have dm:=aaF jl;have e:aK Η i (.υ k ds)=[(ds[j].1,ds[j].2.1,[(1,1)])]:=by unfold aK;rw[gj];show[((ds.getD ((j:Int)).toNat d0).1,(ds.getD ((j:Int)).toNat d0).2.1,(ds.getD ((j:Int)).toNat d0).2.2++[(1,1)])]=_;rw[abP,gd,fw.hnd k ds rm hh _ dm];rfl
 have v1:val ((1,1):Fr)=1:=by show((1:Int):Rat) / ((1:Int):Rat)=1;grind
 have v0:val ((0,1):Fr)=0:=by show((0:Int):Rat) / ((1:Int):Rat)=0;grind
 have p0:=((e9 fw.pl rm).py ds[j] dm).2;have eg:val (RH Η i (.υ k ds))=val ds[j].2.1:=by show val (iy (((aK Η i (.υ k ds)).map ω).zip ((aK Η i (.υ k ds)).map (·.2.1))))=_;rw[e];show val (gf (0,1) (ba (1,1) ds[j].2.1))=_;have t:Red (ba ((1,1):Fr) ds[j].2.1):=cP (aby (aa2 @_ p0));rw[AE @_ t.pos,oV @_ p0,v0,v1];grind
 unfold j4 yP yO;rw[jz hi,eg,gd,(n9 fw rm dm hp).1];show _+val ε * aY (λd=>cV d * val (tb.getD d.1.toNat (0,1))) (aK Η i (.υ k ds))=_;rw[e];show _+val ε * (cV (ds[j].1,ds[j].2.1,[((1,1):Fr)]) * val (tb.getD ds[j].1.toNat (0,1))+0)=_;have:cV (ds[j].1,ds[j].2.1,[((1,1):Fr)])=1:=v1;rw[this];grind
def AJ{x:Nat->Rat}(h:Λ Η i=Λ bQ i):j4 ε (yP γ Η) (yO γ Η) x i=j4 ε (yP γ bQ) (yO γ bQ) x i:=by
 have e:∀r,aK Η i r=aK bQ i r:=λr=>by unfold aK;rw[h]
 have e1:PB Η i (d7 γ i)=PB bQ i (d7 γ i):=by
  cases d7 γ i with
  | fin p=>rfl
  | υ k ds=>exact e _
 have e2:RH Η i (d7 γ i)=RH bQ i (d7 γ i):=by
  cases d7 γ i with
  | fin p=>rfl
  | υ k ds=>
   show iy (((aK Η i (.υ k ds)).map ω).zip ((aK Η i (.υ k ds)).map (·.2.1)))=iy (((aK bQ i (.υ k ds)).map ω).zip ((aK bQ i (.υ k ds)).map (·.2.1)));rw[e]
 unfold j4 yP yO;rw[e1,e2]
def i_.j4(h:i_ ε γ Η tb)(il:i < γ.length):j4 ε (yP γ Η) (yO γ Η) (λx=>val (tb.getD x (0,1))) i=val (tb.getD i (0,1)):=(h.tab.eq i il).symm
end
structure jP(hand ο:Str):Prop where
 h1:Β hand=true
 h2:Β ο=true
 ne:hand≠ο
 two:∀z:Str,Β z=true->z=hand\/z=ο
 sg:jX ο= -jX hand
def i8(h:hand="one"/\ο="other"\/hand="other"/\ο="one"):jP hand ο:=by
 refine⟨?_,?_,?_,λz hz=>?_,?_⟩
 ·rcases h with ⟨rfl,rfl⟩| ⟨rfl,rfl⟩ <;> decide
 ·rcases h with ⟨rfl,rfl⟩| ⟨rfl,rfl⟩ <;> decide
 ·rcases h with ⟨rfl,rfl⟩| ⟨rfl,rfl⟩ <;> decide
 ·unfold Β at hz;rw[acE,abw,abw]at hz;rcases h with ⟨rfl,rfl⟩| ⟨rfl,rfl⟩
  ·exact hz
  ·exact hz.symm
 ·unfold jX;rcases h with ⟨rfl,rfl⟩| ⟨rfl,rfl⟩
  ·rw[aav @_,aaw rfl]
  ·rw[if_pos rfl,if_neg @_];grind
def Ak{k:Str}(h:Β k=true):∃r,jP k r/\jP r k:=by
 unfold Β at h;rw[acE,abw,abw]at h;rcases h with h| h
 ·exact⟨"other",i8 (.inl ⟨h,rfl⟩),i8 (.inr ⟨rfl,h⟩)⟩
 ·exact⟨"one",i8 (.inr ⟨h,rfl⟩),i8 (.inl ⟨rfl,h⟩)⟩
section
def Ez(ε:Fr)(γ:List Rw)(tb:List Fr)(ο:Str)(Η bQ:Pl)(i:Nat):Prop:=∃ds j j',γ[i]? =some (.υ ο ds)/\Λ Η i=some ((j:Nat):Int)/\Λ bQ i=some ((j':Nat):Int)/\j < ds.length/\j∉cL ε tb (.υ ο ds)/\j'∈cL ε tb (.υ ο ds)
def AY(fw:FW ε γ X C){k:Str}(hm:Rw.υ k ds∈γ)(hp:∀t,t < γ.length->0 < (tb.getD t (0,1)).2):Red (gh ε tb (.υ k ds))/\∀d∈ds,jX k * val (ag ε tb d)<=jX k * val (gh ε tb (.υ k ds)):=by have l1:=(e9 fw.pl hm).l1;have⟨m,al⟩:=vk (ε:=ε) (tb:=tb) (k:=k) (ds:=ds) (λz=>by rw[z]at l1;exact aaJ l1 @_) λd hd=>(n9 fw hm hd hp).2.pos;refine⟨?_,al⟩;have⟨d,hd,e⟩:=aah.mp m;rw[<-e];exact(n9 fw hm hd hp).2
def K2{k:Str}{a b:Rat}(h:jX k * a=jX k * b):a=b:=by unfold jX at h;split at h <;> grind
def ZS(ε:Fr)(γ:List Rw)(tb:List Fr)(hand ο:Str)(Η bQ:Pl)(i:Nat):Prop:=Λ bQ i=Λ Η i\/Ez ε γ tb hand Η bQ i\/∃ds j j',γ[i]? =some (.υ ο ds)/\Λ Η i=some ((j:Nat):Int)/\Λ bQ i=some ((j':Nat):Int)/\j' < ds.length/\j∈cL ε tb (.υ ο ds)
def sS(fw:FW ε γ X C)(hs:jP hand ο)(LM:gL γ bQ)(b1:1<=iK X C)(h:i_ ε γ Η tb)(h':i_ ε γ bQ mC)(hd:∀i,i < γ.length->ZS ε γ tb hand ο Η bQ i):(∀i,i < γ.length->jX hand * val (tb.getD i (0,1))<=jX hand * val (mC.getD i (0,1)))/\∀i,i < γ.length->Ez ε γ tb hand Η bQ i->jX hand * val (tb.getD i (0,1)) < jX hand * val (mC.getD i (0,1)):=by
 have hp:∀t,t < γ.length->0 < (tb.getD t (0,1)).2:=λt ht=>(h.tab.red t ht).pos;have chg:∀i,i < γ.length->Ez ε γ tb hand Η bQ i->0 < jX hand * (j4 ε (yP γ bQ) (yO γ bQ) (λx=>val (tb.getD x (0,1))) i - val (tb.getD i (0,1))):=λi il ⟨ds,j,j',hi,g,g',jl,nb,b⟩=>by
  have rm:Rw.υ hand ds∈γ:=aam hi;have⟨Nq,e'⟩:=(lj hs.h1).mp b;have⟨lr,al⟩:=AY (tb:=tb) fw rm hp;have gd:ds.getD j d0=ds[j]:=by rw[aab,aaa jl];rfl
  have dm:=aaF jl;rw[ny fw hi hs.h1 g' Nq hp,<-h.j4 il,ny fw hi hs.h1 g jl hp,e',gd];have le:=al _ dm;have ne:val (ag ε tb ds[j])≠val (gh ε tb (.υ hand ds)):=λz=>nb ((lj hs.h1).mpr ⟨jl,by rw[gd];exact yM (n9 fw rm dm hp).2 lr z⟩);have ne2:jX hand * val (ag ε tb ds[j])≠jX hand * val (gh ε tb (.υ hand ds)):=λz=>ne (K2 z);grind
 have r0:∀i,i < γ.length->0<=jX hand * (j4 ε (yP γ bQ) (yO γ bQ) (λx=>val (tb.getD x (0,1))) i - val (tb.getD i (0,1))):=λi il=>by
  rcases hd i il with e| e| ⟨ds,j,j',hi,g,g',Nq,b⟩
  ·rw[AJ e,h.j4 il];grind
  ·exact Rat.le_of_lt (chg i il e)
  ·have rm:Rw.υ ο ds∈γ:=aam hi;have⟨jl,e⟩:=(lj hs.h2).mp b;have⟨lr,al⟩:=AY (tb:=tb) fw rm hp;have gd':ds.getD j' d0=ds[j']:=by rw[aab,aaa Nq];rfl
   have le:=al _ (aaF Nq);rw[ny fw hi hs.h2 g' Nq hp,<-h.j4 il,ny fw hi hs.h2 g jl hp,e,gd'];rw[hs.sg]at le;grind
 have key:=Tab.cmp (fw.sys LM b1) h'.tab (x:=λx=>val (tb.getD x (0,1))) (sg:=jX hand) r0;refine⟨λi il=>?_,λi il e=>?_⟩
 ·have:=key i il;have:=r0 i il;grind
 ·have:=key i il;have:=chg i il e;grind
def FR(fw:FW ε γ X C)(hh:Β ο=true)(dk:gL γ Η)(LM:gL γ bQ)(b1:1<=iK X C)(h:i_ ε γ Η tb)(h':i_ ε γ bQ mC)(hd:∀i,i < γ.length->Λ bQ i=Λ Η i\/Ez ε γ tb ο Η bQ i):(∀i,i < γ.length->jX ο * val (tb.getD i (0,1))<=jX ο * val (mC.getD i (0,1)))/\∀i,i < γ.length->Ez ε γ tb ο Η bQ i->jX ο * val (tb.getD i (0,1)) < jX ο * val (mC.getD i (0,1)):=by have⟨r,hs,_⟩:=Ak hh;exact sS fw hs LM b1 h h' λi il=>(hd i il).elim .inl λc=>.inr (.inl c)
def CV(fw:FW ε γ X C)(hh:Β ο=true)(dk:gL γ Η)(LM:gL γ bQ)(b1:1<=iK X C)(h:i_ ε γ Η tb)(h':i_ ε γ bQ mC)(hd:∀i,i < γ.length->Λ bQ i=Λ Η i\/Ez ε γ tb ο Η bQ i)(il:i < γ.length)(hc:Ez ε γ tb ο Η bQ i):BN ε γ (jX ο) Η < BN ε γ (jX ο) bQ:=by
 have⟨a,b⟩:=FR fw hh dk LM b1 h h' hd;unfold BN;refine wW (λj hj=>?_) il ?_
 ·rw[xw fw dk b1 h,xw fw LM b1 h'];exact a j hj
 ·rw[xw fw dk b1 h,xw fw LM b1 h'];exact b i il hc
def Ah(fw:FW ε γ X C)(hh:Β ο=true)(LM:gL γ bQ)(b1:1<=iK X C)(h:i_ ε γ Η tb)(h':i_ ε γ bQ mC)(hd:∀i,i < γ.length->Λ bQ i=Λ Η i\/∃ds j j',γ[i]? =some (.υ ο ds)/\Λ Η i=some ((j:Nat):Int)/\Λ bQ i=some ((j':Nat):Int)/\j' < ds.length/\j∈cL ε tb (.υ ο ds)):∀i,i < γ.length->jX ο * val (mC.getD i (0,1))<=jX ο * val (tb.getD i (0,1)):=λi il=>by have⟨r,_,hs⟩:=Ak hh;have k:=(sS fw hs LM b1 h h' λi il=>(hd i il).elim .inl λc=>.inr (.inr c)).1 i il;rw[hs.sg];grind
end
def LB(h:0 < p.2)(a:eG p C):ab (val p)<=(C:Rat):=by
 have e:val p * (p.2:Rat)=p.1:=by
  have:=bq (show p.2≠0 by omega);unfold val;generalize (p.1:Rat)=x at *
  generalize (p.2:Rat)=y at *
  grind
 have p0:(0:Rat) < (p.2:Rat):=abE.mpr h;have a1:(p.1:Rat)<=(p.2:Rat) * (C:Rat):=by rw[<-aaR];exact abc.mpr a.1
 have a2: -((p.2:Rat) * (C:Rat))<=(p.1:Rat):=by rw[<-aaR,<-Rat.intCast_neg];exact abc.mpr a.2
 refine lX.mpr ⟨?_,?_⟩
 ·by_cases z: -(C:Rat)<=val p
  ·exact z
  ·have:=Rat.mul_pos (show 0 < -(C:Rat) - val p by grind) p0;grind
 ·by_cases z:val p<=(C:Rat)
  ·exact z
  ·have:=Rat.mul_pos (show 0 < val p - (C:Rat) by grind) p0;grind
def LG(h:0 < p.2)(a:ab (val p)<=(C:Rat)):eG p C:=by
 have e:val p * (p.2:Rat)=p.1:=by
  have:=bq (show p.2≠0 by omega);unfold val;generalize (p.1:Rat)=x at *
  generalize (p.2:Rat)=y at *
  grind
 have p0:(0:Rat)<=(p.2:Rat):=abc.mpr (aaj h);have⟨a1,a2⟩:=lX.mp a;have b1:=abK a1 p0;have b2:=abK a2 p0;constructor
 ·apply abc.mp;rw[Rat.intCast_mul];grind
 ·apply abc.mp;rw[Rat.intCast_neg,Rat.intCast_mul];grind
def Sys.abs{B:Int}{ws:Nat->List cG}{gv:Nat->Fr}{c:Rat}(S:Sys ε n B ws gv)(h:Tab ε n ws gv tb)(s3:1<=1000 * (1 - val ε))(hg:∀i,i < n->ab (val (gv i))<=c):∀i,i < n->ab (val (tb.getD i (0,1)))<=1000 * c:=λi hi=>by
 have s0:=S.s0;have s1:=S.s1
 have:=Li (n:=n) (x:=λx=>val (tb.getD x (0,1))) (c:=c) s1 (λi hi m hm=>by
  have⟨E,C,p,_⟩:=S.Hy i hi;have w:=lX.mp (Dy p.wo () hm);have a:=aa3 w.1 s0;have b:=aa3 w.2 s0;have g:=lX.mp (hg i hi);rw[h.eq i hi]
  refine lX.mpr ⟨?_,?_⟩ <;> grind) i hi
 have a0:=Rt (val (tb.getD i (0,1)));have:=aa3 s3 a0;grind
structure mP(tb:List Fr)(n:Nat):Prop where
 len:tb.length=n
 red:∀t∈tb,Red t
 sz:∀t∈tb,t.2 < 2 ^ 1030/\t.1.natAbs < 2 ^ 1150
def i_.ok(fw:FW ε γ X C)(dk:gL γ Η)(b1:1<=iK X C)(h:i_ ε γ Η tb):mP tb γ.length:=by
 have S:=fw.sys dk b1;have⟨_,_,_,_,_,s3⟩:=fw.sh;have c1:=fw.c1;have ln:=h.tab.len;have g:∀t∈tb,∃i,i < γ.length/\tb.getD i (0,1)=t:=λt ht=>by have⟨i,hi,e⟩:=abf ht;exact⟨i,(),by rw[aab,aaa hi,e];rfl⟩
 have ab:=S.abs h.tab s3 (c:=((6 * C:Int):Rat)) λi hi=>by have⟨E,p,_⟩:=fw.Hy dk (rw_at hi);exact LB p.gn.red.pos p.gn.ab
 refine⟨ln,λt ht=>?_,λt ht=>?_⟩
 ·have⟨i,hi,e⟩:=g t ht;rw[<-e];exact h.tab.red i hi
 ·have⟨i,hi,e⟩:=g t ht;have r:=h.tab.red i hi;have b:=h.bot i hi;have a:=ab i hi;rw[e]at r b a;have r0:=r.pos;have a:Pg.ab (val t)<=((1000 * (6 * C):Int):Rat):=by rw[aaR];exact a
  have⟨v1,v2⟩:=LG r0 a;refine⟨b,?_⟩;have m:t.2 * (1000 * (6 * C))<=2 ^ 1030 * (1000 * (6 * 10 ^ 30)):=abG (aaj b) () (by have:=fw.c9;omega) @_;have:(t.1.natAbs:Int) < ((2 ^ 1150:Nat):Int):=aaL (show _<=(2:Int) ^ 1030 * (1000 * (6 * 10 ^ 30)) by omega) @_;exact abO.mp this
def vV(hand:Str)(pl:Pl):Str->Option Pl:=λz=>if z=hand then some pl else none
abbrev cy(γ:List Rw)(hand:Str)(pl:Pl):Pl:=cT γ (vV hand pl) γ.length
def dD(γ:List Rw)(ο:Str):List (Int×Nat):=(i4 γ ο).map λi:Nat=>((i:Int),(Κ (d7 γ i)).length)
def Ff{γ:List Rw}:∀{l:List Nat},(∀i∈l,1<=(Κ (d7 γ i)).length)->aw (l.map λi:Nat=>((i:Int),(Κ (d7 γ i)).length)) (l.map λi:Nat=>((i:Int),(0:Int)))
 | [],_=>trivial
 | i::l,h=>⟨rfl,Int.le_refl _,by have:=h i aae;omega,Ff λj hj=>h j (aad _ hj)⟩
section
variable{pl p:Pl}
def iY:i∈i4 γ ο↔i < γ.length/\bZ γ i=ο:=by unfold i4;rw[List.mem_filter,aa4,aao]
def zg(fw:FW ε γ X C)(hh:Β ο=true)(h:i∈i4 γ ο):∃ds,γ[i]? =some (.υ ο ds)/\Κ (d7 γ i)=ds/\1<=ds.length:=by
 have⟨il,e⟩:=iY.mp h;have hi:γ[i]? =some γ[i]:=aaa il;unfold bZ at e;rw[hi]at e;have e:kindOf γ[i]=ο:=e;cases hr:γ[i] with
 | fin p=>
  rw[hr]at e;rw[<-e]at hh;exact aaJ hh (by show¬Β (Str.ofString "end")=true;decide)
 | υ k ds=>
  rw[hr]at e hi;have e:k=ο:=e;subst e;exact⟨ds,hi,by rw[jz hi];rfl,(e9 fw.pl (aam hi)).l1⟩
def sH(fw:FW ε γ X C)(hh:Β ο=true):aw (dD γ ο) (o9 γ ο):=Ff λi hi=>by have⟨ds,_,e,l⟩:=zg fw hh hi;rw[e];exact l
def gx:(dD γ ο).map (·.1)=(i4 γ ο).map λi:Nat=>(i:Int):=by unfold dD;rw[List.map_map];rfl
def bA(h:aw (dD γ ο) p):Dh p:=by unfold Dh;rw[bD h,gx];have nd:(i4 γ ο).Nodup:=List.nodup_range.filter _;exact List.Pairwise.map _ (λa b ZC z=>ZC (by have z:(a:Int)=(b:Int):=z;omega)) nd
def cI(fw:FW ε γ X C)(hh:Β ο=true)(h:aw (dD γ ο) p):(∀ds,γ[i]? =some (.υ ο ds)->∃j:Nat,Λ p i=some (j:Int)/\j < ds.length)/\(∀r,γ[i]? =some r->kindOf r≠ο->Λ p i=none):=by
 refine⟨λds hi=>?_,λr hi hk=>?_⟩
 ·have il:=(aaf.mp hi).1;have m:i∈i4 γ ο:=iY.mpr ⟨il,by unfold bZ;rw[hi];rfl⟩;have s:=nC (i:=(i:Int)) (p:=p) (by rw[bD h,gx];exact aah.mpr ⟨i,m,rfl⟩);have⟨v,hv⟩:=abm.mp s;have⟨c,hc,v0,v1⟩:=r_ h hv;unfold dD at hc;have⟨i',_,e⟩:=aah.mp hc;have e1:(i':Int)=(i:Int):=aaX Prod.fst e;have e2:(Κ (d7 γ i')).length=c:=aaX Prod.snd e;have:i'=i:=()
  subst this;rw[jz hi]at e2;have e2:ds.length=c:=e2;exact⟨v.toNat,by rw[hv,aco v0],()⟩
 ·refine oa λz=>?_;rw[bD h,gx]at z;have⟨i',m,e⟩:=aah.mp z;have:i'=i:=by have e:(i':Int)=(i:Int):=e;omega
  subst this;have:=(iY.mp m).2;unfold bZ at this;rw[hi]at this;exact hk this
def Qx(fw:FW ε γ X C)(h1:Β hand=true)(h2:Β ο=true)(lL:hand≠ο)(two:∀k:Str,Β k=true->k=hand\/k=ο)(gd:∀i,i < γ.length->fg γ (vV hand pl) i=true)(h:aw (dD γ ο) p):gL γ (br (cy γ hand pl) p):=by
 have Qk:∀(i:Nat) (r:Rw),γ[i]? =some r->kindOf r≠hand->Λ (cy γ hand pl) i=none:=λi r hi hk=>by have il:=(aaf.mp hi).1;rw[ju,aaw il,hi];show Option.map _ (vV hand pl (kindOf r))=none;unfold vV;rw[aav hk];rfl
 refine⟨λi r hi hk=>?_,λi r hi hk=>?_⟩
 ·rw[eO (bA h)];rcases two _ hk with e| e
  ·have il:=(aaf.mp hi).1;rw[(cI (i:=i) fw h2 h).2 r hi (λz=>lL (e.symm.trans z))];dsimp only;have g:=gd i il;unfold fg at g;rw[hi]at g;have g:jU (vV hand pl) i r=true:=g;have ep:vV hand pl (kindOf r)=some pl:=by unfold vV;rw[if_pos e]
   unfold jU at g;rw[ep]at g;have g:eh pl i (Κ r).length=true:=g;rw[ju,aaw il,hi];show∃j:Nat,Option.map (λpl=>(Λ pl i).getD 0) (vV hand pl (kindOf r))=some (j:Int)/\_;rw[ep];unfold eh at g;cases hv:Λ pl i with
   | none=>rw[hv]at g;cases g
   | some v=>
    rw[hv]at g;have g:(decide (0<=v)&&decide (v < ((Κ r).length:Int)))=true:=g;rw[aaz,aao,aao]at g;refine⟨v.toNat,?_,()⟩;show some ((Λ pl i).getD 0)=_;rw[hv,aco g.1];rfl
  ·cases r with
   | fin q=>exact aaJ hk (by show¬Β (Str.ofString "end")=true;decide)
   | υ k ds=>
    have e:k=ο:=e;subst e;have⟨j,gj,jl⟩:=(cI (i:=i) fw h2 h).1 ds hi;rw[gj];exact⟨j,rfl,jl⟩
 ·rw[eO (bA h),(cI (i:=i) fw h2 h).2 r hi (λz=>by rw[z,h2]at hk;cases hk)];exact Qk i r hi λz=>by rw[z,h1]at hk;cases hk
end
section
variable{pl p:Pl}
def tL:∀pl:Pl,((Α ε γ tb pl).map (·.1)).Sublist (pl.map (·.1))
 | []=>List.Sublist.refl _
 | a::r=>by
  have ih:=tL r;have e:Α ε γ tb (a::r)=qD ε γ tb a++Α ε γ tb r:=by unfold Α;rw[List.flatMap_cons]
  rw[e,aaW,aaM];unfold qD;split
  ·exact List.Sublist.cons _ ih
  ·exact List.Sublist.cons₂ _ ih
def oC(h:Dh pl):Dh (Α ε γ tb pl):=(tL pl).nodup h
def g8{i:Int}:∀{pl:Pl},Dh pl->Λ (Α ε γ tb pl) i=(match Λ pl i with
 | some v=>if Bg (iJ ε γ tb i) v then none else some (((iJ ε γ tb i).headD 0:Nat):Int)
 | none=>none)
 | [],_=>rfl
 | a::r,nd=>by
  unfold Dh at nd;rw[aaM,abQ]at nd;have ih:=g8 (i:=i) (pl:=r) nd.2;have e:Α ε γ tb (a::r)=qD ε γ tb a++Α ε γ tb r:=by unfold Α;rw[List.flatMap_cons]
  rw[e];by_cases ei:a.1=i
  ·have e2:Λ (a::r) i=some a.2:=by unfold Λ;rw[if_pos ei]
   have hn:Λ (Α ε γ tb r) i=none:=oa λz=>nd.1 (by rw[ei];exact fT z);rw[e2];dsimp only;unfold qD;rw[ei];by_cases c:Bg (iJ ε γ tb i) a.2=true
   ·rw[aaw c,aaw c,aaQ,hn]
   ·rw[aav c,aav c];show Λ ((i,(((iJ ε γ tb i).headD 0:Nat):Int))::Α ε γ tb r) i=_;unfold Λ;rw[aaw rfl]
  ·have e2:Λ (a::r) i=Λ r i:=by rw[Λ,aav ei]
   rw[e2,<-ih];unfold qD;split
   ·rfl
   ·show Λ ((a.1,_)::Α ε γ tb r) i=_;rw[Λ,aav ei]
def zU{kc:List (Int×Nat)}:∀(q s:Pl),aw kc s->(∀e∈q,e.1∈kc.map (·.1)/\∀c,(e.1,c)∈kc->0<=e.2/\e.2 < (c:Int))->aw kc (br s q)
 | [],s,h,_=>h
 | e::q,s,h,hq=>by have⟨a,b⟩:=hq e aae;exact zU q (gR s e.1 e.2) (HI h a b) λx hx=>hq x (aad _ hx)
def iX(fw:FW ε γ X C)(hh:Β ο=true)(h:aw (dD γ ο) p)(hp:∀t,t < γ.length->0 < (tb.getD t (0,1)).2)(hm:i∈i4 γ ο):∃ds j,γ[i]? =some (.υ ο ds)/\Κ (d7 γ i)=ds/\Λ p i=some ((j:Nat):Int)/\j < ds.length/\iJ ε γ tb i=cL ε tb (.υ ο ds)/\cL ε tb (.υ ο ds)≠[]/\(cL ε tb (.υ ο ds)).headD 0∈cL ε tb (.υ ο ds):=by have⟨ds,hi,ed,l1⟩:=zg fw hh hm;have⟨j,gj,jl⟩:=(cI (i:=i) fw hh h).1 ds hi;have rm:Rw.υ ο ds∈γ:=aam hi;have ne:cL ε tb (.υ ο ds)≠[]:=NA hh (λz=>by rw[z]at l1;exact aaJ l1 @_) λd hd=>(n9 fw rm hd hp).2.pos;refine⟨ds,j,hi,ed,gj,jl,by unfold iJ;rw[Int.toNat_natCast,hi],ne,?_⟩;have⟨b,bs,e⟩:=abe ne;rw[e];exact aae
def fU(fw:FW ε γ X C)(hh:Β ο=true)(h:aw (dD γ ο) p)(hp:∀t,t < γ.length->0 < (tb.getD t (0,1)).2):aw (dD γ ο) (br p (Α ε γ tb p)):=by
 refine zU _ _ h λe he=>?_;have ke:e.1∈p.map (·.1):=fT (aah.mpr ⟨e,he,rfl⟩);have kk:=ke;rw[bD h]at kk;rw[bD h,gx]at ke;have⟨i,hm,ei⟩:=aah.mp ke;have⟨ds,j,hi,ed,gj,jl,eb,ne,hd⟩:=iX fw hh h hp hm;refine⟨kk,λc hc=>?_⟩;have c1:c=ds.length:=by
  unfold dD at hc;have⟨i',_,e'⟩:=aah.mp hc;have e1:(i':Int)=e.1:=aaX Prod.fst e';have e2:(Κ (d7 γ i')).length=c:=aaX Prod.snd e';have:i'=i:=by have ei:(i:Int)=e.1:=ei;omega
  subst this;rw[<-e2,ed]
 have gb:=g8 (ε:=ε) (γ:=γ) (tb:=tb) (i:=e.1) (bA h);have nb:=oC (ε:=ε) (γ:=γ) (tb:=tb) (bA h);have ge:Λ (Α ε γ tb p) e.1=some e.2:=by
  have:∀{l:Pl},Dh l->e∈l->Λ l e.1=some e.2:=λ{l}=>by
   induction l with
   | nil=>intro _ z;cases z
   | cons a l ih=>
    intro nl hm;unfold Dh at nl;rw[aaM,abQ]at nl;unfold Λ;rcases aaC.mp hm with y| y
    ·rw[aaw (by rw[y]),y]
    ·rw[aav λz=>nl.1 (by rw[z];exact aah.mpr ⟨e,y,rfl⟩)];exact ih nl.2 y
  exact this nb he
 have ei:e.1=(i:Int):=ei.symm;rw[ge,ei,gj,eb]at gb;dsimp only at gb;split at gb
 ·cases gb
 ·have gb:=aax gb;have:=((lj hh).mp hd).1;omega
def vD(fw:FW ε γ X C)(hh:Β ο=true)(h:aw (dD γ ο) p)(hp:∀t,t < γ.length->0 < (tb.getD t (0,1)).2)(hb:Pl):∀i,i < γ.length->Λ (br hb (br p (Α ε γ tb p))) i=Λ (br hb p) i\/Ez ε γ tb ο (br hb p) (br hb (br p (Α ε γ tb p))) i:=λi il=>by
 have h':=fU (tb:=tb) fw hh h hp;have gb:=g8 (ε:=ε) (γ:=γ) (tb:=tb) (i:=(i:Int)) (bA h);have g1:=eO (i:=(i:Int)) (p:=p) (oC (ε:=ε) (γ:=γ) (tb:=tb) (bA h));have g2:=eO (i:=(i:Int)) (p:=hb) (bA h');have g3:=eO (i:=(i:Int)) (p:=hb) (bA h);by_cases hm:i∈i4 γ ο
 ·have⟨ds,j,hi,ed,gj,jl,eb,ne,hd⟩:=iX fw hh h hp hm;rw[gj,eb]at gb;dsimp only at gb;by_cases c:Bg (cL ε tb (.υ ο ds)) (j:Int)=true
  ·rw[aaw c]at gb;rw[gb]at g1;left;rw[g2,g3,g1]
  ·rw[aav c]at gb;rw[gb]at g1;right;refine⟨ds,j,_,hi,by rw[g3,gj],by rw[g2,g1],jl,λz=>c (yu.mpr ⟨j,z,rfl⟩),hd⟩
 ·have hi:γ[i]? =some γ[i]:=aaa il;have gn:=(cI (i:=i) fw hh h).2 γ[i] hi λz=>hm (iY.mpr ⟨il,by unfold bZ;rw[hi];exact z⟩);rw[gn]at gb;have gb:Λ (Α ε γ tb p) i=none:=gb;rw[gb]at g1;left;rw[g2,g3,g1]
def qk(fw:FW ε γ X C)(hh:Β ο=true)(h:aw (dD γ ο) p)(hp:∀t,t < γ.length->0 < (tb.getD t (0,1)).2)(hb:Pl)(ne:Α ε γ tb p≠[]):∃i,i < γ.length/\Ez ε γ tb ο (br hb p) (br hb (br p (Α ε γ tb p))) i:=by
 have⟨e,r,er⟩:=abe ne;have he:e∈Α ε γ tb p:=by rw[er];exact aae
 have ke:e.1∈p.map (·.1):=fT (aah.mpr ⟨e,he,rfl⟩);rw[bD h,gx]at ke;have⟨i,hm,ei⟩:=aah.mp ke;have ei:(i:Int)=e.1:=ei;have il:=(iY.mp hm).1;refine⟨i,il,?_⟩;have h':=fU (tb:=tb) fw hh h hp;have⟨ds,j,hi,ed,gj,jl,eb,ne',hd⟩:=iX fw hh h hp hm;have gb:=g8 (ε:=ε) (γ:=γ) (tb:=tb) (i:=(i:Int)) (bA h);have s:(Λ (Α ε γ tb p) (i:Int)).isSome=true:=nC (aah.mpr ⟨e,he,ei.symm⟩);rw[gj,eb]at gb;dsimp only at gb;by_cases c:Bg (cL ε tb (.υ ο ds)) (j:Int)=true
 ·rw[aaw c]at gb;rw[gb]at s;cases s
 ·rw[aav c]at gb;have g1:=eO (i:=(i:Int)) (p:=p) (oC (ε:=ε) (γ:=γ) (tb:=tb) (bA h));rw[gb]at g1;refine⟨ds,j,_,hi,by rw[eO (bA h),gj],by rw[eO (bA h'),g1],jl,λz=>c (yu.mpr ⟨j,z,rfl⟩),hd⟩
def ux(fw:FW ε γ X C)(hh:Β ο=true)(h:aw (dD γ ο) p)(hp:∀t,t < γ.length->0 < (tb.getD t (0,1)).2)(e:Α ε γ tb p=[])(hi:γ[i]? =some (.υ ο ds))(gj:Λ p i=some (j:Int)):j∈cL ε tb (.υ ο ds):=by
 have il:=(aaf.mp hi).1;have hm:i∈i4 γ ο:=iY.mpr ⟨il,by unfold bZ;rw[hi];rfl⟩;have⟨uD,j',D_,_,Vw,_,eb,_,_⟩:=iX (tb:=tb) fw hh h hp hm;rw[hi]at D_;cases D_;have gb:=g8 (ε:=ε) (γ:=γ) (tb:=tb) (i:=(i:Int)) (bA h);rw[e,gj,eb]at gb;dsimp only at gb;split at gb
 ·rename_i c;have⟨b,hb,y⟩:=yu.mp c;have:b=j:=()
  rw[<-this];exact hb
 ·cases gb
end
def i_.Yr(fw:FW ε γ X C)(dk:gL γ Η)(b1:1<=iK X C)(h:i_ ε γ Η tb):Lc ε γ tb:=by
 have ok:=h.ok fw dk b1;refine⟨fw.pl.sh,fw.pl.len,fw.pl.row,ok.len,λt ht=>⟨(ok.sz t ht).2,(ok.red t ht).pos,?_⟩⟩;have:(t.2.natAbs:Int) < ((2 ^ 1150:Nat):Int):=by rw[abl (aaj (ok.red t ht).pos)];exact acu (ok.sz t ht).1 @_
 exact abO.mp this
def Ni{k:Nat}{pl:Pl}(h:M[k]? =some (dP pl)):QT (M++[.eW [Sum.inr hand] [.loc k]]) M.length (vV hand pl):=by
 refine⟨_,_,ax,λz=>⟨?_,λq e=>?_⟩⟩
 ·unfold vV;show(decide ((Sum.inr hand:Key)=Sum.inr z)|| false)=_;rw[Bool.or_false];by_cases y:z=hand
  ·rw[aaw y,aaB (by rw[y])];rfl
  ·rw[aav y,aaG λx=>y (Sum.inr.inj x).symm];rfl
 ·unfold vV at e;split at e
  ·rename_i y;cases e;subst y;refine⟨k,?_,bc h⟩;show((List.zip [Sum.inr z] [Dt.loc k]).find? _).map _=_;simp[List.zip]
  ·cases e
def La{n:Nat}:∀tb:List Fr,Dt.bM n (tb.map Ξ)
 | []=>trivial
 | t::tb=>⟨m8 t,La tb⟩
def Im{S:Ms}{q:DQ}{m:MO}(h:q (.lst (tb.map Ξ)) S):sD S q (.loc (S.length+1)) (S++[m,.lst (tb.map Ξ)]):=
 jN (d':=.lst (tb.map Ξ)) (.BR (Nat.le_succ _) (by rw[abz];rfl) (ix.old (La tb))) h
def zQ(A:Addr):DF:=λas M q _=>∃(ε:Fr) (γ:List Rw) (hand ο:Str) (k:Nat) (pl:Pl) (X C:Int),as=[aD A ε γ,.str hand,.loc k]/\M[k]? =some (dP pl)/\(hand="one"/\ο="other"\/hand="other"/\ο="one")/\FW ε γ X C/\iK X C<=2 ^ 450/\(12 * iK X C) ^ γ.length < 2 ^ 1030/\1<=iK X C/\(∀i,i < γ.length->fg γ (vV hand pl) i=true)/\∀(p:Pl) (tb:List Fr) (E':Ms),aw (dD γ ο) p->i_ ε γ (br (cy γ hand pl) p) tb->Α ε γ tb p=[]->q (.tup [.loc (M.length+2),.lst (tb.map Ξ)]) (M++[.eW [Sum.inr hand] [.loc k],dP (cy γ hand pl),dP p]++E')
def fj:Ε ["floor","hand","plan","held","answer","table","better"] ["floor","hand","plan"] (τ tU):=.of rfl
def BI(F:cX K "against" "against" tU f fd)(E:Ev K mg w Cm){sj:Addr}{rW:FuncData}(gI:aB P w K mg base 4 "doors_of" ["floor","plans"] (tK Cm) sj rW){mQ:Addr}{mJ:FuncData}(eJ:aB P w K mg base 3 "first_plan" ["floor","hand"] (yx Cm) mQ mJ){tI:Addr}{ue:FuncData}(dW:aB P w K mg base 8 "worths_against" ["floor","held","answer"] (T3 Cm) tI ue){jM:Addr}{jf:FuncData}(bU:aB P w K mg base 8 "better_doors" ["floor","plan","table"] (xn Cm) jM jf):av P w K mg base (bY P w) 9 f fd ["floor","hand","plan"] (cK K (zQ Cm)):=by
 refine F.dE fj (λds M q x h=>?_) (λaX A outer s H E' hr=>⟨_,(η (Γ 3 fj.nd (ao gI hr ξ (Τ (jv 0) (ι (Ji (jv 1) (jv 2)) θ))))
   (η (Γ 4 fj.nd (ao eJ hr ξ (Τ (jv 0) (ι (Vb E.l7 (jv 1)) θ aU))))
   (η (Γ 5 fj.nd (bK (ao dW hr ξ (Τ (jv 0) (Τ (jv 3) (Τ (jv 4) θ))))))
   (η (Γ 6 fj.nd (ao bU hr ξ (Τ (jv 0) (Τ (jv 4) (Τ (jv 5) θ)))))
   (η (nP (EJ (Iq E.bJ (Τ (jv 6) θ)) ψ) (η (dh (CY (jv 4) (jv 6)))
   (η (Γ 5 fj.nd (bK (ao dW hr ξ (Τ (jv 0) (Τ (jv 3) (Τ (jv 4) θ))))))
   (μ (Γ 6 fj.nd (ao bU hr ξ (Τ (jv 0) (Τ (jv 4) (Τ (jv 5) θ)))))))))
   (μ (Ζ (fR (Τ (jv 4) (Τ (jv 5) θ)))))))))),λds M q x h=>?_⟩)
 ·have⟨ε,γ,hand,ο,k,pl,X,C,rfl,_⟩:=h;rfl
 ·have⟨ε,γ,hand,ο,k,pl,X,C,rfl,hk,fZ,fw,j3,pX,b1,gd,h⟩:=h;have lY:=fw.pl.len;have lk:List.lookup hand [(Str.ofString "one",Str.ofString "other"),(Str.ofString "other",Str.ofString "one"),(Str.ofString "chance",Str.ofString "chance")]=some ο:=by rcases fZ with ⟨rfl,rfl⟩| ⟨rfl,rfl⟩ <;> decide
  have h1:Β hand=true:=by rcases fZ with ⟨rfl,rfl⟩| ⟨rfl,rfl⟩ <;> decide
  have h2:Β ο=true:=by rcases fZ with ⟨rfl,rfl⟩| ⟨rfl,rfl⟩ <;> decide
  have lL:hand≠ο:=by rcases fZ with ⟨rfl,rfl⟩| ⟨rfl,rfl⟩ <;> decide
  have two:∀z:Str,Β z=true->z=hand\/z=ο:=λz hz=>by
   unfold Β at hz;rw[acE,abw,abw]at hz;rcases fZ with ⟨rfl,rfl⟩| ⟨rfl,rfl⟩
   ·exact hz
   ·exact hz.symm
  have QV:∀{p},aw (dD γ ο) p->gL γ (br (cy γ hand pl) p):=λhp=>Qx fw h1 h2 lL two gd hp;have GC:∀{p},aw (dD γ ο) p->p.length<=12:=λ{p} hp=>by have:=aaX List.length (bD hp);rw[aac,gx,aac]at this;have l:=acb (λi=>decide (bZ γ i=ο)) (List.range γ.length);rw[aaP]at l;have l:(i4 γ ο).length<=γ.length:=l;omega
  have hlen:(cy γ hand pl).length<=12:=aas (x6 γ _ _) lY;walk_at "vc";dsimp only[Ig,Uw];walk_at "vc";refine⟨Sum.inr hand,rfl,?_⟩;refine⟨ε,γ,M.length,vV hand pl,rfl,Ni hk,fw.pl,gd,?_⟩;refine⟨hand,ο,rfl,lk,?_⟩;refine⟨ε,γ,ο,rfl,lY,?_⟩;obtain⟨Ht,hd0⟩:∃d:MO,d=MO.eW [Sum.inr hand] [Dt.loc k]:=⟨_,rfl⟩;rw[<-hd0]at h⊢;dsimp only[cy]at h QV hlen;generalize aap:cT γ (vV hand pl) γ.length=held at *
  have B3:∀p:Pl,M++[Ht]++[dP held]++[dP p]=M++[Ht,dP held,dP p]:=λp=>by simp
  have kh1:(M++[Ht]).length=M.length+1:=by simp
  have ka1:(M++[Ht]++[dP held]).length=M.length+2:=by simp
  rw[kh1,ka1,B3];have atH:∀(p:Pl) (E:Ms),(M++[Ht,dP held,dP p]++E)[M.length+1]? =some (dP held):=λp E=>bc (by rw[aan (),show M.length+1 - M.length=1 by omega];rfl);have RJ:∀(p:Pl) (E:Ms),(M++[Ht,dP held,dP p]++E)[M.length+2]? =some (dP p):=λp E=>bc (by rw[aan (),show M.length+2 - M.length=2 by omega];rfl);have f0:=sH fw h2;generalize o9 γ ο=p0 at *
  have gp:∀{p:Pl} {tb:List Fr},i_ ε γ (br held p) tb->∀t,t < γ.length->0 < (tb.getD t (0,1)).2:=λwt t ht=>(wt.tab.red t ht).pos;have bok:∀{p:Pl} {tb:List Fr},aw (dD γ ο) p->i_ ε γ (br held p) tb->∀e∈p,0<=e.1/\∃r,γ[e.1.toNat]? =some r/\Β (kindOf r)=true/\cL ε tb r≠[]:=λ{p tb} hp wt e he=>by have ke:e.1∈p.map (·.1):=aah.mpr ⟨e,he,rfl⟩;rw[bD hp,gx]at ke;have⟨i,hm,ei⟩:=aah.mp ke;have ei:(i:Int)=e.1:=ei;have⟨ds,j,hi,_,_,_,_,ne,_⟩:=iX fw h2 hp (gp wt) hm;exact⟨(),.υ ο ds,by rw[<-ei,abP];exact hi,h2,ne⟩
  have e0:M++[Ht,dP held,dP p0]=M++[Ht,dP held,dP p0]++[]:=(aa1 _).symm;rw[e0];refine⟨ε,γ,M.length+1,M.length+2,held,p0,X,C,rfl,atH p0 [],RJ p0 [],by have:=GC f0;omega,QV f0,fw,j3,pX,λEL Wk=>Im ?_⟩;refine⟨ε,γ,EL,M.length+2,p0,rfl,RJ p0 [],Wk.Yr fw (QV f0) b1,bA f0,GC f0,bok f0 Wk,?_⟩;have Xn:∀(p p':Pl) (E:Ms),(M++[Ht,dP held,dP p]++E).set (M.length+2) (dP p')=M++[Ht,dP held,dP p']++E:=λp p' E=>by rw[aaO,aaO,aca (h:=by omega),show M.length+2 - M.length=2 by omega];rfl
  have l3:∀(p:Pl) (E:Ms),M.length+3<=(M++[Ht,dP held,dP p]++E).length:=λp E=>by rw[aag,aag];show M.length+3<=M.length+3+E.length;omega
  have We:∀{p:Pl} {tb:List Fr},aw (dD γ ο) p->(Α ε γ tb p).length<=12:=λhp=>aas (jh _) (GC hp);refine⟨λm ρ' M'=>∃(p:Pl) (tb:List Fr) (E1:Ms) (kb:Nat),aw (dD γ ο) p/\i_ ε γ (br held p) tb/\above ε γ (jX ο) (br held) (dD γ ο) p=m/\M'=M++[Ht,dP held,dP p]++E1/\M'[kb]? =some (dP (Α ε γ tb p))/\M.length+3<=kb/\ρ'=[some (aD Cm ε γ),some (.str hand),some (.loc k),some (.loc (M.length+1)),some (.loc (M.length+2)),some (.lst (tb.map Ξ)),some (.loc kb)],⟨_,p0,EL,[dP (Α ε γ EL p0)],_,f0,Wk,rfl,by rw[aa1],ax,l3 p0 [],rfl⟩,λm ρ' M' hw=>?_⟩;have⟨p,tb,E1,kb,fp,wt,hm,rfl,So,kb3,rfl⟩:=hw;walk_at "vc";refine⟨kb,_,_,rfl,So,?_⟩;have kl:(kP (Α ε γ tb p)).length=(Α ε γ tb p).length:=by unfold kP;rw[List.length_map]
  rw[kl];refine⟨λz=>⟨_,λρ2 M2 hn=>hn,?_⟩,λz=>?_⟩
  ·have z:(0:Int) < ((Α ε γ tb p).length:Int):=aaA z;have ne:Α ε γ tb p≠[]:=λy=>by rw[y]at z;exact aaJ z @_
   have vd:=fU (tb:=tb) fw h2 fp (gp wt);have hd:=vD fw h2 fp (gp wt) held;have⟨i,il,hc⟩:=qk fw h2 fp (gp wt) held ne;dsimp only[Jy,Ek];walk_at "vc";refine⟨⟨M.length+2,_,_,rfl,RJ p E1⟩,M.length+2,kb,_,_,_,_,rfl,rfl,(),RJ p E1,So,by rw[kl];have:=GC fp;have:=We (tb:=tb) fp;unfold kP;rw[List.length_map];omega,?_⟩;rw[Er,EW,Xn];generalize br p (Α ε γ tb p)=p' at *
   refine⟨ε,γ,M.length+1,M.length+2,held,p',X,C,rfl,atH p' E1,RJ p' E1,by have:=GC vd;omega,QV vd,fw,j3,pX,λmC Lk=>Im ?_⟩;refine⟨ε,γ,mC,M.length+2,p',rfl,RJ p' E1,Lk.Yr fw (QV vd) b1,bA vd,GC vd,bok vd Lk,?_⟩;refine⟨_,?_,p',mC,E1++[dP (Α ε γ mC p')],_,vd,Lk,rfl,by rw[<-aaO],ax,l3 p' E1,rfl⟩;rw[<-hm];exact J4 vd (CV fw h2 (QV fp) (QV vd) b1 wt Lk hd il hc)
  ·have z:¬(0:Int) < ((Α ε γ tb p).length:Int):=abd z;have e:Α ε γ tb p=[]:=ab5.mp ();exact⟨gV,h p tb E1 fp wt e⟩
section
variable{p pa p' Ud:Pl}
def jg(fw:FW ε γ X C)(hs:jP hand ο)(fp:aw (dD γ hand) p)(fa:aw (dD γ ο) pa)(hi:γ[i]? =some r):(kindOf r=hand->Λ (br (cy γ hand p) pa) i=Λ p i)/\(kindOf r=ο->Λ (br (cy γ hand p) pa) i=Λ pa i)/\(Β (kindOf r)=false->Λ (br (cy γ hand p) pa) i=none):=by
 have il:=(aaf.mp hi).1;have g:=eO (i:=(i:Int)) (p:=cy γ hand p) (bA fa);have hh:Λ (cy γ hand p) i=((vV hand p (kindOf r)).map λpl=>(Λ pl i).getD 0):=by rw[ju,aaw il,hi];rfl
 refine⟨λe=>?_,λe=>?_,λe=>?_⟩
 ·rw[g,(cI (i:=i) fw hs.h2 fa).2 r hi λz=>hs.ne (e.symm.trans z)];show Λ (cy γ hand p) i=_;rw[hh];cases r with
  | fin q=>exact aaJ (show Β (Str.ofString "end")=true by rw[<-hs.h1,<-e];rfl) @_
  | υ k ds=>
   have e:k=hand:=e;subst e;have⟨j,gj,_⟩:=(cI (i:=i) fw hs.h1 fp).1 ds hi;have:vV k p (kindOf (.υ k ds))=some p:=aaw rfl;rw[this];show some ((Λ p i).getD 0)=Λ p i;rw[gj];rfl
 ·cases r with
  | fin q=>exact aaJ (show Β (Str.ofString "end")=true by rw[<-hs.h2,<-e];rfl) @_
  | υ k ds=>
   have e:k=ο:=e;subst e;have⟨j,gj,_⟩:=(cI (i:=i) fw hs.h2 fa).1 ds hi;rw[g,gj]
 ·rw[g,(cI (i:=i) fw hs.h2 fa).2 r hi (λz=>by rw[z,hs.h2]at e;cases e)];show Λ (cy γ hand p) i=_;rw[hh];have:vV hand p (kindOf r)=none:=aav λz=>by rw[z,hs.h1]at e;cases e
  rw[this];rfl
def Hz(ε:Fr)(γ:List Rw)(hand ο:Str)(p pa:Pl)(tb:List Fr):Prop:=aw (dD γ ο) pa/\i_ ε γ (br (cy γ hand p) pa) tb/\Α ε γ tb pa=[]
def ES{q:Pl}(nd:Dh q)(i:Int):Λ (br [] q) i=Λ q i:=by rw[eO nd];cases Λ q i <;> rfl
def sy(fw:FW ε γ X C)(hs:jP hand ο)(fp:aw (dD γ hand) p)(b:Hz ε γ hand ο p pa tb)(fa':aw (dD γ ο) Ud)(vd:aw (dD γ hand) p')(hb:∀i,i < γ.length->Λ p' i=Λ p i\/Ez ε γ tb hand p p' i):∀i,i < γ.length->ZS ε γ tb hand ο (br (cy γ hand p) pa) (br (cy γ hand p') Ud) i:=λi il=>by
 have⟨fa,wt,be⟩:=b;have hp:∀t,t < γ.length->0 < (tb.getD t (0,1)).2:=λt ht=>(wt.tab.red t ht).pos;have hi:γ[i]? =some γ[i]:=aaa il;generalize γ[i]=r at *
 have⟨a1,a2,a3⟩:=jg (i:=i) fw hs fp fa hi;have⟨c1,c2,c3⟩:=jg (i:=i) fw hs vd fa' hi;cases hk:Β (kindOf r) with
 | false=>left;rw[a3 hk,c3 hk]
 | true=>
  rcases hs.two _ hk with e| e
  ·rcases hb i il with z| ⟨ds,j,j',D_,g,g',jl,nb,b⟩
   ·left;rw[a1 e,c1 e,z]
   ·right;left;exact⟨ds,j,j',D_,by rw[a1 e];exact g,by rw[c1 e];exact g',jl,nb,b⟩
  ·right;right;cases r with
   | fin q=>exact aaJ hk (by show¬Β (Str.ofString "end")=true;decide)
   | υ k ds=>
    have e':k=ο:=e;subst e';have⟨j,gj,jl⟩:=(cI (i:=i) fw hs.h2 fa).1 ds hi;have⟨j',Vw,Nq⟩:=(cI (i:=i) fw hs.h2 fa').1 ds hi;exact⟨ds,j,j',hi,by rw[a2 rfl,gj],by rw[c2 rfl,Vw],Nq,ux fw hs.h2 fa hp be hi gj⟩
def qY(fw:FW ε γ X C)(hs:jP hand ο)(fp:aw (dD γ hand) p)(fa:aw (dD γ ο) pa):gL γ (br (cy γ hand p) pa):=by
 refine⟨λi r hi hk=>?_,λi r hi hk=>(jg fw hs fp fa hi).2.2 hk⟩;have⟨a1,a2,_⟩:=jg (i:=i) fw hs fp fa hi;cases r with
 | fin q=>exact aaJ hk (by show¬Β (Str.ofString "end")=true;decide)
 | υ k ds=>
  rcases hs.two _ hk with e| e
  ·have e':k=hand:=e;subst e';rw[a1 rfl];exact(cI (i:=i) fw hs.h1 fp).1 ds hi
  ·have e':k=ο:=e;subst e';rw[a2 rfl];exact(cI (i:=i) fw hs.h2 fa).1 ds hi
noncomputable def RI(ε:Fr)(γ:List Rw)(hand ο:Str)(p:Pl)(i:Nat):Rat:=open Classical in if h:∃tb,∃pa,Hz ε γ hand ο p pa tb then val (h.choose.getD i (0,1)) else 0
def D3(fw:FW ε γ X C)(hs:jP hand ο)(b1:1<=iK X C)(fp:aw (dD γ hand) p)(b:Hz ε γ hand ο p pa tb)(il:i < γ.length):RI ε γ hand ο p i=val (tb.getD i (0,1)):=by
 have ex:∃tb,∃pa,Hz ε γ hand ο p pa tb:=⟨tb,pa,b⟩;unfold RI;rw[dif_pos ex];have⟨Ud,b'⟩:=ex.choose_spec;generalize ex.choose=mC at *
 have u:=(sS fw hs (qY fw hs fp b'.1) b1 b.2.1 b'.2.1 (sy fw hs fp b b'.1 fp λ_ _=>.inl rfl)).1 i il;have v:=(sS fw hs (qY fw hs fp b.1) b1 b'.2.1 b.2.1 (sy fw hs fp b' b.1 fp λ_ _=>.inl rfl)).1 i il;exact K2 (k:=hand) (Rat.le_antisymm v u)
noncomputable def oQ(ε:Fr)(γ:List Rw)(hand ο:Str)(p:Pl):Nat:=open Classical in (cn (dD γ hand)).countP λq=>decide (dG (λi=>jX hand * RI ε γ hand ο p i) γ.length < dG (λi=>jX hand * RI ε γ hand ο q i) γ.length)
def MZ(fw:FW ε γ X C)(hs:jP hand ο)(b1:1<=iK X C)(fp:aw (dD γ hand) p)(b:Hz ε γ hand ο p pa tb)(ne:Α ε γ tb p≠[])(b':Hz ε γ hand ο (br p (Α ε γ tb p)) Ud mC):oQ ε γ hand ο (br p (Α ε γ tb p)) < oQ ε γ hand ο p:=by
 have hp:∀t,t < γ.length->0 < (tb.getD t (0,1)).2:=λt ht=>(b.2.1.tab.red t ht).pos;have vd:=fU (tb:=tb) fw hs.h1 fp hp;have n1:=ES (bA fp);have n2:=ES (bA vd);have cut:∀i,Ez ε γ tb hand (br [] p) (br [] (br p (Α ε γ tb p))) i->Ez ε γ tb hand p (br p (Α ε γ tb p)) i:=λi ⟨ds,j,j',hi,g,g',r⟩=>⟨ds,j,j',hi,by rw[<-n1];exact g,by rw[<-n2];exact g',r⟩;have hb:∀i,i < γ.length->Λ (br p (Α ε γ tb p)) i=Λ p i\/Ez ε γ tb hand p (br p (Α ε γ tb p)) i:=λi il=>by
  rcases vD fw hs.h1 fp hp [] i il with e| e
  ·left;rw[<-n1,<-n2];exact e
  ·exact .inr (cut i e)
 have⟨i,il,hc⟩:=qk fw hs.h1 fp hp [] ne;have mm:=sy fw hs fp b b'.1 vd hb;have⟨u,v⟩:=sS fw hs (qY fw hs vd b'.1) b1 b.2.1 b'.2.1 mm;have zC:Ez ε γ tb hand (br (cy γ hand p) pa) (br (cy γ hand (br p (Α ε γ tb p))) Ud) i:=by have⟨ds,j,j',hi,g,g',r⟩:=cut i hc;exact⟨ds,j,j',hi,by rw[(jg fw hs fp b.1 hi).1 rfl];exact g,by rw[(jg fw hs vd b'.1 hi).1 rfl];exact g',r⟩
 have lt:dG (λi=>jX hand * RI ε γ hand ο p i) γ.length < dG (λi=>jX hand * RI ε γ hand ο (br p (Α ε γ tb p)) i) γ.length:=by
  refine wW (λj hj=>?_) il ?_
  ·rw[D3 fw hs b1 fp b hj,D3 fw hs b1 vd b' hj];exact u j hj
  ·rw[D3 fw hs b1 fp b il,D3 fw hs b1 vd b' il];exact v i il zC
 unfold oQ;refine CC (λa _ ha=>?_) (gT vd) (decide_eq_true lt) (decide_eq_false (by grind));have:=aaA ha;exact decide_eq_true (by grind)
end
section
variable{p pa:Pl}
def Fl(fw:FW ε γ X C)(hh:Β hand=true)(fp:aw (dD γ hand) p):∀i,i < γ.length->fg γ (vV hand p) i=true:=λi il=>by
 have hi:γ[i]? =some γ[i]:=aaa il;generalize γ[i]=r at *
 unfold fg;rw[hi];show jU (vV hand p) i r=true;unfold jU vV;by_cases e:kindOf r=hand
 ·rw[aaw e];cases r with
  | fin q=>exact aaJ (show Β (Str.ofString "end")=true by rw[<-hh,<-e];rfl) @_
  | υ k ds=>
   have e:k=hand:=e;subst e;have⟨j,gj,jl⟩:=(cI (i:=i) fw hh fp).1 ds hi;show eh p i ds.length=true;unfold eh;rw[gj];show(decide (0<=(j:Int))&&decide ((j:Int) < (ds.length:Int)))=true;rw[aaB (show 0<=(j:Int) by omega),aaB (show(j:Int) < (ds.length:Int) by omega)];rfl
 ·rw[aav e]
def Kr:oQ ε γ hand ο p<=(cn (dD γ hand)).length:=List.countP_le_length
def HK(fp:aw (dD γ hand) p):p.length<=γ.length:=by have:=aaX List.length (bD fp);rw[aac,gx,aac]at this;have l:=acb (λi=>decide (bZ γ i=hand)) (List.range γ.length);rw[aaP]at l;have l:(i4 γ hand).length<=γ.length:=l;omega
def Mr(fw:FW ε γ X C)(hh:Β hand=true)(fp:aw (dD γ hand) p)(hp:∀t,t < γ.length->0 < (tb.getD t (0,1)).2):∀e∈p,0<=e.1/\∃r,γ[e.1.toNat]? =some r/\Β (kindOf r)=true/\cL ε tb r≠[]:=λe he=>by have ke:e.1∈p.map (·.1):=aah.mpr ⟨e,he,rfl⟩;rw[bD fp,gx]at ke;have⟨i,hm,ei⟩:=aah.mp ke;have ei:(i:Int)=e.1:=ei;have⟨ds,j,hi,_,_,_,_,ne,_⟩:=iX fw hh fp hp hm;exact⟨(),.υ hand ds,by rw[<-ei,abP];exact hi,hh,ne⟩
def Rd(ε:Fr)(γ:List Rw)(hand ο:Str)(m:Nat)(p:Pl):Prop:=m=(cn (dD γ hand)).length+1\/∃pp ppa VT,aw (dD γ hand) pp/\Hz ε γ hand ο pp ppa VT/\Α ε γ VT pp≠[]/\p=br pp (Α ε γ VT pp)/\m=oQ ε γ hand ο pp
def Rd.lt{m:Nat}(h:Rd ε γ hand ο m p)(fw:FW ε γ X C)(hs:jP hand ο)(b1:1<=iK X C)(fp:aw (dD γ hand) p)(b:Hz ε γ hand ο p pa tb):oQ ε γ hand ο p < m:=by
 rcases h with e| ⟨pp,ppa,VT,f,b0,ne,e,em⟩
 ·rw[e];exact Nat.lt_succ_of_le Kr
 ·subst e;rw[em];exact MZ fw hs b1 f b0 ne b
end
def zh(A:Addr):DF:=λas M q _=>∃(ε:Fr) (γ:List Rw) (hand:Str),as=[aD A ε γ,.str hand,.bF]/\γ.length<=12/\q (.loc M.length) (M++[dP (o9 γ hand)])
def Fz:Ε ["floor","hand","start"] ["floor","hand","start"] (τ uA):=.of rfl
def BH(F:cX K "started" "started" uA f fd)(E:Ev K mg w Cm){mQ:Addr}{mJ:FuncData}(eJ:aB P w K mg base 3 "first_plan" ["floor","hand"] (yx Cm) mQ mJ):av P w K mg base (bY P w) 5 f fd ["floor","hand","start"] (cK K (zh Cm)):=by
 refine F.dE Fz (λds M q x h=>?_) (λaX A outer s H E' hr=>⟨_,(η (aI (Kg (jv 2) MC) (μ (Ζ (ao eJ hr ξ (Τ (jv 0) (Τ (jv 1) θ))))) Υ)
   (μ fQ)),λds M q x h=>?_⟩)
 ·have⟨ε,γ,hand,rfl,_⟩:=h;rfl
 ·have⟨ε,γ,hand,rfl,lY,h⟩:=h;refine⟨λ_=>?_,λz=>(nomatch z)⟩;exact⟨ε,γ,hand,rfl,lY,h⟩
def DR(A:Addr):DF:=λas M q _=>∃(ε:Fr) (γ:List Rw) (hand ο:Str) (X C:Int),as=[aD A ε γ,.str hand,.bF]/\(hand="one"/\ο="other"\/hand="other"/\ο="one")/\FW ε γ X C/\iK X C<=2 ^ 450/\(12 * iK X C) ^ γ.length < 2 ^ 1030/\1<=iK X C/\(cn (dD γ hand)).length<=1000/\∀(p pa:Pl) (tb:List Fr) (E:Ms) (ka:Nat),aw (dD γ hand) p->Hz ε γ hand ο p pa tb->Α ε γ tb p=[]->(M++[dP p]++E)[ka]? =some (dP pa)->q (.tup [.loc M.length,.loc ka,.lst (tb.map Ξ),.loc (M.length+1)]) (M++[dP p]++E)
def j_:Ε ["floor","hand","start","plan","rounds","found","better"] ["floor","hand","start"] (τ yt):=.of rfl
def FL{U:Addr}(F:FG K "mended" yt U its f fd)(E:Ev K mg w Cm){Jn:Addr}{Jb:FuncData}(p9:aB P w K mg base 5 "started" ["floor","hand","start"] (zh Cm) Jn Jb){HN:Addr}{KN:FuncData}(pq:aB P w K mg base 9 "against" ["floor","hand","plan"] (zQ Cm) HN KN){jM:Addr}{jf:FuncData}(bU:aB P w K mg base 8 "better_doors" ["floor","plan","table"] (xn Cm) jM jf):av P w K mg base (bY P w) 10 f fd ["floor","hand","start"] (cK K (DR Cm)):=by
 refine F.dE j_ (λds M q x h=>?_) (λaX A outer s H E' hr=>⟨_,(η (Γ 3 j_.nd (ao p9 hr ξ (Τ (jv 0) (Τ (jv 1) (Τ (jv 2) θ)))))
   (η (Γ 4 j_.nd (hG θ))
   (μ (nP (bL CB) (η (Γ 5 j_.nd (ao pq hr ξ (Τ (jv 0) (Τ (jv 1) (Τ (jv 3) θ)))))
   (η (dh (dJ (jv 4) (ι (fR (ι (Bl E.pA (Τ (jv 3) θ)) (ι (tP E.jJ (ι (Μ (jv 5) ψ) θ aU)) θ aS) aS)) θ Ea)))
   (η (Γ 6 j_.nd (ao bU hr ξ (Τ (jv 0) (Τ (jv 3) (ι (Μ (jv 5) ψ) θ aU)))))
   (η (aI (eZ hr (Iq E.bJ (Τ (jv 6) θ)) ψ) (μ (Ζ (fR (Τ (jv 3) (ι (Μ (jv 5) ψ) (ι (Μ (jv 5) ψ) (Τ (jv 4) θ) aU) aU))))) Υ)
   (μ (dh (CY (jv 3) (jv 6)))))))))))),λds M q x h=>?_⟩)
 ·have⟨ε,γ,hand,ο,X,C,rfl,_⟩:=h;rfl
 ·have⟨ε,γ,hand,ο,X,C,rfl,fZ,fw,j3,pX,b1,hN,h⟩:=h;have hs:=i8 fZ;have lY:=fw.pl.len;have sl:∀{z:Nat},z<=1000->z < sizeLine:=λh=>aaV h @_;refine⟨ε,γ,hand,rfl,lY,?_⟩;walk_at "vc";dsimp only[Of];walk_at "vc";refine⟨@_,?_⟩;have f0:=sH fw hs.h1;have kr:(M++[dP (o9 γ hand)]).length=M.length+1:=by simp
  rw[kr];generalize o9 γ hand=p0 at *
  refine⟨λm ρ' M'=>∃(p:Pl) (xs:List Dt) (E1:Ms) (o5 o6:Option Dt),aw (dD γ hand) p/\Rd ε γ hand ο m p/\xs.length+m<=(cn (dD γ hand)).length+1/\M'=M++[dP p,.lst xs]++E1/\ρ'=[some (aD Cm ε γ),some (.str hand),some .bF,some (.loc M.length),some (.loc (M.length+1)),o5,o6],⟨_,p0,[],[],none,none,f0,.inl rfl,by rw[List.length_nil,Nat.zero_add];exact Nat.le_refl _,by simp,rfl⟩,λm ρ' M' hw=>?_⟩;have⟨p,xs,E1,o5,o6,fp,hm,hx,rfl,rfl⟩:=hw;walk_at "vc";refine⟨λ_=>⟨_,λρ2 M2 hn=>hn,?_⟩,λz=>(nomatch z)⟩;have Tb:∀(p:Pl) (m:MO) (E:Ms),(M++[dP p,m]++E)[M.length]? =some (dP p):=λp m E=>bc (by rw[aan (aai _),acK];rfl);have Z4:∀(p:Pl) (m:MO) (E:Ms),(M++[dP p,m]++E)[M.length+1]? =some m:=λp m E=>bc (by rw[aan (),abz];rfl);refine⟨ε,γ,hand,ο,M.length,p,X,C,rfl,Tb p _ E1,fZ,fw,j3,pX,b1,Fl fw hs.h1 fp,λpa tb E2 fa wt be=>?_⟩;have Sn:Hz ε γ hand ο p pa tb:=⟨fa,wt,be⟩;have lt:=hm.lt fw hs b1 fp Sn;have kE:(M++[dP p,MO.lst xs]++E1).length+2=M.length+4+E1.length:=by rw[aag,aag];show M.length+2+E1.length+2=_;omega
  have eS:M++[dP p,MO.lst xs]++E1++[MO.eW [Sum.inr hand] [Dt.loc (List.length M)],dP (cy γ hand p),dP pa]++E2=M++[dP p,MO.lst xs]++(E1++[MO.eW [Sum.inr hand] [Dt.loc (List.length M)],dP (cy γ hand p),dP pa]++E2):=by simp only[List.append_assoc]
  have HA:∀(m1 m2:MO) (E:Ms),(M++[m1,m2]++(E1++[MO.eW [Sum.inr hand] [Dt.loc (List.length M)],dP (cy γ hand p),dP pa]++E2++E))[M.length+4+E1.length]? =some (dP pa):=λm1 m2 E=>by rw[aan (by rw[aag];show M.length+2<=_;omega),aaO,aaO,aan (by rw[aag];show E1.length<=M.length+4+E1.length - (M.length+2);omega)];rw[aag];show([MO.eW [Sum.inr hand] [Dt.loc (List.length M)],dP (cy γ hand p),dP pa]++(E2++E))[M.length+4+E1.length - (M.length+2) - E1.length]? =_;rw[show M.length+4+E1.length - (M.length+2) - E1.length=2 by omega];rfl
  rw[kE,eS];generalize M.length+4+E1.length=ka at *
  generalize E1++[MO.eW [Sum.inr hand] [Dt.loc (List.length M)],dP (cy γ hand p),dP pa]++E2=E3 at *
  dsimp only[UZ];walk_at "vc";refine⟨⟨_,_,rfl,Z4 p _ E3⟩,M.length,_,_,rfl,Tb p _ E3,?_⟩;have r1:∀(M':Ms) (q:DQ),q (.lst (tb.map Ξ)) M'->fm (.tup [.loc ka,.lst (tb.map Ξ)]) (.int 1) M' q:=λM' q hq=>Ι (d:=.tup [.loc ka,.lst (tb.map Ξ)]) rfl (Ο (j:=1) rfl) hq;have r0:∀(M':Ms) (q:DQ),q (.loc ka) M'->fm (.tup [.loc ka,.lst (tb.map Ξ)]) (.int 0) M' q:=λM' q hq=>Ι (d:=.tup [.loc ka,.lst (tb.map Ξ)]) rfl bu hq;refine r1 _ _ ?_;dsimp only[vO,jq];refine⟨@_,M.length+1,xs,_,rfl,rfl,bc (bc (Z4 p _ E3)),sl (),?_⟩;have eT:M++[dP p,MO.lst xs]++E3++[MO.eW (kP p) (vP p)]++[MO.lst (tb.map Ξ)]=M++[dP p,MO.lst xs]++(E3++[MO.eW (kP p) (vP p),MO.lst (tb.map Ξ)]):=by simp
  have XM:∀(ys:List Dt) (E:Ms),(M++[dP p,MO.lst xs]++E).set (M.length+1) (.lst ys)=M++[dP p,MO.lst ys]++E:=λys E=>by rw[aaO,aaO,aca (h:=by omega),abz];rfl
  have WH:∀(p':Pl) (ys:List Dt) (E:Ms),(M++[dP p,MO.lst ys]++E).set M.length (dP p')=M++[dP p',MO.lst ys]++E:=λp' ys E=>by rw[aaO,aaO,aca (h:=aai _),acK];rfl
  rw[eT,XM];have hl:(xs++[Dt.tup [.loc (M++[dP p,MO.lst xs]++E3).length,.loc (M++[dP p,MO.lst xs]++E3++[MO.eW (kP p) (vP p)]).length]]).length=xs.length+1:=by rw[aag];rfl
  generalize xs++[Dt.tup [.loc (M++[dP p,MO.lst xs]++E3).length,.loc (M++[dP p,MO.lst xs]++E3++[MO.eW (kP p) (vP p)]).length]]=ys at *
  have HA:=λm1 m2 E=>HA m1 m2 ([MO.eW (kP p) (vP p),MO.lst (tb.map Ξ)]++E);have e4:∀E:Ms,E3++([MO.eW (kP p) (vP p),MO.lst (tb.map Ξ)]++E)=E3++[MO.eW (kP p) (vP p),MO.lst (tb.map Ξ)]++E:=λE=>by rw[aaO]
  simp only[e4]at HA;generalize E3++[MO.eW (kP p) (vP p),MO.lst (tb.map Ξ)]=E4 at *
  have hp:∀t,t < γ.length->0 < (tb.getD t (0,1)).2:=λt ht=>(wt.tab.red t ht).pos;have vd:=fU (tb:=tb) fw hs.h1 fp hp;have pl:=HK fp;refine r1 _ _ ?_;refine⟨ε,γ,tb,M.length,p,rfl,Tb p _ E4,wt.Yr fw (qY fw hs fp fa) b1,bA fp,(),Mr fw hs.h1 fp hp,?_⟩;have bl:(Α ε γ tb p).length<=12:=aas (jh _) ();refine⟨_,_,_,rfl,ax,?_⟩;have kl:(kP (Α ε γ tb p)).length=(Α ε γ tb p).length:=by unfold kP;rw[List.length_map]
  rw[kl];refine⟨λz=>?_,λz=>?_⟩
  ·have z:((Α ε γ tb p).length:Int)=0:=aaA z;have e:Α ε γ tb p=[]:=ab5.mp ();refine r0 _ _ (r1 _ _ ⟨@_,?_⟩);have:=h p pa tb ([.lst ys]++(E4++[dP (Α ε γ tb p)])) ka fp Sn e;have eU:M++[dP p]++([MO.lst ys]++(E4++[dP (Α ε γ tb p)]))=M++[dP p,MO.lst ys]++(E4++[dP (Α ε γ tb p)]):=by simp
   rw[eU]at this;rw[aaO];exact this (HA _ _ _)
  ·have z:¬((Α ε γ tb p).length:Int)=0:=abd z;have ne:Α ε γ tb p≠[]:=λy=>z (by rw[y];rfl);dsimp only[Ek];walk_at "vc";have ll:(M++[dP p,MO.lst ys]++E4).length=M.length+2+E4.length:=by rw[aag,aag];rfl
   refine⟨⟨_,_,_,rfl,bc (Tb p _ E4)⟩,M.length,_,_,_,_,_,rfl,rfl,(),bc (Tb p _ E4),ax,by rw[kl];unfold kP;rw[List.length_map];omega,?_⟩;rw[Er,EW,aaO,WH];exact⟨_,lt,_,ys,_,_,_,vd,.inr ⟨p,pa,tb,fp,Sn,ne,rfl,rfl⟩,(),rfl,rfl⟩
def A6(A:Addr):DF:=λas M q _=>∃(ε:Fr) (γ:List Rw) (X C:Int),as=[aD A ε γ]/\FW ε γ X C/\iK X C<=2 ^ 450/\(12 * iK X C) ^ γ.length < 2 ^ 1030/\1<=iK X C/\(cn (dD γ "one")).length<=1000/\∀(p pa:Pl) (tb:List Fr) (E:Ms),aw (dD γ "one") p->Hz ε γ "one" "other" p pa tb->Α ε γ tb p=[]->q (.lst (tb.map Ξ)) (M++E)
def Il:Ε ["floor"] ["floor"] (τ yc):=.of rfl
def Fs(F:cX K "worths" "worths" yc f fd)(E:Ev K mg w Cm){Ma:Addr}{M_:FuncData}(oS:PU P w K mg base 10 "mended" ["floor","hand","start"] (DR Cm) [.str "one",.bF] Ma M_):av P w K mg base (bY P w) 11 f fd ["floor"] (cK K (A6 Cm)):=by
 refine F.dE Il (λds M q x h=>?_) (λaX A outer s H E' hr=>⟨_,(μ (Ζ (Μ (T' oS hr ξ (Τ (jv 0) θ)) ψ))),λds M q x h=>?_⟩)
 ·have⟨ε,γ,X,C,rfl,_⟩:=h;rfl
 ·have⟨ε,γ,X,C,rfl,fw,j3,pX,b1,hN,h⟩:=h;refine⟨ε,γ,"one","other",X,C,rfl,.inl ⟨rfl,rfl⟩,fw,j3,pX,b1,hN,λp pa tb E ka fp Sn be _=>?_⟩;refine Ι (d:=.tup [.loc M.length,.loc ka,.lst (tb.map Ξ),.loc (M.length+1)]) rfl (Ο (j:=2) rfl) ?_;rw[aaO];exact h p pa tb _ fp Sn be
section
variable{p pa p1 p2 q1 q2 qr:Pl}
def i_.ext(h:i_ ε γ Η tb)(e:∀i:Nat,i < γ.length->Λ bQ i=Λ Η i):i_ ε γ bQ tb:=
 ⟨⟨h.tab.len,h.tab.red,λi il=>by
  have:=h.j4 il;rw[<-AJ (e i il)]at this
  exact this.symm⟩,h.bot⟩
def sC(γ:List Rw)(hand:Str)(p:Pl):Prop:=∀(i:Nat) (r:Rw),γ[i]? =some r->kindOf r=hand->∃j:Nat,Λ p i=some (j:Int)/\j < (Κ r).length
def fb(fw:FW ε γ X C)(hh:Β hand=true)(fp:aw (dD γ hand) p):sC γ hand p:=λi r hi e=>by
 cases r with
 | fin q=>exact aaJ (show Β (Str.ofString "end")=true by rw[<-hh,<-e];rfl) @_
 | υ k ds=>
  have e:k=hand:=e;subst e;exact(cI (i:=i) fw hh fp).1 ds hi
def EK(o:sC γ hand p)(hi:γ[i]? =some r)(e:kindOf r=hand):eh p i (Κ r).length=true:=by have⟨j,gj,jl⟩:=o i r hi e;unfold eh;rw[gj];show(decide (0<=(j:Int))&&decide ((j:Int) < ((Κ r).length:Int)))=true;rw[aaB (show 0<=(j:Int) by omega),aaB (show(j:Int) < ((Κ r).length:Int) by omega)];rfl
def gP(o1:sC γ "one" p1)(o2:sC γ "other" p2):∀i,i < γ.length->fg γ (ai p1 p2) i=true:=λi il=>by
 have hi:γ[i]? =some γ[i]:=aaa il;generalize γ[i]=r at *
 unfold fg;rw[hi];show jU (ai p1 p2) i r=true;unfold jU ai;by_cases e:kindOf r="one"
 ·rw[aaw e];exact EK o1 hi e
 ·rw[aav e];by_cases e2:kindOf r="other"
  ·rw[aaw e2];exact EK o2 hi e2
  ·rw[aav e2]
def wO(hi:γ[i]? =some r):Λ (cT γ (ai p1 p2) γ.length) i=((ai p1 p2 (kindOf r)).map λpl=>(Λ pl i).getD 0):=by rw[ju,aaw (aaf.mp hi).1,hi];rfl
structure Q6(ε:Fr)(γ:List Rw)(p1 p2:Pl)(tb:List Fr):Prop where
 f1:aw (dD γ "one") p1
 f2:aw (dD γ "other") p2
 wt:i_ ε γ (cT γ (ai p1 p2) γ.length) tb
 n1:Α ε γ tb p1=[]
 n2:Α ε γ tb p2=[]
def jC:jP "one" "other":=i8 (.inl ⟨rfl,rfl⟩)
def Aa(h:Β z=false):ai p1 p2 z=none:=by unfold ai;rw[aav (λe=>by rw[e]at h;exact aaJ h @_),aav (λe=>by rw[e]at h;exact aaJ h @_)]
def Kp(fw:FW ε γ X C)(hs:jP hand ο)(fp:aw (dD γ hand) p)(fa:aw (dD γ ο) pa)(e1:ai p1 p2 hand=some p)(e2:ai p1 p2 ο=some pa)(w:i_ ε γ (br (cy γ hand p) pa) tb):i_ ε γ (cT γ (ai p1 p2) γ.length) tb:=w.ext λi il=>by
 have hi:γ[i]? =some γ[i]:=aaa il;generalize γ[i]=r at *
 have⟨a1,a2,a3⟩:=jg (i:=i) fw hs fp fa hi;rw[wO hi];cases hk:Β (kindOf r) with
 | false=>rw[a3 hk,Aa hk];rfl
 | true=>
  rcases hs.two _ hk with e| e
  ·have⟨j,gj,_⟩:=fb fw hs.h1 fp i r hi e;rw[a1 e,e,e1,gj];show some ((Λ p i).getD 0)=_;rw[gj];rfl
  ·have⟨j,gj,_⟩:=fb fw hs.h2 fa i r hi e;rw[a2 e,e,e2,gj];show some ((Λ pa i).getD 0)=_;rw[gj];rfl
def T4(fw:FW ε γ X C)(fp:aw (dD γ "one") p)(b:Hz ε γ "one" "other" p pa tb)(n:Α ε γ tb p=[]):Q6 ε γ p pa tb:=⟨fp,b.1,Kp fw jC fp b.1 rfl rfl b.2.1,n,b.2.2⟩
def zT(fw:FW ε γ X C)(b1:1<=iK X C)(hh:Β ο=true)(fa:aw (dD γ ο) pa)(be:Α ε γ tb pa=[])(e1:ai p1 p2 ο=some pa)(e2:ai q1 q2 ο=some qr)(eo:∀z:Str,z≠ο->ai q1 q2 z=ai p1 p2 z)(has:sC γ ο qr)(dk:gL γ (cT γ (ai q1 q2) γ.length))(wt:i_ ε γ (cT γ (ai p1 p2) γ.length) tb)(Lk:i_ ε γ (cT γ (ai q1 q2) γ.length) mC):∀i,i < γ.length->jX ο * val (mC.getD i (0,1))<=jX ο * val (tb.getD i (0,1)):=by
 have hp:∀t,t < γ.length->0 < (tb.getD t (0,1)).2:=λt ht=>(wt.tab.red t ht).pos;refine Ah fw hh dk b1 wt Lk λi il=>?_;have hi:γ[i]? =some γ[i]:=aaa il;generalize γ[i]=r at *
 rw[wO hi,wO hi];by_cases ek:kindOf r=ο
 ·right;have⟨j,gj,_⟩:=fb fw hh fa i r hi ek;have⟨j',Vw,Nq⟩:=has i r hi ek;cases r with
  | fin q=>exact aaJ (show Β (Str.ofString "end")=true by rw[<-hh,<-ek];rfl) @_
  | υ k ds=>
   have ek:k=ο:=ek;subst ek;refine⟨ds,j,j',hi,?_,?_,Nq,ux fw hh fa hp be hi gj⟩
   ·show Option.map _ (ai p1 p2 k)=_;rw[e1];show some ((Λ pa i).getD 0)=_;rw[gj];rfl
   ·show Option.map _ (ai q1 q2 k)=_;rw[e2];show some ((Λ qr i).getD 0)=_;rw[Vw];rfl
 ·left;rw[eo _ ek]
def sg1:jX "one"=1:=aaw rfl
def sg2:jX "other"= -1:=aav @_
def xM(h:z≠"other"):ai p1 q2 z=ai p1 p2 z:=by
 unfold ai;by_cases e:z="one"
 ·rw[aaw e,aaw e]
 ·rw[aav e,aav e,aav h,aav h]
def B5(h:z≠"one"):ai q1 p2 z=ai p1 p2 z:=by unfold ai;rw[aav h,aav h]
def Q6.low(o:Q6 ε γ p1 p2 tb)(fw:FW ε γ X C)(b1:1<=iK X C)(has:sC γ "other" q2)(Lk:i_ ε γ (cT γ (ai p1 q2) γ.length) mC)(il:i < γ.length):val (tb.getD i (0,1))<=val (mC.getD i (0,1)):=by have:=zT fw b1 jC.h2 o.f2 o.n2 rfl rfl (λz hz=>xM hz) has (tS (gP (fb fw jC.h1 o.f1) has)) o.wt Lk i il;rw[sg2]at this;grind
def Q6.high(o:Q6 ε γ p1 p2 tb)(fw:FW ε γ X C)(b1:1<=iK X C)(has:sC γ "one" q1)(Lk:i_ ε γ (cT γ (ai q1 p2) γ.length) mC)(il:i < γ.length):val (mC.getD i (0,1))<=val (tb.getD i (0,1)):=by have:=zT fw b1 jC.h1 o.f1 o.n1 rfl rfl (λz hz=>B5 hz) has (tS (gP has (fb fw jC.h2 o.f2))) o.wt Lk i il;rw[sg1]at this;grind
end
def UM{a:Int}(h1: -(10 ^ 30)<=a)(h2:a<=10 ^ 30)(h3:b<=1000000):bz (a,b)=true:=by
 unfold bz;have:(if a < 0 then -a else a)<=10 ^ 30:=by split <;> omega
 show(decide ((if a < 0 then -a else a)<=10 ^ 30)&&decide (b<=1000000))=true;rw[aaB this,aaB h3];rfl
def DL{t:Int}(h1: -(10 ^ 30)<=t)(h2:t<=10 ^ 30)(h0:0 < b)(h3:b<=1000000):bz (aA t b)=true:=by
 have l1:=uo (t:=t) (show b≠0 by omega);have l2:=kZ (t:=t) (show b≠0 by omega);generalize aA t b=f at *
 have⟨x,y⟩:=f;have l1:x.natAbs<=t.natAbs:=l1;have l2:y.natAbs<=b.natAbs:=l2;exact UM () () ()
def Cw{t:Int}(t0:0<=t)(t1:t < b)(hb1:b<=1000):aW (aA t b)=true:=by
 have Lr:0 < b:=()
 have l2:=kZ (t:=t) (show b≠0 by omega);have q0:=cM (t:=t) (show b≠0 by omega);have hc:=cE (t:=t) (show b≠0 by omega);generalize aA t b=f at *
 have⟨x,y⟩:=f;have l2:y.natAbs<=b.natAbs:=l2;have q0:0 < y:=q0;have hc:t * y=b * x:=hc;have x0:0<=x:=by
  rcases acr x 0 with z| z
  ·have:=abW Lr z;have:=abi t0 (aaj q0);omega
  ·exact z
 have x1:x < y:=by
  rcases acr x y with z| z
  ·exact z
  ·have h3:b * y<=b * x:=aaq z (aaj Lr);have h4:t * y < b * y:=Int.mul_lt_mul_of_pos_right t1 q0;omega
 unfold aW;show(decide (0<=x)&&(decide (x < y)&&decide (y<=1000)))=true;rw[aaB x0,aaB x1,aaB (show y<=1000 by omega)];rfl
def Yq(ns:List Int)(k:Int):Int:=ns.getD k.toNat 0
def OY{ns:List Int}{k:Int}(h0:0<=k)(h2:k < ns.length):nJ (ns.map Dt.int) k=some (.int (Yq ns k)):=by
 have e:(ns.map Dt.int)[k.toNat]? =some (.int (Yq ns k)):=by rw[aal,aaa (show k.toNat < ns.length by omega)];unfold Yq;rw[aab,aaa (show k.toNat < ns.length by omega)];rfl
 have:=Ο e;rwa[show((k.toNat:Nat):Int)=k by omega]at this
def Nm(n:Int):Prop:=0<=n/\n < 10 ^ 300
def SD:Ad 10 60:=⟨@_,@_,@_⟩
def X9:Ad 10 30:=⟨@_,@_,@_⟩
def p18:Ad 10 18:=⟨@_,@_,@_⟩
def p12:Ad 10 12:=⟨@_,@_,@_⟩
def p6:Ad 10 6:=⟨@_,@_,@_⟩
def wN{n:Int}(h:Nm n):fY n:=qH (k:=1000) h.1 (acu h.2 @_) @_
def Ku{a:Int}(h0:0 < b)(h1:b<=10 ^ 300):Nm (a % b):=⟨aa9 _ (),Int.lt_of_lt_of_le (aa5 _ h0) h1⟩
def JF{n:Int}(h:Nm n)(h0:0 < b):Nm (n / b):=⟨Int.ediv_nonneg h.1 (aaj h0),aaL (acm _ h.1) h.2⟩
def Z1:DF:=λas M q _=>∃(ns:List Int) (k:Int),as=[.jR ns,.int k]/\ns.length<=63/\0<=k/\k<=200/\∀n,Nm n->q (.int n) M
def qT:Ε ["_law_script","_law_k","_law_mixed","_law_cell"] ["_law_script","_law_k"] (τ Bs):=.of rfl
def Iv(F:cX K "_law_at" "_law_at" Bs f fd)(E:Ev K mg w Cm):av P w K mg base (bY P w) 1 f fd ["_law_script","_law_k"] (cK K Z1):=by
 refine F.dE qT (λds M q x h=>?_) (λaX A outer s H E' hr=>⟨_,(η (aI (vN (jv 1) (cQ E.bJ (Τ (jv 0) θ))) (μ (Ζ (cx (Μ (jv 0) (jv 1)) (aR (aR (aR (aR (iW ψ ψ) (iW ψ ψ)) (iW ψ ψ)) (iW ψ ψ)) (iW ψ ψ))))) Υ)
   (η (Γ 2 qT.nd (cW ψ (aR ψ (cQ E.bJ (Τ (jv 0) θ)))))
   (η (cC (aV (bK (yh (jv 0) ψ))) (au (i:=3) qT.nd rfl (Or.inl rfl)) aG (μ (Γ 2 qT.nd (cx (cW (aR (jv 2) ψ) (cx (jv 3) (iW ψ ψ))) ψ))))
   (μ (Ζ (cx (aR (cW (jv 2) ψ) (cW (aR (jv 1) (jv 1)) ψ)) ψ)))))),λds M q x h=>?_⟩)
 ·have⟨ns,k,rfl,_⟩:=h;rfl
 ·have⟨ns,k,rfl,nl,hk,k2,h⟩:=h;have bk:fY k:=bg (k:=40) ();have bl:fY (ns.length:Int):=bg (k:=40) ();have b6:fY ((10:Int) ^ (60:Int).toNat):=bg (k:=210) @_;walk_at "vc";refine(az (d:=.jR ns) (xs:=ns.map .int) rfl ?_:gw [.jR ns] M _);rw[aac];refine⟨λh1=>?_,λh1=>?_⟩
  ·have Zh:k < ns.length:=aaA h1;refine(Ι (d:=.jR ns) rfl (OY hk Zh) ?_:fm (.jR ns) (.int k) M _);exact⟨SD,SD,⟨b6,b6⟩,SD,⟨bg (k:=410) @_,b6⟩,SD,⟨bg (k:=610) @_,b6⟩,SD,⟨bg (k:=810) @_,b6⟩,@_,h _ (Ku @_ @_)⟩
  ·refine(az (d:=.jR ns) (xs:=ns.map .int) rfl ?_:gw [.jR ns] M _);rw[aac];refine⟨⟨bg (k:=40) @_,bl⟩,?_⟩;dsimp only[oh,eF,RD,JD];walk_at "vc";refine⟨ns.map .int,6,rfl,rfl,?_⟩;rw[<-acC];refine cf (h8 _) ?_;refine bx (λzs ρ' M'=>M'=M/\∃(rest:List Int) (m:Int) (o:Option Dt),zs=rest.map Dt.int/\0<=m/\m < 2147483647/\ρ'=[some (.jR ns),some (.int k),some (.int m),o]) (λzs ρ' M' hj=>trivial) (λx zs ρ' M' hj fW=>?_) (λρ' M' hj=>?_) _ _ _ ⟨rfl,_,_,none,rfl,(),(),rfl⟩
   ·have⟨rfl,rest,m,o,ex,m0,m1,rfl⟩:=hj;cases rest with
    | nil=>cases ex
    | cons c rest=>
     cases ex;exact⟨⟨bg (k:=40) (),bg (k:=40) @_⟩,p12,@_,@_,fW _ _ ⟨rfl,rest,_,_,rfl,aa9 _ @_,aa5 _ @_,rfl⟩⟩
   ·have⟨rfl,rest,m,o,ex,m0,m1,rfl⟩:=hj;have kk:0<=k * k/\k * k<=200 * 200:=⟨abi hk hk,abG k2 k2 hk @_⟩;exact⟨⟨bk,bk⟩,⟨bg (k:=40) (),bg (k:=40) ()⟩,@_,h _ (Ku @_ @_)⟩
def Xs(x:Int):Prop:=0<=x/\x < 2 ^ 110
def Dq:DF:=λas M q _=>∃(n:Int) (aP:Nat),as=[.int n,.int (aP:Nat)]/\fY n/\aP<=60/\∀xs:List Int,xs.length=aP->(∀x∈xs,Xs x)->q (.loc M.length) (M++[.lst (xs.map Dt.int)])
def fV:Ε ["_law_number","_law_many","_law_some","_law_seed","_law_k"] ["_law_number","_law_many"] (τ mY):=.of rfl
def wI(F:cX K "_law_stream" "_law_stream" mY f fd)(E:Ev K mg w Cm):av P w K mg base (bY P w) 1 f fd ["_law_number","_law_many"] (cK K Dq):=by
 refine F.dE fV (λds M q x h=>?_) (λaX A outer s H E' hr=>⟨_,(η (Γ 2 fV.nd (hG θ))
   (η (Γ 3 fV.nd (cW (cx (aR (jv 0) ψ) ψ) ψ))
   (η (hJ (b_ E.bR (Τ (jv 1) θ)) (au (i:=4) fV.nd rfl (Or.inl rfl)) aG (η (Γ 3 fV.nd (cx (cW (cW (aR (jv 3) ψ) (aR (jv 4) (jv 4))) ψ) ψ))
   (μ (dh (dJ (jv 2) (Τ (jv 3) θ))))))
   (μ (Ζ (jv 2)))))),λds M q x h=>?_⟩)
 ·have⟨n,aP,rfl,_⟩:=h;rfl
 ·have⟨n,aP,rfl,bn,m60,h⟩:=h;refine⟨@_,⟨bn,bg (k:=20) @_⟩,@_,?_⟩;have s0:=aa9 (n * 69621) (show(2147483629:Int)≠0 by decide);have s1:=aa5 (n * 69621) (show(0:Int) < 2147483629 by decide);dsimp only[yX];generalize n * 69621 % 2147483629=sd at *
  refine⟨⟨(),()⟩,?_⟩;rw[show((aP:Int)).toNat=aP by omega];refine cN (λzs ρ' M'=>∃(i c:Nat) (xs:List Int) (sd:Int) (o:Option Dt),zs=dN (i:Int) c/\i+c=aP/\xs.length=i/\(∀x∈xs,Xs x)/\0<=sd/\sd<=2147483647/\M'=M++[.lst (xs.map Dt.int)]/\ρ'=[some (.int n),some (.int (aP:Int)),some (.loc M.length),some (.int sd),o]) (λx zs ρ' M' hj fW=>?_) (λρ' M' hj=>?_) _ _ _ ⟨0,aP,[],sd+1,none,rfl,(),rfl,λ_ z=>(nomatch z),(),(),rfl,rfl⟩
  ·have⟨i,c,xs,sd,o,ex,ic,xl,hx,d0,d1,rfl,rfl⟩:=hj;have⟨c',rfl,rfl,rfl⟩:=cv ex;have i60:(i:Int) < 60:=()
   have ii:0<=(i:Int) * i/\(i:Int) * i<=60 * 60:=⟨abi () (),abG () () () @_⟩;refine⟨⟨bg (k:=40) (),bg (k:=20) @_⟩,⟨bg (k:=20) (),bg (k:=20) ()⟩,@_,?_⟩;have t0:=aa9 (sd * 48271+(i:Int) * i+7) (show(2147483647:Int)≠0 by decide);have t1:=aa5 (sd * 48271+(i:Int) * i+7) (show(0:Int) < 2147483647 by decide);refine⟨⟨_,_,rfl,ax⟩,M.length,_,_,rfl,rfl,ax,?_,?_⟩
   ·rw[aac,xl];exact aaV (show i<=60 by omega) @_
   rw[cY];refine fW _ _ ⟨i+1,c',xs++[(sd * 48271+(i:Int) * i+7) % 2147483647],_,_,by rw[Int.natCast_add];rfl,(),by simp[xl],λy hy=>?_,t0,Int.le_of_lt t1,by simp,rfl⟩;rcases aa0.mp hy with z| z
   ·exact hx y z
   ·rw[aa8.mp z];exact⟨t0,acu t1 @_⟩
  ·have⟨i,c,xs,sd,o,ex,ic,xl,hx,d0,d1,rfl,rfl⟩:=hj;have c0:c=0:=by have:=aaX List.length ex;rw[dU]at this;exact this.symm
   exact h xs () hx
def JP:DF:=λas M q _=>∃t b:Int,as=[.int t,.int b]/\0 < b/\fY b/\q (Ξ (aA t b)) M
def k_:Ε ["_law_top","_law_bottom","_law_one","_law_two"] ["_law_top","_law_bottom"] (τ mO):=.of rfl
def xi(F:cX K "_law_lowest" "_law_lowest" mO f fd)(E:Ev K mg w Cm):av P w K mg base (bY P w) 1 f fd ["_law_top","_law_bottom"] (cK K JP):=by
 refine F.dE k_ (λds M q x h=>?_) (λaX A outer s H E' hr=>⟨_,(η (Kf (i:=2) (j:=3) k_.nd rfl rfl (ι (Fd E.sk (Τ (jv 0) θ)) (Τ (jv 1) θ) aS))
   (η (nP (tX hr (jv 3) ψ) (μ (Kf (i:=2) (j:=3) k_.nd rfl rfl (Τ (jv 3) (ι (cx (jv 2) (jv 3)) θ cj)))))
   (μ (Ζ (fR (ι (j9 (jv 0) (jv 2)) (ι (j9 (jv 1) (jv 2)) θ cj) cj)))))),λds M q x h=>?_⟩)
 ·have⟨t,b,rfl,_⟩:=h;rfl
 ·have⟨t,b,rfl,h0,h1,h⟩:=h;have ga:g (if t < 0 then -t else t) b=g t b:=by have:=Oy t b;rwa[aav (show¬b < 0 by omega)]at this
  refine⟨λm ρ M'=>M'=M/\∃(x y:Int),ρ=[some (.int t),some (.int b),some (.int x),some (.int y)]/\0<=x/\0<=y/\g x y=g t b/\m=y.toNat,⟨_,rfl,_,_,rfl,by split <;> omega,(),ga,rfl⟩,?_⟩;rintro m ρ M' ⟨rfl,x,y,rfl,hx,hy,e,rfl⟩;refine⟨λhb=>?_,λhb=>?_⟩
  ·have NP:y≠0:=by simpa using hb
   refine⟨_,λρ' M2 h2=>h2,?_⟩;refine⟨(),(x % y).toNat,?_,rfl,y,x % y,rfl,hy,aa9 _ NP,?_,rfl⟩
   ·have:=aa5 x (show 0 < y by omega);have:=aa9 x NP;omega
   ·rw[<-abS x hy,J3 ()];exact e
  ·have NP:y=0:=by simpa using hb
   subst NP;rw[I0 hx]at e;subst e;have hg:0 < g t b:=zW ();have hle:g t b<=b:=ace h0 (Int.gcd_dvd_right ..);have hb:fY (g t b):=aaV (show(g t b).natAbs<=b.natAbs by omega) h1;have e:aA t b=(t / g t b,b / g t b):=by rw[M8 h0,acg _ (aaj hg),acg _ (aaj hg)]
   rw[e]at h;exact⟨⟨hg,hb⟩,⟨hg,hb⟩,gV,h⟩
def MJ:DF:=λas M q _=>∃n:Int,as=[.int n]/\∀b,q (.bl b) M
def uK:Ε ["_law_number"] ["_law_number"] (τ jr):=.of rfl
def uz(F:cX K "_law_by_digits" "_law_by_digits" jr f fd)(E:Ev K mg w Cm):av P w K mg base (bY P w) 1 f fd ["_law_number"] (cK K MJ):=by
 refine F.dE uK (λds M q x h=>?_) (λaX A outer s H E' hr=>⟨_,(μ (Ζ (W9 (jv 0) (iW ψ ψ)))),λds M q x h=>?_⟩)
 ·have⟨n,rfl,_⟩:=h;rfl
 ·have⟨n,rfl,h⟩:=h;exact⟨p18,h _⟩
def Bi(ss:List Int):Dt:=.lst (ss.map Dt.int)
structure KC(ss:List Int):Prop where
 len:ss.length=5
 pos:∀s∈ss,0 < s/\s<=2 * 10 ^ 30+1
def Tj{ss:List Int}(h:KC ss){j:Int}:∃s,nJ (ss.map Dt.int) (j % 5)=some (.int s)/\0 < s/\s<=2 * 10 ^ 30+1:=by
 have j0:=aa9 j (show(5:Int)≠0 by decide);have j1:=aa5 j (show(0:Int) < 5 by decide);have hl:(j % 5).toNat < ss.length:=by rw[h.len];omega
 have:=hX hl;rw[show(((j % 5).toNat:Nat):Int)=j % 5 by omega]at this;exact⟨_,this,h.pos _ (aaF hl)⟩
def DB:DF:=λas M q _=>∃(n k:Int) (aP:Nat) (ss:List Int),as=[.int n,.int k,.int (aP:Nat),Bi ss]/\Nm n/\0<=k/\k<=12/\aP<=30/\KC ss/\∀xs:List Int,xs.length=aP->(∀x∈xs,Xs x)->q (.loc M.length) (M++[.lst (xs.map Dt.int)])
def fS:Ε ["_law_number","_law_k","_law_many","_law_sizes","_law_some","_law_rest","_law_j"] ["_law_number","_law_k","_law_many","_law_sizes"] (τ mG):=.of rfl
def xm(F:cX K "_law_things" "_law_things" mG f fd)(E:Ev K mg w Cm)(aT:aB P w K mg base 1 "_law_by_digits" ["_law_number"] MJ e6 eV){Dk:Addr}{B1:FuncData}(kG:aB P w K mg base 1 "_law_stream" ["_law_number","_law_many"] Dq Dk B1):av P w K mg base (bY P w) 2 f fd ["_law_number","_law_k","_law_many","_law_sizes"] (cK K DB):=by
 refine F.dE fS (λds M q x h=>?_) (λaX A outer s H E' hr=>⟨_,(η (aI (hV (bL (ao aT hr ξ (Τ (jv 0) θ)))) (μ (Ζ (ao kG hr ξ (ι (cW (aR (jv 0) ψ) (jv 1)) (Τ (jv 2) θ) cj)))) Υ)
   (η (Γ 4 fS.nd (hG θ))
   (η (Γ 5 fS.nd (j9 (jv 0) ψ))
   (η (hJ (b_ E.bR (Τ (jv 2) θ)) (au (i:=6) fS.nd rfl (Or.inl rfl)) aG (η (dh (dJ (jv 4) (ι (cx (jv 5) (Μ (jv 3) (cx (jv 6) ψ))) θ cj)))
   (μ (Γ 5 fS.nd (j9 (jv 5) (Μ (jv 3) (cx (jv 6) ψ)))))))
   (μ (Ζ (jv 4))))))),λds M q x h=>?_⟩)
 ·have⟨n,k,aP,ss,rfl,_⟩:=h;rfl
 ·have⟨n,k,aP,ss,rfl,hn,k0,k1,WD,so,h⟩:=h;refine⟨n,rfl,λb=>⟨λ_=>?_,λ_=>?_⟩⟩
  ·refine⟨⟨wN hn,bg (k:=10) @_⟩,?_⟩;refine⟨n * 12+k,aP,rfl,?_,(),h⟩;have⟨n0,n1⟩:=hn;refine qH (k:=1100) () ?_ @_;exact Int.lt_of_lt_of_le (show n * 12+k < 10 ^ 300 * 12+13 by omega) @_
  ·refine⟨@_,⟨@_,bg (k:=10) @_⟩,⟨(),()⟩,?_⟩;rw[show((aP:Int)).toNat=aP by omega];refine cN (λzs ρ' M'=>∃(i c:Nat) (xs:List Int) (r:Int) (o:Option Dt),zs=dN (i:Int) c/\i+c=aP/\xs.length=i/\(∀x∈xs,Xs x)/\Nm r/\M'=M++[.lst (xs.map Dt.int)]/\ρ'=[some (.int n),some (.int k),some (.int (aP:Int)),some (Bi ss),some (.loc M.length),some (.int r),o]) (λx zs ρ' M' hj fW=>?_) (λρ' M' hj=>?_) _ _ _ ⟨0,aP,[],_,none,rfl,(),rfl,λ_ z=>(nomatch z),JF hn @_,rfl,rfl⟩
   ·have⟨i,c,xs,r,o,ex,ic,xl,hx,fZ,rfl,rfl⟩:=hj;have⟨c',rfl,rfl,rfl⟩:=cv ex;have⟨sz,es,s0,s1⟩:=Tj so (j:=(i:Int));have rd:∀(M':Ms) (q:DQ),q (.int sz) M'->fm (Bi ss) (.int ((i:Int) % 5)) M' q:=λM' q hq=>Ι (d:=Bi ss) rfl es hq;walk_at "vc";refine⟨⟨_,_,rfl,ax⟩,?_⟩;refine⟨@_,rd _ _ ⟨s0,?_⟩⟩;refine⟨M.length,_,_,rfl,rfl,ax,?_,?_⟩
    ·rw[aac,xl];exact aaV (show i<=60 by omega) @_
    rw[cY];refine⟨@_,rd _ _ ⟨⟨s0,qH (k:=110) (aaj s0) (aaL s1 @_) @_⟩,?_⟩⟩;refine fW _ _ ⟨i+1,c',xs++[r % sz],_,_,by rw[Int.natCast_add];rfl,(),by simp[xl],λy hy=>?_,JF fZ s0,by simp,rfl⟩;rcases aa0.mp hy with z| z
    ·exact hx y z
    ·rw[aa8.mp z];exact⟨aa9 _ (),acu (aa5 _ s0) (aaL s1 @_)⟩
   ·have⟨i,c,xs,r,o,ex,ic,xl,hx,fZ,rfl,rfl⟩:=hj;have c0:c=0:=by have:=aaX List.length ex;rw[dU]at this;exact this.symm
    exact h xs () hx
def A7:DF:=λas M q _=>∃n low:Int,as=[.int n,.int low]/\Nm n/\1<=low/\low<=1000/\∀p,aW p=true->q (Ξ p) M
def jw:Ε ["_law_number","_law_low","_law_bottom","_law_top"] ["_law_number","_law_low"] (τ k8):=.of rfl
def vg(F:cX K "_law_share_of" "_law_share_of" k8 f fd)(E:Ev K mg w Cm)(aT:aB P w K mg base 1 "_law_by_digits" ["_law_number"] MJ e6 eV)(aQ:aB P w K mg base 1 "_law_lowest" ["_law_top","_law_bottom"] JP d8 eC):av P w K mg base (bY P w) 2 f fd ["_law_number","_law_low"] (cK K A7):=by
 refine F.dE jw (λds M q x h=>?_) (λaX A outer s H E' hr=>⟨_,(η (Γ 2 jw.nd (cW ψ (cx (jv 0) (jv 1))))
   (η (k4 (Γ 3 jw.nd (Ag (bL (ao aT hr ξ (Τ (jv 0) θ))) (j9 (jv 0) (jv 1)) (cx (aR (jv 0) ψ) ψ))))
   (μ (Ζ (ao aQ hr ξ (ι (cx (jv 3) (jv 2)) (Τ (jv 2) θ) cj)))))),λds M q x h=>?_⟩)
 ·have⟨n,low,rfl,_⟩:=h;rfl
 ·have⟨n,low,rfl,hn,l1,l2,h⟩:=h;have b0:=aa9 n (show low≠0 by omega);have b1:=aa5 n (show 0 < low by omega);refine⟨(),?_⟩;dsimp only[yX];generalize n % low=r at *
  have fin:∀t:Int,aW (aA (t % (1+r)) (1+r))=true:=λt=>Cw (aa9 _ ()) (aa5 _ ()) ();refine⟨λρ M'=>M'=M/\∃t:Int,ρ=[some (.int n),some (.int low),some (.int (1+r)),some (.int t)],?_,?_⟩
  ·refine⟨n,rfl,λb=>⟨λ_=>?_,λ_=>?_⟩⟩
   ·exact⟨⟨(),bg (k:=12) ()⟩,rfl,_,rfl⟩
   ·exact⟨⟨wN hn,bg (k:=20) @_⟩,@_,rfl,_,rfl⟩
  ·rintro ρ M' ⟨rfl,t,rfl⟩;exact⟨(),_,_,rfl,(),bg (k:=12) (),h _ (fin t)⟩
structure vR(kd:Str)(size:Int)(cs:List Fr)(ds:List cG):Prop where
 fit:∀d∈ds,aJ d.1 d.2.1 size=true/\0 < d.2.1.2
 Vs:kd="chance"->(∀d∈ds,d.2.2=[ω d])/\ds.map ω=cs.take ds.length
 Zr:kd≠"chance"->∀d∈ds,d.2.2=[]
def vR.more{kd:Str}{size:Int}{cs:List Fr}{d:cG}(h:vR kd size cs ds)(h1:aJ d.1 d.2.1 size=true)(h2:0 < d.2.1.2)(hl:ds.length < cs.length)(h3:kd="chance"->d.2.2=[cs[ds.length]])(h4:kd≠"chance"->d.2.2=[]):vR kd size cs (ds++[d]):=by
 refine⟨λe he=>?_,λhc=>⟨λe he=>?_,?_⟩,λhc e he=>?_⟩
 ·rcases aa0.mp he with he| he
  ·exact h.fit e he
  ·have:e=d:=by simpa using he
   subst this;exact⟨h1,h2⟩
 ·rcases aa0.mp he with he| he
  ·exact(h.Vs hc).1 e he
  ·have:e=d:=by simpa using he
   subst this;unfold ω;rw[h3 hc];rfl
 ·rw[aaW,(h.Vs hc).2,aag];show cs.take ds.length++[ω d]=cs.take (ds.length+1);rw[List.take_succ,aaa hl];unfold ω;rw[h3 hc];rfl
 ·rcases aa0.mp he with he| he
  ·exact h.Zr hc e he
  ·have:e=d:=by simpa using he
   subst this;exact h4 hc
def vR.good{kd:Str}{size:Int}{cs:List Fr}(h:vR kd size cs ds)(hk:Β kd=true\/kd="chance")(h1:1<=ds.length)(h6:ds.length<=6)(hl:ds.length=cs.length)(hc:ar cs=true)(ho:P_ cs):qU size (.υ kd ds):=by
 by_cases Bh:kd="chance"
 ·subst Bh;have e:ds.map ω=cs:=by rw[(h.Vs rfl).2,hl,List.take_length]
  exact Gm h1 h6 (λd hd=>(h.fit d hd).1) (h.Vs rfl).1 (by rw[e];exact hc) (by rw[e];exact ho) λd hd=>(h.fit d hd).2
 ·exact LA (hk.resolve_right Bh) h1 h6 (λd hd=>(h.fit d hd).1) λd hd=>⟨h.Zr Bh d hd,(h.fit d hd).2⟩
def RwG(size:Int)(r:Rw):Prop:=qU size r/\∀k ds,r= .υ k ds->Β k=true->∀d∈ds,d.2.2=[]
def MF{k:Str}(h:Β k=true):k≠"chance":=λz=>by subst z;exact aaJ h @_
structure wY(cJ:Bool)(p:Fr):Prop where
 red:Red p
 fit:bz p=true
 near:cJ=false->p.2∣12/\eG p 9
def Ml{t:Int}(h1: -(10 ^ 30)<=t)(h2:t<=10 ^ 30)(h0:0 < b)(h3:b<=1000000):wY true (aA t b):=⟨cP (),DL h1 h2 h0 h3,λz=>(nomatch z)⟩
def J2{x y:Int}:wY false (aA (x % 19 - 9) (1+y % 4)):=by
 have b0:0 < 1+y % 4:=()
 refine⟨cP (),DL () () b0 (),λ_=>⟨?_,nM b0 () ()⟩⟩;refine Int.dvd_trans (Az b0) ?_;have:y % 4=0\/y % 4=1\/y % 4=2\/y % 4=3:=()
 rcases this with e| e| e| e <;> rw[e] <;> decide
def Xs.big{x:Int}(h:Xs x):fY x:=qH h.1 h.2 @_
def Kt{a:Int}{k:Nat}(a0:0<=a)(a1:a < 2 ^ j)(b0:0<=b)(b1:b < 2 ^ k):0<=a * b/\a * b < 2 ^ (j+k):=by refine⟨abi a0 b0,?_⟩;rw[Int.pow_add];exact aaL (aaN (aaj a1) b0) (Int.mul_lt_mul_of_pos_left b1 (Int.pow_pos @_))
def JY:DF:=λas M q _=>∃(xs:List Int) (cJ:Bool),as=[.lst (xs.map Dt.int),.bl cJ]/\3<=xs.length/\(∀x∈xs,Xs x)/\∀p,wY cJ p->q (Ξ p) M
def zH:Ε ["_law_xs","_law_far","_law_top"] ["_law_xs","_law_far"] (τ yo):=.of rfl
def Fi(F:cX K "_law_pay" "_law_pay" yo f fd)(E:Ev K mg w Cm)(aQ:aB P w K mg base 1 "_law_lowest" ["_law_top","_law_bottom"] JP d8 eC):av P w K mg base (bY P w) 2 f fd ["_law_xs","_law_far"] (cK K JY):=by
 refine F.dE zH (λds M q x h=>?_) (λaX A outer s H E' hr=>⟨_,(η (aI (bL (jv 1)) (η (k4 (Γ 2 zH.nd (Ag (EJ (Μ (jv 0) ψ) ψ) (aR (aR (aR (Μ (jv 0) ψ) (Μ (jv 0) ψ)) (Μ (jv 0) ψ)) (Μ (jv 0) ψ)) (Μ (jv 0) ψ))))
   (μ (Ζ (ao aQ hr ξ (ι (Ae (cx (jv 2) (cW (aR ψ (iW ψ ψ)) ψ)) (iW ψ ψ)) (ι (cW ψ (cx (Μ (jv 0) ψ) (iW ψ ψ))) θ cj) cj))))) Υ)
   (μ (Ζ (ao aQ hr ξ (ι (Ae (cx (Μ (jv 0) ψ) ψ) ψ) (ι (cW ψ (cx (Μ (jv 0) ψ) ψ)) θ cj) cj))))),λds M q x h=>?_⟩)
 ·have⟨xs,cJ,rfl,_⟩:=h;rfl
 ·have⟨xs,cJ,rfl,l3,hx,h⟩:=h;have rd:∀(j:Nat) (hj:j < 3) (M':Ms) (q:DQ),q (.int (xs[j]'())) M'->fm (.lst (xs.map Dt.int)) (.int (j:Int)) M' q:=λj hj M' q hq=>Ι (d:=.lst (xs.map Dt.int)) rfl (hX ()) hq;have x0:=hx _ (aaF (show 0 < xs.length by omega));have x1:=hx _ (aaF (show 1 < xs.length by omega));have x2:=hx _ (aaF (show 2 < xs.length by omega));walk_at "vc";refine⟨λz=>?_,λz=>?_⟩
  ·subst z;refine⟨λρ M'=>M'=M/\∃t:Int,ρ=[some (.lst (xs.map Dt.int)),some (.bl true),some (.int t)],?_,?_⟩
   ·walk_at "vc";refine rd 2 @_ _ _ ⟨λ_=>?_,λ_=>?_⟩
    ·have⟨p0,p1⟩:=Kt x0.1 x0.2 x1.1 x1.2;have⟨q0,q1⟩:=Kt p0 p1 x2.1 x2.2;refine rd 0 @_ _ _ ?_;refine rd 1 @_ _ _ ?_;refine⟨⟨x0.big,x1.big⟩,?_⟩;walk_at "vc";refine rd 2 @_ _ _ ?_;refine⟨⟨qH p0 p1 @_,x2.big⟩,?_⟩;walk_at "vc";refine rd 0 @_ _ _ ?_;exact⟨⟨qH q0 q1 @_,x0.big⟩,rfl,_,rfl⟩
    ·refine rd 0 @_ _ _ ?_;exact⟨rfl,_,rfl⟩
   ·rintro ρ M' ⟨rfl,t,rfl⟩;have X5:fY ((10:Int) ^ (30:Int).toNat):=bg (k:=110) @_;have m0:(0:Int) < 2 * 10 ^ (30:Int).toNat+1:=@_
    have hm0:=aa9 t (show(2 * 10 ^ (30:Int).toNat+1:Int)≠0 by decide);have hm1:=aa5 t m0;have UU:0 < 1+xs[1] % 10 ^ (6:Int).toNat/\1+xs[1] % 10 ^ (6:Int).toNat<=1000000:=by show 0 < 1+xs[1] % 1000000/\1+xs[1] % 1000000<=1000000;omega
    have hb7:fY (1+xs[1] % 10 ^ (6:Int).toNat):=qH (k:=20) (aaj UU.1) (aaL UU.2 @_) @_;walk_at "vc";refine⟨X9,⟨bg (k:=4) @_,X5⟩,m0,X9,?_⟩;dsimp only[Bx];refine rd 1 @_ _ _ ?_;refine⟨p6,(by show(0:Int) < 1000000;decide),_,_,rfl,UU.1,hb7,h _ (Ml ?_ ?_ UU.1 UU.2)⟩
    ·show -(10 ^ 30)<=t % (2 * 10 ^ (30:Int).toNat+1) - 10 ^ 30;omega
    ·have e:(10:Int) ^ (30:Int).toNat=10 ^ 30:=rfl;rw[e]at hm1;show t % (2 * 10 ^ 30+1) - 10 ^ 30<=10 ^ 30;omega
  ·subst z;refine rd 0 @_ _ _ ?_;refine⟨@_,?_⟩;dsimp only[Bx];refine(rd 1 @_ _ _ ?_:fm (.lst (xs.map Dt.int)) (.int 1) _ _);exact⟨@_,_,_,rfl,(),bg (k:=10) (),h _ J2⟩
def Tt(cJ:Bool)(size:Int)(r:Rw):Prop:=RwG size r/\(∀p,r= .fin p->wY cJ p)/\∀k ds,r= .υ k ds->∀d∈ds,wY cJ d.2.1
def NY(c:Nat):sliceRange ((4:Nat):Int) ((5 * c:Nat):Int) ((5:Nat):Int)=(List.range c).map λk=>5 * k+4:=by
 unfold sliceRange;have hc:(if ((4:Nat):Int) < ((5 * c:Nat):Int) then (((5 * c:Nat):Int) - ((4:Nat):Int)+((5:Nat):Int) - 1) / ((5:Nat):Int) else 0)=c:=by split <;> omega
 simp only[show((5:Nat):Int) > 0 by decide,if_true,hc,Int.toNat_natCast];apply abg;intro k _;omega
def Vn{c:Nat}{ds:List Dt}{xs:List Int}(e:ds=xs.map Dt.int)(h:xs.length=5 * c):iV (sliceRange ((4:Nat):Int) (ds.length:Int) ((5:Nat):Int)) ds=((List.range c).map λk=>xs.getD (5 * k+4) 0).map Dt.int:=by
 subst e;rw[aac,h,NY];unfold iV;rw[List.filterMap_map,aaK];have:∀l:List Nat,(∀k∈l,k < c)->l.filterMap ((λi=>(xs.map Dt.int)[i]?) ∘ λk=>5 * k+4)=l.map (Dt.int ∘ λk=>xs.getD (5 * k+4) 0):=λl=>by
  induction l with
  | nil=>intro _;rfl
  | cons k l ih=>
   intro hk;have kc:=hk k aae;have e:((λi=>(xs.map Dt.int)[i]?) ∘ λk=>5 * k+4) k=some (Dt.int (xs.getD (5 * k+4) 0)):=by show(xs.map Dt.int)[5 * k+4]? =_;rw[aal,aab,aaa ()];rfl
   rw[acn,e,aaM,<-ih λz hz=>hk z (aad _ hz)];rfl
 exact this _ λk hk=>aa4.mp hk
def Ds:DF:=λas M q _=>∃(kd:Str) (xs:List Int) (aP:Int) (cJ:Bool) (c:Nat),as=[.str kd,.lst (xs.map Dt.int),.int aP,.bl cJ]/\xs.length=5 * c/\1<=c/\c<=6/\(∀x∈xs,Xs x)/\1<=aP/\aP<=12/\(Β kd=true\/kd="chance")/\∀ds,ds.length=c->Tt cJ aP (.υ kd ds)->q (.loc M.length) (M++[.lst (ds.map fe)])
def eB:Ε ["_law_kind","_law_xs","_law_many","_law_far","_law_doors_here","_law_parts","_law_k","_law_door"] ["_law_kind","_law_xs","_law_many","_law_far"] (τ pJ):=.of rfl
def A4(F:cX K "_law_doors" "_law_doors" pJ f fd)(E:Ev K mg w Cm){xk:Addr}{yD:FuncData}(i6:aB P w K mg base 2 "_law_pay" ["_law_xs","_law_far"] JY xk yD)(aQ:aB P w K mg base 1 "_law_lowest" ["_law_top","_law_bottom"] JP d8 eC):av P w K mg base (bY P w) 4 f fd ["_law_kind","_law_xs","_law_many","_law_far"] (cK K Ds):=by
 refine F.dE eB (λds M q x h=>?_) (λaX A outer s H E' hr=>⟨_,(η (Γ 4 eB.nd (hG θ))
   (η (fX (i:=5) eB.nd rfl (Or.inl rfl) (ys:=["_law_far"]) (Ω:=[3]) (.of eB rfl rfl rfl) (aV (bK (P6 (a:=4) (b:=5) (jv 1) ψ ψ))) (λC s H fp=>(cW ψ (cx (jv 0) (Μ (fM 3 (d:=.lst [.int 4,.int 150000]) (by rfl)) (Od E.vH (Τ (jv 1) θ)))))))
   (η (hJ (b_ E.bR (ι (cQ E.bJ (Τ (jv 5) θ)) θ aS)) (au (i:=6) eB.nd rfl (Or.inl rfl)) aG (η (Γ 7 eB.nd (fR (ι (cx (Μ (jv 1) (cW (aR ψ (jv 6)) ψ)) (jv 2)) (ι (ao i6 hr ξ (ι (bK (vE (jv 1) (aR ψ (jv 6)) (cW (aR ψ (jv 6)) ψ))) (Τ (jv 3) θ) aU)) θ aS) cj)))
   (η (k4 (aI (eZ hr (jv 0) jV) (μ (Γ 7 eB.nd (cW (jv 7) (fR (ι (ao aQ hr ξ (ι (Μ (jv 5) (jv 6)) (ι (Ot E.zO (Τ (jv 5) θ)) θ aS) aU)) θ aS))))) Υ))
   (μ (dh (dJ (jv 4) (Τ (jv 7) θ)))))))
   (μ (Ζ (jv 4)))))),λds M q x h=>?_⟩)
 ·have⟨kd,xs,aP,cJ,c,rfl,_⟩:=h;rfl
 ·have⟨kd,xs,aP,cJ,c,rfl,xl,c1,c6,hx,s1,s12,Qw,h⟩:=h;have sl:∀{z:Nat},z<=1000->z<=sizeLine:=λh=>aas h @_;refine⟨@_,?_⟩;generalize hM0:M++[MO.lst []]=M0;dsimp only[kR,eF,RD,Ol];walk_at "vc";refine⟨rfl,_,rfl,rfl,by rw[aac];omega,?_,?_⟩
  ·rw[aac,xl,NY,aac,aaP];omega
  rw[Vn rfl xl];refine cf (h8 _) ?_;obtain⟨most,em,m0,m1⟩:∃most:Int,(∀(M':Ms) (q:DQ),q (.int most) M'->fm (.lst [.int 4,.int 150000]) (.int (if cJ=true then 1 else 0)) M' q)/\0 < most/\most<=150000:=by
   cases cJ with
   | true=>exact⟨150000,λM' q hq=>Ι (d:=.lst [.int 4,.int 150000]) rfl (Ο (j:=1) rfl) hq,@_,@_⟩
   | false=>exact⟨4,λM' q hq=>Ι (d:=.lst [.int 4,.int 150000]) rfl bu hq,@_,@_⟩
  refine⟨by rw[aac,aac,aaP];exact sl (),?_⟩;refine d9 (F:=λx n=>x=Dt.int n) (f:=λn=>.int (1+n % most)) (as:=(List.range c).map λk=>xs.getD (5 * k+4) 0) trivial (λx n Tz qq hq=>?_) ?_ ?_
  ·subst Tz;walk_at "vc";show zB [.bl cJ] M0 λd2 M2=>fm (.lst [.int 4,.int 150000]) d2 M2 λd2 M2=>MQ (.int n) d2 M2 λd2 M2=>yX (.int 1) d2 M2 qq;dsimp only[zB];refine em _ _ ?_;exact⟨m0,hq⟩
  ·have:∀l:List Int,Paired (λx n=>x=Dt.int n) (l.map Dt.int) l:=λl=>by
    induction l with
    | nil=>exact .nil
    | cons a l ih=>exact .cons rfl ih
   exact this _
  rw[aaQ,aaK];generalize Um:((List.range c).map λk=>1+xs.getD (5 * k+4) 0 % most)=ws;have ew:(List.range c).map ((λn=>Dt.int (1+n % most)) ∘ λk=>xs.getD (5 * k+4) 0)=ws.map Dt.int:=by rw[<-Um,aaK];rfl
  rw[ew];have wl:ws.length=c:=by rw[<-Um,aac,aaP]
  have w0:∀w∈ws,0 < w/\w<=most:=λw hw=>by rw[<-Um]at hw;have⟨y,_,rfl⟩:=aah.mp hw;have e0:=aa9 (xs.getD (5 * y+4) 0) (show most≠0 by omega);have e1:=aa5 (xs.getD (5 * y+4) 0) m0;omega
  have hS:ws.sum<=1000000:=by have:=JZ λw Xz=>(w0 w Xz).2;rw[wl]at this;have:(c:Int) * most<=6 * 150000:=abG () m1 () @_;omega
  have lL:ws≠[]:=λz=>by rw[z]at wl;simp at wl;omega
  have Wy:=EI (λw hw=>(w0 w hw).1) lL;have⟨cc1,cc2⟩:=CO (S:=ws.sum) rfl (λw Xz=>(w0 w Xz).1) lL hS ();have cl:(ws.map λw=>aA w ws.sum).length=c:=by rw[aac,wl]
  have bS:fY ws.sum:=bg (k:=21) ();clear Um;refine(az (d:=.lst (ws.map .int)) (xs:=ws.map .int) rfl ?_:gw [.lst (ws.map .int)] _ _);rw[aac,wl];refine⟨⟨(),()⟩,?_⟩;rw[show((c:Int)).toNat=c by omega];subst hM0;refine cN (λzs ρ M'=>∃(n k:Nat) (ds:List cG) (o1 o2:Option Dt),zs=dN k n/\k+n=c/\ds.length=k/\vR kd aP (ws.map λw=>aA w ws.sum) ds/\(∀d∈ds,wY cJ d.2.1)/\M'=M++[MO.lst (ds.map fe)]/\ρ=[some (.str kd),some (.lst (xs.map Dt.int)),some (.int aP),some (.bl cJ),some (.loc M.length),some (.lst (ws.map .int)),o1,o2]) (λx zs ρ M' hj fW=>?_) (λρ M' hj=>?_) _ _ _ ⟨c,0,[],none,none,by simp,by simp,rfl,⟨λ_ z=>(nomatch z),λ_=>⟨λ_ z=>(nomatch z),rfl⟩,λ_ _ z=>(nomatch z)⟩,λ_ z=>(nomatch z),rfl,rfl⟩
  ·have⟨n,k,ds,o1,o2,ex,Y4,hl,hd,hp,rfl,rfl⟩:=hj;have⟨m,rfl,rfl,rfl⟩:=cv ex;have k6:(k:Int) < 6:=()
   have kx:5 * k+3 < xs.length:=()
   have kw:k < ws.length:=()
   have RK:(M++[MO.lst (ds.map fe)])[M.length]? =some (.lst (ds.map fe)):=by simp
   have setM:∀y:cG,(M++[MO.lst (ds.map fe)]).set M.length (.lst (ds.map fe++[fe y]))=M++[.lst ((ds++[y]).map fe)]:=λy=>by simp
   have lt:(ds.map fe).length < sizeLine:=by rw[aac,hl];exact aaV (show k<=12 by omega) @_
   have e5:5 * (k:Int)+3=((5 * k+3:Nat):Int):=()
   have e50:5 * (k:Int)=((5 * k:Nat):Int):=()
   have b5:fY (5:Int):=bg (k:=10) @_;have bk:fY (k:Int):=bg (k:=10) ();walk_at "vc";refine⟨⟨b5,bk⟩,?_⟩;dsimp only[yX];rw[e5];refine(Ι (d:=.lst (xs.map .int)) rfl (hX kx) ?_:fm (.lst (xs.map .int)) (.int ((5 * k+3:Nat):Int)) _ _);refine⟨(),⟨b5,bk⟩,5 * k,by rw[e50],⟨b5,bk⟩,xs.map Dt.int,5 * k+3,rfl,by rw[<-e5],?_⟩;rw[<-acD,<-acC];refine cf (h8 _) ?_;refine⟨(xs.drop (5 * k)).take (5 * k+3 - 5 * k),cJ,rfl,by rw[ab6,abL];omega,λy hy=>hx y (List.mem_of_mem_drop (List.mem_of_mem_take hy)),λp pp=>⟨gV,?_⟩⟩;have hp0:=pp.red.pos;have L9:aJ (xs[5 * k+3] % aP) p aP=true:=Np (aa9 _ ()) (aa5 _ ()) pp.fit;refine⟨λρ M2=>M2=M++[MO.lst (ds.map fe)]/\∃d:cG,(aJ d.1 d.2.1 aP=true/\0 < d.2.1.2/\(kd="chance"->d.2.2=[aA ws[k] ws.sum])/\(kd≠"chance"->d.2.2=[])/\wY cJ d.2.1)/\ρ=[some (.str kd),some (.lst (xs.map Dt.int)),some (.int aP),some (.bl cJ),some (.loc M.length),some (.lst (ws.map .int)),some (.int (k:Int)),some (fe d)],⟨λhc=>?_,λhc=>?_⟩,?_⟩
   ·have hc:kd="chance":=aaA hc;walk_at "vc";refine(Ι (d:=.lst (ws.map .int)) rfl (hX kw) ?_:fm (.lst (ws.map .int)) (.int (k:Int)) _ _);exact⟨ws,rfl,⟨_,_,rfl⟩,_,_,rfl,Wy,bS,(by show 1<=sizeLine;decide),⟨by simp,by show 3<=sizeLine;decide⟩,rfl,(xs[5 * k+3] % aP,p,[aA ws[k] ws.sum]),⟨L9,hp0,λ_=>rfl,λz=>absurd hc z,pp⟩,rfl⟩
   ·have hc:kd≠"chance":=abd hc;exact⟨rfl,(xs[5 * k+3] % aP,p,[]),⟨L9,hp0,λz=>aaJ z hc,λ_=>rfl,pp⟩,rfl⟩
   ·rintro ρ2 M2 ⟨rfl,d,⟨d1,d2,d3,d4,d5⟩,rfl⟩;refine⟨⟨M.length,_,rfl,RK⟩,M.length,_,_,rfl,rfl,RK,lt,?_⟩;rw[setM d];refine fW _ _ ⟨m,k+1,ds++[d],_,_,by simp,(),by simp[hl],hd.more d1 d2 (by rw[cl];omega) (λz=>?_) d4,λy hy=>?_,rfl,rfl⟩
    ·rw[d3 z];simp[hl]
    ·rcases aa0.mp hy with z| z
     ·exact hp y z
     ·rw[aa8.mp z];exact d5
  ·have⟨n,k,ds,o1,o2,ex,Y4,hl,hd,hp,rfl,rfl⟩:=hj;have hn:n=0:=by have:=aaX List.length ex;unfold dN at this;simpa using this.symm
   refine h ds () ⟨⟨hd.good Qw () () (by rw[cl];omega) cc1 cc2,λk' uD e hk d MV=>by cases e;exact hd.Zr (MF hk) d MV⟩,λp e=>(nomatch e),λk' uD e d MV=>by cases e;exact hp d MV⟩
def RA{n:Int}:∃kd:Str,nJ [Dt.str "one",Dt.str "other",Dt.str "chance",Dt.str "end",Dt.str "one",Dt.str "other",Dt.str "chance",Dt.str "chance"] (n % 8)=some (.str kd)/\(Β kd=true\/kd="chance"\/kd="end"):=by
 have:n % 8=0\/n % 8=1\/n % 8=2\/n % 8=3\/n % 8=4\/n % 8=5\/n % 8=6\/n % 8=7:=()
 rcases this with e| e| e| e| e| e| e| e <;> rw[e]
 ·exact⟨_,bu,.inl @_⟩
 ·exact⟨_,Ο (j:=1) rfl,.inl @_⟩
 ·exact⟨_,Ο (j:=2) rfl,.inr (.inl rfl)⟩
 ·exact⟨_,Ο (j:=3) rfl,.inr (.inr rfl)⟩
 ·exact⟨_,Ο (j:=4) rfl,.inl @_⟩
 ·exact⟨_,Ο (j:=5) rfl,.inl @_⟩
 ·exact⟨_,Ο (j:=6) rfl,.inr (.inl rfl)⟩
 ·exact⟨_,Ο (j:=7) rfl,.inr (.inl rfl)⟩
def UY{n:Int}:∃m:Int,nJ [Dt.int 4,Dt.int 4,Dt.int 4,Dt.int 4,Dt.int 4,Dt.int 4,Dt.int 6,Dt.int 3] (n % 8)=some (.int m)/\1<=m/\m<=12/\(n % 8=5->m=4):=by
 have:n % 8=0\/n % 8=1\/n % 8=2\/n % 8=3\/n % 8=4\/n % 8=5\/n % 8=6\/n % 8=7:=()
 rcases this with e| e| e| e| e| e| e| e <;> rw[e]
 ·exact⟨_,bu,@_,@_,@_⟩
 ·exact⟨_,Ο (j:=1) rfl,@_,@_,@_⟩
 ·exact⟨_,Ο (j:=2) rfl,@_,@_,@_⟩
 ·exact⟨_,Ο (j:=3) rfl,@_,@_,@_⟩
 ·exact⟨_,Ο (j:=4) rfl,@_,@_,@_⟩
 ·exact⟨_,Ο (j:=5) rfl,@_,@_,@_⟩
 ·exact⟨_,Ο (j:=6) rfl,@_,@_,@_⟩
 ·exact⟨_,Ο (j:=7) rfl,@_,@_,@_⟩
def ZF{n:Int}:∃m:Int,nJ [Dt.int 10,Dt.int 10,Dt.int 10,Dt.int 10,Dt.int 1,Dt.int 1000,Dt.int 10,Dt.int 10] (n % 8)=some (.int m)/\1<=m/\m<=1000:=by
 have:n % 8=0\/n % 8=1\/n % 8=2\/n % 8=3\/n % 8=4\/n % 8=5\/n % 8=6\/n % 8=7:=()
 rcases this with e| e| e| e| e| e| e| e <;> rw[e]
 ·exact⟨_,bu,@_,@_⟩
 ·exact⟨_,Ο (j:=1) rfl,@_,@_⟩
 ·exact⟨_,Ο (j:=2) rfl,@_,@_⟩
 ·exact⟨_,Ο (j:=3) rfl,@_,@_⟩
 ·exact⟨_,Ο (j:=4) rfl,@_,@_⟩
 ·exact⟨_,Ο (j:=5) rfl,@_,@_⟩
 ·exact⟨_,Ο (j:=6) rfl,@_,@_⟩
 ·exact⟨_,Ο (j:=7) rfl,@_,@_⟩
def cH(k:Str)(n:Nat):Nat:=if Β k=true then n else 1
def h9:List Rw->Nat
 | []=>1
 | r::rs=>cH (kindOf r) (Κ r).length * h9 rs
def pN:∀(rs:List Rw) (r:Rw),h9 (rs++[r])=h9 rs * cH (kindOf r) (Κ r).length
 | [],r=>by show cH _ _ * 1=1 * _;omega
 | a::rs,r=>by show cH _ _ * h9 (rs++[r])=cH _ _ * h9 rs * _;rw[pN rs r,Nat.mul_assoc]
def L6{a c r rm:Int}(ha:0<=a)(h:c * r<=rm)(l:a * rm<=30):a * c * r<=30:=by rw[acA];exact abC (aaq h ha) l
structure LF(ε:Fr)(γ:List Rw)(cJ:Bool):Prop where
 sh:aW ε=true
 n1:1<=γ.length
 Bj:γ.length<=12
 n4:cJ=true->γ.length<=4
 row:∀r∈γ,Tt cJ γ.length r
 pr:h9 γ<=30
def Br(cJ:Bool)(aP:Int):List Int:=if cJ=true then [2 * 10 ^ (30:Int).toNat+1,10 ^ (6:Int).toNat,1,aP,150000] else [19,4,1,aP,4]
def Vd{aP:Int}(h1:1<=aP)(h2:aP<=12):KC (Br cJ aP):=by
 have WD:aP<=2 * 10 ^ 30+1:=abC h2 @_;cases cJ with
 | true=>
  refine⟨rfl,λs hs=>?_⟩;have hs:s∈[2 * 10 ^ (30:Int).toNat+1,10 ^ (6:Int).toNat,1,aP,150000]:=hs;simp only[List.mem_cons,List.not_mem_nil,or_false]at hs;rcases hs with e| e| e| e| e
  ·rw[e];decide
  ·rw[e];decide
  ·rw[e];decide
  ·rw[e];exact⟨(),WD⟩
  ·rw[e];decide
 | false=>
  refine⟨rfl,λs hs=>?_⟩;have hs:s∈[19,4,1,aP,4]:=hs;simp only[List.mem_cons,List.not_mem_nil,or_false]at hs;rcases hs with e| e| e| e| e
  ·rw[e];decide
  ·rw[e];decide
  ·rw[e];decide
  ·rw[e];exact⟨(),WD⟩
  ·rw[e];decide
def DY:DF:=λas M q _=>∃ns:List Int,as=[.jR ns]/\ns.length<=63/\∀ε γ cJ,LF ε γ cJ->q (.tup [Ξ ε,.loc M.length]) (M++[.lst (γ.map bo)])
def aH:Ε ["_law_script","_law_begun","_law_how","_law_places","_law_many","_law_share","_law_sizes","_law_rows","_law_room","_law_k","_law_number","_law_kind","_law_count","_law_xs"] ["_law_script"] (τ pH):=.of rfl
def AX(F:cX K "_law_floor" "_law_floor" pH f fd)(E:Ev K mg w Cm){P5:Addr}{Qd:FuncData}(nQ:aB P w K mg base 1 "_law_at" ["_law_script","_law_k"] Z1 P5 Qd)(aT:aB P w K mg base 1 "_law_by_digits" ["_law_number"] MJ e6 eV){yU:Addr}{y3:FuncData}(jx:aB P w K mg base 2 "_law_share_of" ["_law_number","_law_low"] A7 yU y3){xk:Addr}{yD:FuncData}(i6:aB P w K mg base 2 "_law_pay" ["_law_xs","_law_far"] JY xk yD){B_:Addr}{Cy:FuncData}(ie:aB P w K mg base 2 "_law_things" ["_law_number","_law_k","_law_many","_law_sizes"] DB B_ Cy){Gr:Addr}{FI:FuncData}(mW:aB P w K mg base 4 "_law_doors" ["_law_kind","_law_xs","_law_many","_law_far"] Ds Gr FI):av P w K mg base (bY P w) 5 f fd ["_law_script"] (cK K DY):=by
 refine F.dE aH (λds M q x h=>?_) (λaX A outer s H E' hr=>⟨_,(η (Γ 1 aH.nd (ao nQ hr ξ (Τ (jv 0) (ι ψ θ eE))))
   (η (Γ 2 aH.nd (cx (jv 1) ψ))
   (η (k4 (Γ 3 aH.nd (Ag (bL (ao aT hr ξ (Τ (jv 1) θ))) (j9 (jv 1) ψ) (cx (aR (jv 1) ψ) ψ))))
   (η (Γ 4 aH.nd (cW ψ (cx (jv 3) (Μ (fM 3 (d:=.lst [.int 4,.int 4,.int 4,.int 4,.int 4,.int 4,.int 6,.int 3]) (by rfl)) (jv 2)))))
   (η (Γ 5 aH.nd (ao jx hr ξ (ι (ao nQ hr ξ (Τ (jv 0) (ι ψ θ eE))) (ι (Μ (fM 3 (d:=.lst [.int 10,.int 10,.int 10,.int 10,.int 1,.int 1000,.int 10,.int 10]) (by rfl)) (jv 2)) θ aU) aS)))
   (η (Γ 6 aH.nd (Μ (ma (ι (ma (ι ψ (ι ψ (ι ψ (Τ (jv 4) (ι ψ θ eE)) eE) eE) eE)) (ι (ma (ι (cW (aR ψ (iW ψ ψ)) ψ) (ι (iW ψ ψ) (ι ψ (Τ (jv 4) (ι ψ θ eE)) eE) cj) cj)) θ))) (Od E.vH (ι (Mo hr (jv 2) ψ) θ Ey))))
   (η (Γ 7 aH.nd (hG θ))
   (η (Γ 8 aH.nd ψ)
   (η (hJ (b_ E.bR (Τ (jv 4) θ)) (au (i:=9) aH.nd rfl (Or.inl rfl)) aG (η (Γ 10 aH.nd (ao nQ hr ξ (Τ (jv 0) (ι (cW ψ (jv 9)) θ cj))))
   (η (Γ 11 aH.nd (Μ (fM 3 (d:=.lst [.str "one",.str "other",.str "chance",.str "end",.str "one",.str "other",.str "chance",.str "chance"]) (by rfl)) (cx (jv 10) ψ)))
   (η (k4 (Γ 12 aH.nd (cW ψ (cx (Ag (bL (ao aT hr ξ (Τ (jv 10) θ))) (j9 (jv 10) ψ) (cx (aR (jv 10) ψ) ψ)) ψ))))
   (η (k4 (aI (JW.jt (l9 (eZ hr (jv 11) jV) (j8 (eZ hr (jv 11) jV)))) (η (Γ 12 aH.nd (Ts E.Ed (Τ (jv 12) (Τ (jv 8) θ))))
   (μ (Γ 8 aH.nd (j9 (jv 8) (jv 12))))) Υ))
   (μ (aI (eZ hr (jv 11) jV) (μ (dh (dJ (jv 7) (ι (fR (Τ (jv 11) (ι (ao i6 hr ξ (ι (bK (ao ie hr ξ (Τ (jv 10) (Τ (jv 9) (ι ψ (Τ (jv 6) θ) eE))))) (ι (Mo hr (jv 2) ψ) θ Ey) aS)) θ aS))) θ Ea)))) (η (Γ 13 aH.nd (bK (ao ie hr ξ (Τ (jv 10) (Τ (jv 9) (ι (aR ψ (jv 12)) (Τ (jv 6) θ) cj))))))
   (μ (dh (dJ (jv 7) (ι (fR (Τ (jv 11) (ι (bK (ao mW hr ξ (Τ (jv 11) (Τ (jv 13) (Τ (jv 4) (ι (Mo hr (jv 2) ψ) θ Ey)))))) θ aS))) θ Ea))))))))))))
   (μ (Ζ (fR (Τ (jv 5) (Τ (jv 7) θ)))))))))))))),λds M q x h=>?_⟩)
 ·have⟨ns,rfl,_⟩:=h;rfl
 ·have⟨ns,rfl,nl,h⟩:=h;refine⟨ns,0,rfl,nl,@_,@_,λb0 Lr=>⟨@_,?_⟩⟩;refine⟨λρ M'=>M'=M/\∃t:Int,ρ=[some (.jR ns),some (.int b0),some (.int (b0 % 8)),some (.int t),none,none,none,none,none,none,none,none,none,none],?_,?_⟩
  ·refine⟨b0,rfl,λb=>⟨λ_=>?_,λ_=>?_⟩⟩
   ·exact⟨⟨@_,bg (k:=10) @_⟩,rfl,_,rfl⟩
   ·exact⟨⟨wN Lr,bg (k:=20) @_⟩,@_,rfl,_,rfl⟩
  rintro ρ M' ⟨rfl,t,rfl⟩;have⟨mx,emx,mx1,adk,mx5⟩:=UY (n:=b0);have⟨low,YD,Zz,YE⟩:=ZF (n:=b0);have t0:=aa9 t (show mx≠0 by omega);have t1:=aa5 t (show 0 < mx by omega);walk_at "vc";refine(Ι rfl emx ?_:fm (.lst [Dt.int 4,Dt.int 4,Dt.int 4,Dt.int 4,Dt.int 4,Dt.int 4,Dt.int 6,Dt.int 3]) (.int (b0 % 8)) _ _);refine⟨(),?_⟩;dsimp only[yX];obtain⟨sz,hz,z1,z12,z4⟩:∃sz:Nat,1+t % mx=(sz:Int)/\1<=sz/\sz<=12/\(b0 % 8=5->sz<=4):=⟨(1+t % mx).toNat,(),(),(),λz=>by have:=mx5 z;omega⟩;rw[hz];refine⟨ns,1,rfl,nl,@_,@_,λb1 hb1=>?_⟩;refine(Ι rfl YD ?_:fm (.lst [Dt.int 10,Dt.int 10,Dt.int 10,Dt.int 10,Dt.int 1,Dt.int 1000,Dt.int 10,Dt.int 10]) (.int (b0 % 8)) _ _);refine⟨b1,low,rfl,hb1,Zz,YE,λε hs=>?_⟩;obtain⟨cJ,LJ⟩:∃cJ,cJ=decide (b0 % 8=5):=⟨_,rfl⟩;have X5:fY ((10:Int) ^ (30:Int).toNat):=bg (k:=110) @_;have sl:∀{z:Nat},z<=1000->z<=sizeLine:=λh=>aas h @_;refine⟨sl @_,X9,⟨bg (k:=4) @_,X5⟩,p6,sl @_,sl @_,?_⟩;have rd:∀(M':Ms) (q:DQ),q (Bi (Br cJ sz)) M'->Cn (.int (b0 % 8)) (.int 5) M' λd M1=>zB [d] M1 λd2 M2=>fm (.lst [.lst [.int 19,.int 4,.int 1,.int (sz:Int),.int 4],.lst [.int (2 * 10 ^ (30:Int).toNat+1),.int (10 ^ (6:Int).toNat),.int 1,.int (sz:Int),.int 150000]]) d2 M2 q:=λM' q hq=>by
   show zB [.bl (decide (b0 % 8=5))] M' λd2 M2=>fm (.lst [Bi (Br false sz),Bi (Br true sz)]) d2 M2 q;rw[<-LJ];dsimp only[zB];cases cJ with
   | true=>exact Ι (d:=.lst [Bi (Br false sz),Bi (Br true sz)]) rfl (Ο (j:=1) rfl) hq
   | false=>exact Ι (d:=.lst [Bi (Br false sz),Bi (Br true sz)]) rfl bu hq
  refine rd _ _ ?_;have n4:cJ=true->sz<=4:=λz=>z4 (aaA (by rw[<-LJ];exact z));refine⟨@_,?_⟩;refine⟨⟨(),()⟩,?_⟩;rw[show((sz:Int)).toNat=sz by omega];refine cN (λzs ρ M2=>∃(n k:Nat) (rs:List Rw) (rm:Int) (o1 o2 o3 o4 o5:Option Dt),(1<=rm/\rm<=30/\(h9 rs:Int) * rm<=30)/\zs=dN k n/\k+n=sz/\rs.length=k/\(∀r∈rs,Tt cJ sz r)/\M2=M'++[MO.lst (rs.map bo)]/\ρ=[some (.jR ns),some (.int b0),some (.int (b0 % 8)),some (.int t),some (.int (sz:Int)),some (Ξ ε),some (Bi (Br cJ sz)),some (.loc M'.length),some (.int rm),o1,o2,o3,o4,o5]) (λx zs ρ M2 hj fW=>?_) (λρ M2 hj=>?_) _ _ _ ⟨sz,0,[],12,none,none,none,none,none,⟨@_,@_,@_⟩,by simp,by simp,rfl,λ_ z=>(nomatch z),rfl,rfl⟩
  ·have⟨n,k,rs,rm,o1,o2,o3,o4,o5,⟨rl,rh,rp⟩,ex,Y4,hl,hd,rfl,rfl⟩:=hj;have⟨m,rfl,rfl,rfl⟩:=cv ex;have k12:(k:Int) < 12:=()
   have RK:(M'++[MO.lst (rs.map bo)])[M'.length]? =some (.lst (rs.map bo)):=by simp
   have setM:∀y:Rw,(M'++[MO.lst (rs.map bo)]).set M'.length (.lst (rs.map bo++[bo y]))=M'++[.lst ((rs++[y]).map bo)]:=λy=>by simp
   have lt:(rs.map bo).length < sizeLine:=by rw[aac,hl];exact aaV (show k<=12 by omega) @_
   have first:∃k' xs',Dt.loc M'.length= .loc k'/\(M'++[MO.lst (rs.map bo)])[k']? =some (.lst xs'):=⟨_,_,rfl,RK⟩
   have more:∀y,Tt cJ sz y->∀r∈rs++[y],Tt cJ sz r:=λy hy r hr=>by
    rcases aa0.mp hr with hr| hr
    ·exact hd r hr
    ·rw[aa8.mp hr];exact hy
   have so:=Vd (cJ:=cJ) (aP:=(sz:Int)) () ();refine⟨ns,2+(k:Int),rfl,nl,(),(),λf hf=>⟨@_,?_⟩⟩;have⟨kd,ek,Qw⟩:=RA (n:=f);refine Ι rfl ek ?_;refine⟨λρ M2=>M2=M'++[MO.lst (rs.map bo)]/\∃c:Nat,(1<=c/\c<=6)/\ρ=[some (.jR ns),some (.int b0),some (.int (b0 % 8)),some (.int t),some (.int (sz:Int)),some (Ξ ε),some (Bi (Br cJ sz)),some (.loc M'.length),some (.int rm),some (.int (k:Int)),some (.int f),some (.str kd),some (.int (c:Int)),o5],?_,?_⟩
   ·have cut:∀t:Int,∃c:Nat,(1<=c/\c<=6)/\1+t % 6=(c:Int):=λt=>⟨(1+t % 6).toNat,(),()⟩;have Ur:∀(t:Int) (ρ:List (Option Dt)),(∃c:Nat,(1<=c/\c<=6)/\ρ++[some (.int (1+t % 6)),o5]=ρ++[some (.int (c:Int)),o5]):=λt ρ=>by have⟨c,h1,h2⟩:=cut t;exact⟨c,h1,by rw[h2]⟩
    refine⟨f,rfl,λb=>⟨λ_=>?_,λ_=>?_⟩⟩
    ·exact⟨⟨@_,bg (k:=10) @_⟩,@_,rfl,Ur (f / 8) [some (.jR ns),some (.int b0),some (.int (b0 % 8)),some (.int t),some (.int (sz:Int)),some (Ξ ε),some (Bi (Br cJ sz)),some (.loc M'.length),some (.int rm),some (.int (k:Int)),some (.int f),some (.str kd)]⟩
    ·exact⟨⟨wN hf,bg (k:=20) @_⟩,@_,@_,rfl,Ur (f * 48271 % 65537) [some (.jR ns),some (.int b0),some (.int (b0 % 8)),some (.int t),some (.int (sz:Int)),some (Ξ ε),some (Bi (Br cJ sz)),some (.loc M'.length),some (.int rm),some (.int (k:Int)),some (.int f),some (.str kd)]⟩
   rintro ρ2 M2 ⟨rfl,c0,⟨c01,c06⟩,rfl⟩;refine⟨λρ M2=>M2=M'++[MO.lst (rs.map bo)]/\∃(c:Nat) (rm:Int),(1<=c/\c<=6)/\(1<=rm/\rm<=30/\(h9 rs:Int) * (cH kd c:Int) * rm<=30)/\ρ=[some (.jR ns),some (.int b0),some (.int (b0 % 8)),some (.int t),some (.int (sz:Int)),some (Ξ ε),some (Bi (Br cJ sz)),some (.loc M'.length),some (.int rm),some (.int (k:Int)),some (.int f),some (.str kd),some (.int (c:Int)),o5],?_,?_⟩
   ·have yes:∃(c:Nat) (r':Int),(1<=c/\c<=6)/\(1<=r'/\r'<=30)/\(if rm < (c0:Int) then rm else (c0:Int))=(c:Int)/\rm / (if rm < (c0:Int) then rm else (c0:Int))=r'/\(c:Int) * r'<=rm:=by
     by_cases y:rm < (c0:Int)
     ·rw[aaw y];exact⟨rm.toNat,1,(),@_,(),Int.ediv_self (),()⟩
     ·rw[aav y];have a1:1<=rm / (c0:Int):=(Int.le_ediv_iff_mul_le ()).mpr ();have a2:rm / (c0:Int)<=rm:=acm _ ();exact⟨c0,_,(),⟨a1,()⟩,rfl,rfl,Int.mul_ediv_self_le ()⟩
    have⟨c',r',zC,fZ,ec,er,hcr⟩:=yes;have Al:Β kd=true->1<=r'/\r'<=30/\(h9 rs:Int) * (cH kd c':Int) * r'<=30:=λy=>⟨fZ.1,fZ.2,by unfold cH;rw[if_pos y];exact L6 (Int.natCast_nonneg _) hcr rp⟩;rw[ec]at er;walk_at "vc";refine⟨λz=>⟨λ_=>?_,λy=>(nomatch y)⟩,λz=>⟨λz'=>?_,λz'=>?_⟩⟩
    ·have z:kd="one":=aaA z;dsimp only[HY];rw[ec];refine⟨⟨(),bg (k:=4) ()⟩,rfl,c',r',zC,Al (by rw[z];decide),?_⟩;rw[<-er]
    ·have z':kd="other":=aaA z';dsimp only[HY];rw[ec];refine⟨⟨(),bg (k:=4) ()⟩,rfl,c',r',zC,Al (by rw[z'];decide),?_⟩;rw[<-er]
    ·have z:kd≠"one":=abd z;have z':kd≠"other":=abd z';refine⟨rfl,c0,rm,⟨c01,c06⟩,⟨rl,rh,?_⟩,rfl⟩;have:Β kd=false:=by unfold Β;rw[beq_eq_false_iff_ne.mpr z,beq_eq_false_iff_ne.mpr z'];rfl
     unfold cH;rw[aav (by rw[this];decide)];show(h9 rs:Int) * 1 * rm<=30;rw[Int.mul_one];exact rp
   rintro ρ2 M2 ⟨rfl,c,rm,⟨c1,c6⟩,⟨rl,rh,rp⟩,rfl⟩;refine⟨λz=>?_,λz=>?_⟩
   ·have z:kd="end":=aaA z;refine⟨first,f,(k:Int),3,Br cJ sz,rfl,hf,(),(),@_,so,λxs xl hx=>cf (h8 _) ?_⟩;refine⟨xs,decide (b0 % 8=5),rfl,(),hx,λp pp=>⟨gV,M'.length,_,_,rfl,rfl,RK,lt,?_⟩⟩;rw[<-LJ]at pp;have e:Dt.tup [.str kd,Ξ p]=bo (.fin p):=by rw[z];rfl
    rw[e,setM (.fin p)];exact fW _ _ ⟨m,k+1,rs++[Rw.fin p],_,_,_,_,_,_,⟨rl,rh,by rw[pN];rw[z]at rp;rw[Int.natCast_mul];exact rp⟩,by simp,(),by simp[hl],more (.fin p) ⟨⟨⟨pp.red.pos,pp.fit⟩,λ_ _ e=>nomatch e⟩,λ_ e=>by cases e;exact pp,λ_ _ e=>nomatch e⟩,rfl,rfl⟩
   ·have z:kd≠"end":=abd z;have Qw:Β kd=true\/kd="chance":=by
     rcases Qw with hk| hk| hk
     ·exact .inl hk
     ·exact .inr hk
     ·exact aaJ hk z
    refine⟨⟨bg (k:=10) @_,bg (k:=10) ()⟩,f,(k:Int),5 * c,Br cJ sz,by rw[Int.natCast_mul];rfl,hf,(),(),(),so,λxs xl hx=>cf (h8 _) ?_⟩;refine⟨first,kd,xs,sz,decide (b0 % 8=5),c,rfl,xl,c1,c6,hx,(),(),Qw,λds dl hds=>cf (ik ds) ?_⟩;rw[<-LJ]at hds;refine⟨gV,M'.length,_,_,rfl,rfl,RK,lt,?_⟩;exact fW _ _ ⟨m,k+1,rs++[Rw.υ kd ds],_,_,_,_,_,_,⟨rl,rh,by rw[pN,Int.natCast_mul];rw[<-dl]at rp;exact rp⟩,by simp,(),by simp[hl],more (.υ kd ds) hds,setM (.υ kd ds),rfl⟩
  ·have⟨n,k,rs,rm,o1,o2,o3,o4,o5,⟨rl,rh,rp⟩,ex,Y4,hl,hd,rfl,rfl⟩:=hj;have hn:n=0:=by have:=aaX List.length ex;unfold dN at this;simpa using this.symm
   have e:rs.length=sz:=()
   exact⟨gV,h ε rs cJ ⟨hs,(),(),λz=>by have:=n4 z;omega,by rw[e];exact hd,by have:=aaq rl (Int.natCast_nonneg (h9 rs));omega⟩⟩
def Kb:DF:=λas M q _=>∃γ:List Rw,as=[.lst (γ.map bo)]/\γ.length<=12/\(∀r∈γ,gc r)/\q (.lst (γ.map bo)) M
def vT:Ε ["_law_rows"] ["_law_rows"] (τ r6):=.of rfl
def BZ(F:cX K "_law_copy" "_law_copy" r6 f fd)(E:Ev K mg w Cm):av P w K mg base (bY P w) 1 f fd ["_law_rows"] (cK K Kb):=by
 refine F.dE vT (λds M q x h=>?_) (λaX A outer s H E' hr=>⟨_,(μ (Ζ (Dw (ys:=[]) (Ω:=[]) (.of vT rfl rfl rfl) (aV (jv 0)) (λC s H fp=>(fR (Τ (jv 0) (ι (Ag (eZ hr (jv 0) jV) (jv 1) (bK (tP E.jJ (Τ (jv 1) θ)))) θ))))))),λds M q x h=>?_⟩)
 ·have⟨γ,rfl,_⟩:=h;rfl
 ·have⟨γ,rfl,lY,ro,h⟩:=h;walk_at "vc";dsimp only[Bm,eF];walk_at "vc";refine⟨by rw[aac];exact aas (show _<=12 by omega) @_,?_⟩;refine oN trivial (λx=>x) _ _ (λx hx qq hq=>?_) ?_
  ·have⟨r,fZ,rfl⟩:=aah.mp hx;have rr:=ro r fZ;cases r with
   | fin p=>
    refine⟨λ_=>?_,λz=>(nomatch z)⟩;exact⟨gV,hq⟩
   | υ k ds=>
    refine⟨λz=>aaJ (aaA z) rr.1,λ_=>?_⟩;refine NF (ik ds) ?_;exact⟨gV,hq⟩
  ·rw[aaQ,List.map_id'];exact h
def xF(cJ:Bool):Int:=if cJ=true then 10 ^ 36 else 12
def cF(cJ:Bool):Int:=if cJ=true then 10 ^ 30 else 9
def oH{m:Nat}(hb:1<=b)(hmn:m<=n):b ^ m<=b ^ n:=by have⟨c,rfl⟩:=Nat.exists_eq_add_of_le hmn;rw[Int.pow_add];have p:0 < b ^ c:=Int.pow_pos ();have q:0<=b ^ m:=abV ();have:=aaq (show 1<=b ^ c by omega) q;omega
def sG(h:bz p=true)(p0:0 < p.2):eG p (10 ^ 30)/\p.2<=1000000:=by
 unfold bz at h;rw[aaz,aao,aao]at h;have h1:=h.1;have:10 ^ 30<=p.2 * 10 ^ 30:=by have:=aaN (show 1<=p.2 by omega) (show(0:Int)<=10 ^ 30 by decide);omega
 unfold eG;split at h1 <;> exact⟨⟨(),()⟩,h.2⟩
def wY.nr{E:Int}(h:wY cJ p)(he:p.2∣E):Nr E (cF cJ) p:=by
 refine⟨h.red,z_ he,?_⟩;cases cJ with
 | true=>exact(sG h.fit h.red.pos).1
 | false=>exact(h.near rfl).2
def LF.fw(lf:LF ε γ cJ):FW ε γ (xF cJ) (cF cJ):=by
 refine⟨⟨lf.sh,lf.Bj,λr hr=>(lf.row r hr).1.1⟩,lf.n1,λk ds hm hk=>(lf.row _ hm).1.2 k ds rfl hk,λk ds hm=>?_,λp hm=>?_,?_,?_,?_⟩
 ·have pp:=(lf.row _ hm).2.2 k ds rfl;cases cJ with
  | true=>
   have l6:ds.length<=6:=(e9 (ε:=ε) (γ:=γ) ⟨lf.sh,lf.Bj,λr hr=>(lf.row r hr).1.1⟩ hm).l6;have all:∀a∈ds.map (·.2.1.2),0 < a/\a<=1000000:=λa ha=>by have⟨d,hd,rfl⟩:=aah.mp ha;exact⟨(pp d hd).red.pos,(sG (pp d hd).fit (pp d hd).red.pos).2⟩
   refine⟨qB (ds.map (·.2.1.2)),sJ λa ha=>(all a ha).1,?_,λd hd=>(pp d hd).nr (zb (aah.mpr ⟨d,hd,rfl⟩))⟩;have:=E_ all;rw[aac]at this;refine abC this ?_;exact abC (oH @_ l6) @_
  | false=>exact⟨12,@_,@_,λd hd=>(pp d hd).nr ((pp d hd).near rfl).1⟩
 ·have pp:=(lf.row _ hm).2.1 p rfl;cases cJ with
  | true=>exact⟨p.2,pp.red.pos,abC (sG pp.fit pp.red.pos).2 @_,pp.nr (Int.dvd_refl _)⟩
  | false=>exact⟨12,@_,@_,pp.nr (pp.near rfl).1⟩
 ·cases cJ <;> decide
 ·cases cJ <;> decide
 ·cases cJ <;> decide
def LF.sz(lf:LF ε γ cJ):iK (xF cJ) (cF cJ)<=2 ^ 450/\(12 * iK (xF cJ) (cF cJ)) ^ γ.length < 2 ^ 1030:=by
 cases cJ with
 | true=>exact⟨@_,aaL (oH @_ (lf.n4 rfl)) @_⟩
 | false=>exact⟨@_,aaL (oH @_ lf.Bj) @_⟩
def Lz{q:DQ}(h:q (.str (kindOf r)) M):fm (bo r) (.int 0) M q:=by have⟨e,er⟩:=IB (r:=r);rw[er];exact Ι (xs:=[.str (kindOf r),e]) rfl bu h
def Lg(hi:γ[i]? =some r){q:DQ}(h:q (bo r) M):fm (.lst (γ.map bo)) (.int (i:Int)) M q:=Ι (xs:=γ.map bo) rfl (Ο (n6 hi)) h
def Mu(i:Int):qL (V.int i) (V.int i)=true:=by unfold qL;simp
def Bc{l:List Nat}{f:Nat->Bool}(h:∀j,f j=true):l.all f=true:=abN.mpr λj _=>h j
def Mx(i:Int):ow M n (.int i) (.int i) true:=by have:=ow.flat (M:=M) (n:=n) (d:=.int i) (e:=.int i) rfl rfl;rwa[Mu]at this
def Mi{ds:List Dt}(h:∀d∈ds,ow M n d d true):ow M (n+1) (.tup ds) (.tup ds) true:=by
 have:=ow.tup (M:=M) (n:=n) (ds:=ds) (es:=ds) (f:=λ_=>true) λj d e h1 h2=>by rw[h1]at h2;cases h2;exact h d (aam h1)
 rwa[Bc λ_=>rfl,ack]at this
def MX{d e:Dt}{ds:List Dt}(h1:kQ M d=some ds)(h2:kQ M e=some ds)(h:∀d∈ds,ow M n d d true):ow M (n+1) d e true:=by
 have:=ow.lst (M:=M) (n:=n) (d:=d) (e:=e) (f:=λ_=>true) h1 h2 rfl λj d e h1 h2=>by rw[h1]at h2;cases h2;exact h d (aam h1)
 rwa[Bc λ_=>rfl]at this
def QJ(p:Fr):ow M (n+1) (Ξ p) (Ξ p) true:=Mi λd hd=>by have hd:d∈[Dt.int p.1,Dt.int p.2]:=hd;simp only[List.mem_cons,List.not_mem_nil,or_false]at hd;rcases hd with rfl| rfl <;> exact Mx _
def ye{d e:Dt}(h1:kQ M d=some (tb.map Ξ))(h2:kQ M e=some (tb.map Ξ)):ow M (n+2) d e true:=MX h1 h2 λd hd=>by have⟨p,_,rfl⟩:=aah.mp hd;exact QJ p
def NX{k:Bool->Ms->Prop}(h:k false M):Md (Ξ p) (Ξ p) M (λd M1=>match d with| .bl b=>k b M1| _=>False):=by show k (!og [.int p.1,.int p.2] [.int p.1,.int p.2]) M;rw[SM,aaB rfl];exact h
def nE{k:Nat}(h:M[k]? =some (MO.lst xs)):lZ M (.loc k)=some (xs,λM'=>M'[k]? =some (MO.lst xs)):=by show(match M[k]? with| some (MO.lst xs)=>some (xs,λM':Ms=>M'[k]? =some (MO.lst xs))| _=>none)=_;rw[h]
def ET:DF:=λas M q _=>∃i:Int,as=[.int i]/\q (.bl true) M
def BV:Ε ["_law_number"] ["_law_number"] (τ qf):=.of rfl
def Ai(F:cX K "_law_whole" "_law_whole" qf f fd)(E:Ev K mg w Cm):av P w K mg base (bY P w) 1 f fd ["_law_number"] (cK K ET):=by
 refine F.dE BV (λds M q x h=>?_) (λaX A outer s H E' hr=>⟨_,(μ (Ζ (gY (x8 K E.cD (Τ (jv 0) (Τ (Me E.vH vp) θ))) (kB (Rf (x8 K E.cD (Τ (jv 0) (Τ (Me E.w8 C6) θ)))))))),λds M q x h=>?_⟩)
 ·have⟨i,rfl,_⟩:=h;rfl
 ·have⟨i,rfl,h⟩:=h;refine⟨_,_,_,_,true,rfl,rfl,rfl,Cu,λ_=>?_,λz=>(nomatch z)⟩;exact⟨_,_,_,_,false,rfl,rfl,rfl,E.ib,h⟩
structure R_(M:Ms)(d:Dt)(tb:List Fr)(ok:Ms->Prop):Prop where
 kind:JL M d=some (.type "list")
 seq:jq M d=some (tb.map Ξ)
 it:lZ M d=some (tb.map Ξ,ok)
 ok:ok M
def An:R_ M (.lst (tb.map Ξ)) tb (λ_=>True):=⟨rfl,rfl,rfl,trivial⟩
def Le:DF:=λas M q _=>∃(d:Dt) (tb:List Fr) (n:Nat) (ok:Ms->Prop),as=[d,.int (n:Nat)]/\R_ M d tb ok/\mP tb n/\q (.bl true) M
def uv:Ε ["_law_table_here","_law_many","_law_one"] ["_law_table_here","_law_many"] (τ pK):=.of rfl
def zi(F:cX K "_law_table" "_law_table" pK f fd)(E:Ev K mg w Cm){Gk:Addr}{GB:FuncData}(je:aB P w K mg base 1 "_law_whole" ["_law_number"] ET Gk GB)(aQ:aB P w K mg base 1 "_law_lowest" ["_law_top","_law_bottom"] JP d8 eC):av P w K mg base (bY P w) 2 f fd ["_law_table_here","_law_many"] (cK K Le):=by
 refine F.dE uv (λds M q x h=>?_) (λaX A outer s H E' hr=>⟨_,(η (aI (JW.jt (l9 (hV (bL (x8 K E.cD (Τ (jv 0) (Τ (Me E.jJ rE) θ))))) (j8 (tX hr (cQ E.bJ (Τ (jv 0) θ)) (jv 1))))) (μ (Ζ CB)) Υ)
   (η (cC (aV (jv 0)) (au (i:=2) uv.nd rfl (Or.inl rfl)) aG (η (aI (JW.jt (l9 (hV (bL (x8 K E.cD (Τ (jv 2) (Τ (Me E.qS zI) θ))))) (l9 (tX hr (cQ E.bJ (Τ (jv 2) θ)) ψ) (l9 (hV (bL (ao je hr ξ (ι (Μ (jv 2) ψ) θ aU)))) (j8 (hV (bL (ao je hr ξ (ι (Μ (jv 2) ψ) θ aU))))))))) (μ (Ζ CB)) Υ)
   (μ (aI (JW.jt (l9 (vN (Μ (jv 2) ψ) ψ) (j8 (tX hr (ao aQ hr ξ (ι (Μ (jv 2) ψ) (ι (Μ (jv 2) ψ) θ aU) aU)) (jv 2))))) (μ (Ζ CB)) Υ))))
   (μ (Ζ CB)))),λds M q x h=>?_⟩)
 ·have⟨d,tb,n,ok,rfl,_⟩:=h;rfl
 ·have⟨d,tb,n,ok,rfl,hk,tk,h⟩:=h;have Km:=hk.kind;walk_at "vc";refine⟨_,_,_,_,true,rfl,Km,rfl,Cu,λz=>(nomatch z),λ_=>?_⟩;refine(az (d:=d) hk.seq ?_:gw [d] _ _);rw[aac,tk.len];refine⟨λz=>?_,λ_=>?_⟩
  ·have z:(!decide ((n:Int)=(n:Int)))=true:=z;rw[aaB rfl]at z;exact nomatch z
  dsimp only[oh,eF];walk_at "vc";rw[show(List.map some [d,Dt.int (n:Int)]++[none])[0]? =some (some d) from rfl];dsimp only;rw[hk.it];refine bx (λzs ρ' M'=>M=M'/\∃(rest:List Fr) (o2:Option Dt),zs=rest.map Ξ/\(∀p∈rest,p∈tb)/\ρ'=[some d,some (.int (n:Int)),o2]) (λzs ρ' M' hj=>by have⟨rfl,_⟩:=hj;exact hk.ok) (λx zs ρ' M' hj fW=>?_) (λρ' M' hj=>?_) _ _ _ ⟨rfl,tb,none,rfl,λ_ h=>h,rfl⟩
  ·have⟨rfl,rest,o2,ex,fZ,rfl⟩:=hj;cases rest with
   | nil=>cases ex
   | cons p rest=>
    cases ex;have pm:=fZ p aae;have rp:=tk.red p pm;have⟨s1,s2⟩:=tk.sz p pm;walk_at "vc";refine⟨_,_,_,_,true,rfl,rfl,rfl,Cu,λz=>(nomatch z),λ_=>?_⟩;refine(az (d:=Ξ p) (xs:=[.int p.1,.int p.2]) rfl ?_:gw [Ξ p] _ _);refine⟨λz=>(nomatch z),λ_=>?_⟩;refine(D6 ?_:fm (Ξ p) (.int 0) _ _);refine⟨p.1,rfl,λz=>(nomatch z),λ_=>?_⟩;refine(zF ?_:fm (Ξ p) (.int 1) _ _);refine⟨p.2,rfl,λz=>(nomatch z),λ_=>?_⟩;refine(zF ?_:fm (Ξ p) (.int 1) _ _);refine⟨λz=>?_,λ_=>?_⟩
    ·have z:p.2 < 1:=aaA z;have:=rp.pos;omega
    refine(D6 ?_:fm (Ξ p) (.int 0) _ _);refine(zF ?_:fm (Ξ p) (.int 1) _ _);refine⟨p.1,p.2,rfl,rp.pos,qH (k:=1030) (aaj rp.pos) s1 @_,?_⟩;rw[wm rp.pos rp.low];refine NX ?_;exact⟨λz=>(nomatch z),λ_=>fW _ _ ⟨rfl,rest,_,rfl,λy hy=>fZ y (aad _ hy),rfl⟩⟩
  ·have⟨rfl,rest,o2,ex,fZ,rfl⟩:=hj;exact h
def pG{k:Int}{c:Nat}:∀l:List (Int×Nat),cn (l++[(k,c)])=(cn l).flatMap λp=>(List.range c).map λj:Nat=>p++[(k,(j:Int))]
 | []=>by show(List.range c).flatMap (λj:Nat=>[[(k,(j:Int))]])=([[]]:List Pl).flatMap _;rw[<-List.map_eq_flatMap,abZ,List.flatMap_nil,aa1];rfl
 | (k',c')::r=>by
  show(List.range c').flatMap (λj:Nat=>(cn (r++[(k,c)])).map λp=>(k',(j:Int))::p)=((List.range c').flatMap λj:Nat=>(cn r).map λp=>(k',(j:Int))::p).flatMap _;rw[pG r,List.flatMap_assoc]
  congr 1
  funext j
  rw[List.map_flatMap,List.flatMap_map]
  congr 1
  funext p
  rw[aaK];rfl
def lD:∀{kc:List (Int×Nat)} {p:Pl},p∈cn kc->aw kc p
 | [],p,h=>by rw[aa8.mp h];trivial
 | (k,c)::r,p,h=>by have⟨j,hj,h⟩:=List.mem_flatMap.mp h;have⟨p',hp,rfl⟩:=aah.mp h;have hj:=aa4.mp hj;exact⟨rfl,(),(),lD hp⟩
def uj{α β:Type}{f:α->List β}{c:Nat}:∀l:List α,(∀a,(f a).length=c)->(l.flatMap f).length=l.length * c
 | [],_=>by rw[acz,Nat.zero_mul];rfl
 | a::l,h=>by rw[abZ,aag,h,uj l h,aay,Nat.succ_mul,Nat.add_comm]
def yR(γ:List Rw)(hand:Str)(n:Nat):List (Int×Nat):=((List.range n).filter λi=>decide (bZ γ i=hand)).map λi:Nat=>((i:Int),(Κ (d7 γ i)).length)
section
variable{c:Nat}{p:Pl}{M1 M2:Ms}{ps:List Pl}
def D4(h:bZ γ n=hand):yR γ hand (n+1)=yR γ hand n++[((n:Int),(Κ (d7 γ n)).length)]:=by unfold yR;rw[acB,List.filter_append,ab3 (by rw[h];exact aaB rfl),aaW];rfl
def K9(h:bZ γ n≠hand):yR γ hand (n+1)=yR γ hand n:=by unfold yR;rw[acB,List.filter_append,ab4 (by rw[aaG h];decide)];rw[List.filter_nil,aa1]
def QQ{x:Int×Nat}(h:x∈yR γ hand n):∃i:Nat,i < n/\x.1=(i:Int):=by have⟨i,hi,rfl⟩:=aah.mp h;exact⟨i,aa4.mp (List.mem_filter.mp hi).1,rfl⟩
def DH(h:bZ γ n=hand):(cn (yR γ hand (n+1))).length=(cn (yR γ hand n)).length * (Κ (d7 γ n)).length:=by rw[D4 h,pG,uj _ λp=>by rw[aac,aaP]]
def Jp(hd:∀i,i < γ.length->bZ γ i=hand->1<=(Κ (d7 γ i)).length):∀d i,i+d=γ.length->(cn (yR γ hand i)).length<=(cn (dD γ hand)).length
 | 0,i,e=>by have e:i=γ.length:=e;subst e;exact aai _
 | d+1,i,e=>by
  refine aas ?_ (Jp hd d (i+1) ());by_cases h:bZ γ i=hand
  ·rw[DH h];exact Nat.le_mul_of_pos_right _ (hd i () h)
  ·rw[K9 h];exact aai _
def EH(h:p∈cn (yR γ hand n)){v:Int}:gR p n v=p++[((n:Int),v)]/\p.length<=n:=by
 have f:=lD h;refine⟨?_,?_⟩
 ·unfold gR;rw[aav];intro q;have⟨u,e⟩:=abm.mp q;have⟨c,hc,_⟩:=r_ f e;have⟨i,il,e⟩:=QQ hc;have e:(n:Int)=(i:Int):=e;omega
 ·have:=aaX List.length (bD f);rw[aac,aac]at this;rw[this];unfold yR;rw[aac];exact aas (acb _ _) (by rw[aaP];exact aai _)
def Xt(M M1:Ms):Prop:=∀(k:Nat) (o:MO),M[k]? =some o->M1[k]? =some o
def Xt.trans(a:Xt M M1)(b:Xt M1 M2):Xt M M2:=λk o h=>b k o (a k o h)
def Xt.app{E:Ms}:Xt M (M++E):=λ_ _ h=>bc h
def Xt.set{o:MO}(a:Xt M M1)(h:M[j]? =none):Xt M (M1.set j o):=λk u e=>by rw[abr (λq=>by rw[q,e]at h;cases h)];exact a k u e
def Hv(M:Ms)(j:Nat)(ps:List Pl):Prop:=∃DW:List (Nat×Pl),M[j]? =some (.lst (DW.map λx=>Dt.loc x.1))/\(∀x∈DW,M[x.1]? =some (dP x.2))/\DW.map (·.2)=ps
def Hv.mono(h:Hv M j ps)(e:Xt M M1):Hv M1 j ps:=by have⟨DW,a,b,c⟩:=h;exact⟨DW,e _ _ a,λx hx=>e _ _ (b x hx),c⟩
def Hv.push(h:Hv M j ps)(hx:M[j]? =some (.lst xs)):Hv ((M++[dP p]).set j (.lst (xs++[.loc M.length]))) j (ps++[p]):=by
 have⟨DW,a,b,c⟩:=h;rw[a]at hx;cases hx;have jl:j < M.length:=(aaf.mp a).1;refine⟨DW++[(M.length,p)],?_,λx hx=>?_,by rw[aaW,c];rfl⟩
 ·rw[abb (by rw[aag];omega),aaW];rfl
 ·have ne:∀{k:Nat} {q:Pl},(M++[dP p])[k]? =some (dP q)->((M++[dP p]).set j (.lst (DW.map (λx=>Dt.loc x.1)++[.loc M.length])))[k]? =some (dP q):=λ{k q} e=>by rw[abr (λz=>by rw[<-z,bc a]at e;cases e)];exact e
  rcases aa0.mp hx with hx| hx
  ·exact ne (bc (b x hx))
  ·rw[aa8.mp hx];exact ne ax
end
def Ou:DF:=λas M q _=>∃(γ:List Rw) (hand:Str),as=[.lst (γ.map bo),.str hand]/\γ.length<=12/\Β hand=true/\(∀k ds,Rw.υ k ds∈γ->1<=ds.length/\ds.length<=6)/\(cn (dD γ hand)).length<=1000/\∀M1 j,Xt M M1->Hv M1 j (cn (dD γ hand))->q (.loc j) M1
def bB:Ε ["_law_rows","_law_hand","_law_some","_law_k","_law_more","_law_plan","_law_door","_law_longer"] ["_law_rows","_law_hand"] (τ ji):=.of rfl
def tY   (F:cX K "_law_all_plans" "_law_all_plans" ji f fd) (E:Ev K mg w Cm):av P w K mg base (bY P w) 1 f fd ["_law_rows","_law_hand"] (cK K Ou):=by
 refine F.dE bB (λds M q x h=>?_) (λaX A outer s H E' hr=>⟨_,(η (Γ 2 bB.nd (hG (ι wz θ)))
   (η (hJ (b_ E.bR (ι (cQ E.bJ (Τ (jv 0) θ)) θ aS)) (au (i:=3) bB.nd rfl (Or.inl rfl)) aG (μ (aI (eZ hr (Μ (Μ (jv 0) (jv 3)) ψ) (jv 1)) (η (Γ 4 bB.nd (hG θ))
   (η (cC (aV (jv 2)) (au (i:=5) bB.nd rfl (Or.inl rfl)) aG (μ (hJ (b_ E.bR (ι (cQ E.bJ (ι (Μ (Μ (jv 0) (jv 3)) ψ) θ aU)) θ aS)) (au (i:=6) bB.nd rfl (Or.inl rfl)) aG (η (Γ 7 bB.nd (Bl E.pA (Τ (jv 5) θ)))
   (η (qW hr (jv 7) (jv 3) (jv 6))
   (μ (dh (dJ (jv 4) (Τ (jv 7) θ)))))))))
   (μ (Γ 2 bB.nd (jv 4))))) Υ)))
   (μ (Ζ (jv 2))))),λds M q x h=>?_⟩)
 ·have⟨γ,hand,rfl,_⟩:=h;rfl
 ·have⟨γ,hand,rfl,lY,hh,ZU,np,h⟩:=h;have hd:∀i,i < γ.length->bZ γ i=hand->1<=(Κ (d7 γ i)).length:=λi il e=>by
   have hi:γ[i]? =some γ[i]:=aaa il;unfold bZ at e;rw[hi]at e;have e:kindOf γ[i]=hand:=e;rw[jz hi];cases hr:γ[i] with
   | fin p=>
    rw[hr]at e;exact aaJ (e▸hh) (by show¬Β (Str.ofString "end")=true;decide)
   | υ k ds=>exact(ZU k ds (hr▸aaF il)).1
  walk_at "vc";refine⟨by show 1<=sizeLine;decide,?_⟩;refine(az (d:=.lst (γ.map bo)) (xs:=γ.map bo) rfl ?_:gw [.lst (γ.map bo)] _ _);rw[aac];refine⟨(),?_⟩;rw[show((γ.length:Int)).toNat=γ.length by omega];refine cN (λzs ρ' M'=>∃(i m j:Nat) (o3 o4 o5 o6 o7:Option Dt),zs=dN (i:Int) m/\i+m=γ.length/\Xt M M'/\Hv M' j (cn (yR γ hand i))/\ρ'=[some (.lst (γ.map bo)),some (.str hand),some (.loc j),o3,o4,o5,o6,o7]) (λx zs ρ' M' hj fW=>?_) (λρ' M' hj=>?_) _ _ _ ⟨0,γ.length,_,none,none,none,none,none,rfl,(),Xt.app.trans Xt.app,⟨[(M.length,[])],ax,λx hx=>by rw[aa8.mp hx];exact bc ax,rfl⟩,rfl⟩
  ·have⟨i,m,j,o3,o4,o5,o6,o7,ex,im,xt,pa,rfl⟩:=hj;have⟨m',rfl,rfl,rfl⟩:=cv ex;have il:i < γ.length:=()
   have hi:γ[i]? =some γ[i]:=aaa il;have ki:bZ γ i=kindOf γ[i]:=by unfold bZ;rw[hi]
   have ri:d7 γ i=γ[i]:=jz hi;generalize hr0:γ[i]=r at *
   have rm:r∈γ:=aam hi;walk_at "vc";refine Lg hi (Lz ?_);refine⟨λz=>?_,λz=>?_⟩
   ·have z:kindOf r=hand:=aaA z;cases r with
    | fin p=>exact aaJ (z▸hh) (by show¬Β (Str.ofString "end")=true;decide)
    | υ k ds=>
     have⟨d1,d6⟩:=ZU k ds rm;have kz:=ki.trans z;have dz:(Κ (d7 γ i)).length=ds.length:=by rw[ri];rfl
     have cle:=Jp hd m' (i+1) ();rw[DH kz,dz]at cle;have fin:cn (yR γ hand (i+1))=(cn (yR γ hand i)).flatMap λp=>(List.range ds.length).map λd:Nat=>p++[((i:Int),(d:Int))]:=by rw[D4 kz,pG,dz]
     have⟨DW,pj,pk,pe⟩:=pa;have mem:∀x∈DW,x.2∈cn (yR γ hand i):=λx hx=>by rw[<-pe];exact aah.mpr ⟨x,hx,rfl⟩
     have kl:(cn (yR γ hand i)).length=DW.length:=by rw[<-pe,aac]
     dsimp only[oh,eF];walk_at "vc";refine⟨@_,?_⟩;dsimp only;rw[nE (bc pj)];have jn:M'[M'.length]? =none:=abT (aai _);refine bx (λzs ρ2 M2=>∃(k1 k2:List (Nat×Pl)) (o5 o6 o7:Option Dt),DW=k1++k2/\zs=k2.map (λx=>Dt.loc x.1)/\Xt M' M2/\Hv M2 M'.length ((k1.map (·.2)).flatMap λp=>(List.range ds.length).map λd:Nat=>p++[((i:Int),(d:Int))])/\ρ2=[some (.lst (γ.map bo)),some (.str hand),some (.loc j),some (.int (i:Int)),some (.loc M'.length),o5,o6,o7]) (λzs ρ2 M2 hj=>by have⟨_,_,_,_,_,_,_,x2,_⟩:=hj;exact x2 _ _ pj) (λx zs ρ2 M2 hj nx2=>?_) (λρ2 M2 hj=>?_) _ _ _ ⟨[],DW,o5,o6,o7,rfl,rfl,Xt.app,⟨[],ax,λx hx=>(nomatch hx),rfl⟩,rfl⟩
     ·have⟨k1,k2,o5,o6,o7,ek,ez,x2,RQ,rfl⟩:=hj;cases k2 with
      | nil=>cases ez
      | cons y k2=>
       cases ez;have ym:y∈DW:=by rw[ek];exact aaE _ aae
       have⟨pn,pl⟩:=EH (v:=0) (mem y ym);have ly:k1.length+1<=(cn (yR γ hand i)).length:=by rw[kl,ek,aag,aay];omega
       walk_at "vc";refine Lg hi (OJ ?_);refine(az (d:=.lst (ds.map fe)) (xs:=ds.map fe) rfl ?_:gw [.lst (ds.map fe)] _ _);rw[aac];refine⟨(),?_⟩;rw[show((ds.length:Int)).toNat=ds.length by omega];refine cN (λzs ρ3 M3=>∃(d m:Nat) (o6 o7:Option Dt),zs=dN (d:Int) m/\d+m=ds.length/\Xt M' M3/\Hv M3 M'.length (((k1.map (·.2)).flatMap λp=>(List.range ds.length).map λd:Nat=>p++[((i:Int),(d:Int))])++(List.range d).map λd:Nat=>y.2++[((i:Int),(d:Int))])/\ρ3=[some (.lst (γ.map bo)),some (.str hand),some (.loc j),some (.int (i:Int)),some (.loc M'.length),some (.loc y.1),o6,o7]) (λx zs ρ3 M3 hj RW=>?_) (λρ3 M3 hj=>?_) _ _ _ ⟨0,ds.length,o6,o7,rfl,(),x2,by rw[List.range_zero,acJ,aa1];exact RQ,rfl⟩
       ·have⟨d,m3,o6,o7,ex,dm,x3,VS,rfl⟩:=hj;have⟨m4,rfl,rfl,rfl⟩:=cv ex;have ay:M3[y.1]? =some (dP y.2):=x3 _ _ (pk y ym);have⟨pn,pl⟩:=EH (v:=(d:Int)) (mem y ym);have pa4:=VS;have⟨kq,qj,_,qe⟩:=pa4;have lq:=aaX List.length qe;rw[aac,aag,uj _ λp=>by rw[aac,aaP],aac,aac,aaP]at lq;have lm:=Nat.mul_le_mul_right ds.length ly;rw[Nat.add_mul,Nat.one_mul]at lm;have e5:(M3++[dP y.2]).set M3.length (.eW (gm (kP y.2) (Sum.inl (i:Int))) (eL (kP y.2) (Sum.inl (i:Int)) (vP y.2) (.int (d:Int))))=M3++[dP (y.2++[((i:Int),(d:Int))])]:=by rw[vC (v:=(d:Int)),zL,pn,cY]
        refine⟨y.1,_,_,rfl,ay,?_⟩;walk_at "vc";refine⟨M3.length,_,_,Sum.inl (i:Int),rfl,ax,rfl,by unfold kP;rw[List.length_map];omega,?_⟩;rw[e5];refine⟨⟨_,_,rfl,bc qj⟩,M'.length,_,_,rfl,rfl,bc qj,by rw[aac];exact aaV (show _<=1000 by omega) @_,?_⟩;exact RW _ _ ⟨d+1,m4,_,_,by rw[abu];rfl,(),(x3.trans Xt.app).set jn,by rw[acB,aaW,<-aaO];exact VS.push qj,rfl⟩
       ·have⟨d,m3,o6,o7,ex,dm,x3,VS,rfl⟩:=hj;have m0:m3=0:=by have:=aaX List.length ex;rw[dU]at this;exact this.symm
        have e:d=ds.length:=()
        subst e;refine nx2 _ _ ⟨k1++[y],k2,_,_,_,by rw[ek,aaO];rfl,rfl,x3,?_,rfl⟩;rw[aaW,List.flatMap_append,aaM,acJ,abZ,List.flatMap_nil,aa1];exact VS
     ·have⟨k1,k2,o5,o6,o7,ek,ez,x2,RQ,rfl⟩:=hj;have:k2=[]:=by have:=aaX List.length ez;rw[aac]at this;exact ab5.mp this.symm
      subst this;rw[aa1]at ek;subst ek;rw[pe,<-fin]at RQ;walk_at "vc";exact fW _ _ ⟨i+1,m',_,_,_,_,_,_,by rw[abu];rfl,(),xt.trans x2,RQ,rfl⟩
   ·have z:kindOf r≠hand:=abd z;exact fW _ _ ⟨i+1,m',j,_,_,_,_,_,by rw[abu];rfl,(),xt,by rw[K9 (by rw[ki];exact z)];exact pa,rfl⟩
  ·have⟨i,m,j,o3,o4,o5,o6,o7,ex,im,xt,pa,rfl⟩:=hj;have m0:m=0:=by have:=aaX List.length ex;rw[dU]at this;exact this.symm
   have e:i=γ.length:=()
   subst e;exact h _ _ xt pa
def Jj(tk:mP tb n)(h:i < n):0 < (tb.getD i (0,1)).2/\(tb.getD i (0,1)).2.natAbs < 2 ^ 1030/\(tb.getD i (0,1)).1.natAbs < 2 ^ 1150/\nJ (tb.map Ξ) (i:Int)=some (Ξ (tb.getD i (0,1))):=by
 have hl:i < tb.length:=by rw[tk.len];exact h
 have m:=rC hl;have⟨s1,s2⟩:=tk.sz _ m;have r:=(tk.red _ m).pos;refine⟨r,?_,s2,?_⟩
 ·have:((tb.getD i (0,1)).2.natAbs:Int) < ((2 ^ 1030:Nat):Int):=by rw[abl (aaj r),Int.natCast_pow];exact s1
  exact abO.mp this
 ·rw[J' hl,aab,aaa hl];rfl
abbrev dt(tb:List Fr):Dt:=.lst (tb.map Ξ)
structure PX(M:Ms)(d:Dt)(q_:List (List Fr))(ok:Ms->Prop):Prop where
 seq:jq M d=some (q_.map dt)
 it:∀m,lZ (M++[m]) d=some (q_.map dt,ok)
 ok:∀m,ok (M++[m])
def rF:PX M (.lst (q_.map dt)) q_ (λ_=>True):=⟨rfl,λ_=>rfl,λ_=>trivial⟩
def HH{k:Nat}(h:M[k]? =some (.lst (q_.map dt))):PX M (.loc k) q_ (λM'=>M'[k]? =some (MO.lst (q_.map dt))):=⟨r9 h,λ_=>nE (bc h),λ_=>bc h⟩
def ku(g:Bool)(u v:Rat):Prop:=if g=true then u<=v else v<=u
structure iZ(g:Bool)(n:Nat)(q_ done:List (List Fr))(best:List Fr):Prop where
 len:best.length=n
 one:∀i,i < n->∃tb∈q_,best.getD i (0,1)=tb.getD i (0,1)
 all:∀i,i < n->∀tb∈done,ku g (val (tb.getD i (0,1))) (val (best.getD i (0,1)))
def ku.trans{g:Bool}{a b c:Rat}(h:ku g a b)(h':ku g b c):ku g a c:=by
 cases g with
 | true=>exact Rat.le_trans (show a<=b from h) (show b<=c from h')
 | false=>exact Rat.le_trans (show c<=b from h') (show b<=a from h)
def tR{l:List Fr}{v:Fr}(h:j < l.length):(l.set j v).getD i (0,1)=if i=j then v else l.getD i (0,1):=by
 rw[aab,List.getElem?_set,aab];by_cases e:j=i
 ·subst e;rw[aaw rfl,aaw rfl,aaw h];rfl
 ·rw[aav e,aav (λq=>e q.symm)]
def R5{l:List Fr}(h:j < l.length):nJ (l.map Ξ) (j:Int)=some (Ξ (l.getD j (0,1))):=by rw[J' h,aab,aaa h];rfl
def HF:DF:=λas M q _=>∃(u v:Fr),as=[Ξ u,Ξ v]/\(fY u.1/\fY u.2/\fY v.1/\fY v.2)/\q (.bl (cU u v)) M
def Gw:Ε ["_law_one","_law_two"] ["_law_one","_law_two"] (τ tj):=.of rfl
def BF(F:cX K "_law_less" "_law_less" tj f fd)(E:Ev K mg w Cm):av P w K mg base (bY P w) 1 f fd ["_law_one","_law_two"] (cK K HF):=by
 refine F.dE Gw (λds M q x h=>?_) (λaX A outer s H E' hr=>⟨_,(μ (Ζ (I_ (aR (Μ (jv 0) ψ) (Μ (jv 1) ψ)) (aR (Μ (jv 1) ψ) (Μ (jv 0) ψ))))),λds M q x h=>?_⟩)
 ·have⟨u,v,rfl,_⟩:=h;rfl
 ·have⟨u,v,rfl,⟨a1,a2,b1,b2⟩,h⟩:=h;walk_at "vc";refine(D6 ?_:fm (Ξ u) (.int 0) _ _);refine(zF ?_:fm (Ξ v) (.int 1) _ _);refine⟨⟨a1,b2⟩,?_⟩;refine(D6 ?_:fm (Ξ v) (.int 0) _ _);refine(zF ?_:fm (Ξ u) (.int 1) _ _);exact⟨⟨b1,a2⟩,h⟩
def Sx:DF:=λas M q _=>∃(d:Dt) (g:Bool) (q_:List (List Fr)) (n:Nat) (ok:Ms->Prop),as=[d,.bl g]/\PX M d q_ ok/\q_≠[]/\n<=12/\(∀tb∈q_,mP tb n)/\∀best,iZ g n q_ q_ best->q (.loc M.length) (M++[.lst (best.map Ξ)])
def eP:Ε ["_law_tables","_law_greatest","_law_best","_law_table_here","_law_k"] ["_law_tables","_law_greatest"] (τ iF):=.of rfl
def qJ   (F:cX K "_law_outermost" "_law_outermost" iF f fd) (E:Ev K mg w Cm) {Jv:Addr} {J_:FuncData} (lG:aB P w K mg base 1 "_law_less" ["_law_one","_law_two"] HF Jv J_):av P w K mg base (bY P w) 2 f fd ["_law_tables","_law_greatest"] (cK K Sx):=by
 refine F.dE eP (λds M q x h=>?_) (λaX A outer s H E' hr=>⟨_,(η (Γ 2 eP.nd (tP E.jJ (ι (Μ (jv 0) ψ) θ aU)))
   (η (cC (aV (jv 0)) (au (i:=3) eP.nd rfl (Or.inl rfl)) aG (μ (hJ (b_ E.bR (ι (cQ E.bJ (Τ (jv 2) θ)) θ aS)) (au (i:=4) eP.nd rfl (Or.inl rfl)) aG (μ (aI (JW.jt (l9 (JW.jt (JQ (bL (jv 1)) (Du (bL (ao lG hr ξ (ι (Μ (jv 2) (jv 4)) (ι (Μ (jv 3) (jv 4)) θ aU) aU)))))) (j8 (JW.jt (JQ (hV (bL (jv 1))) (Du (bL (ao lG hr ξ (ι (Μ (jv 3) (jv 4)) (ι (Μ (jv 2) (jv 4)) θ aU) aU))))))))) (μ (kY (jv 2) (jv 4) (Μ (jv 3) (jv 4)))) Υ)))))
   (μ (Ζ (jv 2))))),λds M q x h=>?_⟩)
 ·have⟨d,g,q_,n,ok,rfl,_⟩:=h;rfl
 ·have⟨d,g,q_,n,ok,rfl,ts,ne,Bj,tk,h⟩:=h;have⟨EL,RG,rfl⟩:=abe ne;have k0:=tk EL aae;walk_at "vc";refine(Ι (d:=d) ts.seq (show nJ (dt EL::RG.map dt) 0=some (dt EL) from bu) ?_:fm d (.int 0) _ _);dsimp only[vO,jq];dsimp only[oh,eF];walk_at "vc";rw[show(List.set (List.map some [d,Dt.bl g]++[none,none,none]) 2 (some (Dt.loc (List.length M))))[0]? =some (some d) from rfl];dsimp only;rw[ts.it];refine bx (λzs ρ' M'=>∃(done rest:List (List Fr)) (best:List Fr) (o3 o4:Option Dt),EL::RG=done++rest/\zs=rest.map dt/\iZ g n (EL::RG) done best/\M'=M++[.lst (best.map Ξ)]/\ρ'=[some d,some (.bl g),some (.loc M.length),o3,o4]) (λzs ρ' M' hj=>by have⟨_,_,_,_,_,_,_,_,rfl,_⟩:=hj;exact ts.ok _) (λx zs ρ' M' hj fW=>?_) (λρ' M' hj=>?_) _ _ _ ⟨[],_,EL,none,none,rfl,rfl,⟨k0.len,λi il=>⟨EL,aae,rfl⟩,λi il tb h=>(nomatch h)⟩,rfl,rfl⟩
  ·have⟨done,rest,best,o3,o4,ed,ez,ou,rfl,rfl⟩:=hj;cases rest with
   | nil=>cases ez
   | cons cur rest=>
    cases ez;have cm:cur∈EL::RG:=by rw[ed];exact aaE _ aae
    have kc:=tk cur cm;walk_at "vc";refine(az (d:=.loc M.length) (r9 ax) ?_:gw [.loc M.length] _ _);rw[aac,ou.len];refine⟨(),?_⟩;rw[show((n:Int)).toNat=n by omega];refine cN (λzs ρ3 M3=>∃(k m:Nat) (best:List Fr) (o4:Option Dt),zs=dN (k:Int) m/\k+m=n/\iZ g n (EL::RG) done best/\(∀i,i < k->ku g (val (cur.getD i (0,1))) (val (best.getD i (0,1))))/\M3=M++[.lst (best.map Ξ)]/\ρ3=[some d,some (.bl g),some (.loc M.length),some (dt cur),o4]) (λx zs ρ3 M3 hj RW=>?_) (λρ3 M3 hj=>?_) _ _ _ ⟨0,n,best,o4,rfl,(),ou,λi il=>aaJ il (abJ _),rfl,rfl⟩
    ·have⟨k,m3,best,o4,ex,km,ou,cu,rfl,rfl⟩:=hj;have⟨m4,rfl,rfl,rfl⟩:=cv ex;have kn:k < n:=()
     have kb:k < best.length:=by rw[ou.len];exact kn
     have⟨tb,tm,et⟩:=ou.one k kn;have⟨u0,u2,u1,_⟩:=Jj (tk tb tm) kn;rw[<-et]at u0 u1 u2;have⟨v0,v2,v1,va⟩:=Jj kc kn;have rb:∀q:DQ,q (Ξ (best.getD k (0,1))) (M++[.lst (best.map Ξ)])->fm (.loc M.length) (.int (k:Int)) (M++[.lst (best.map Ξ)]) q:=λq hq=>Ι (d:=.loc M.length) (r9 ax) (R5 kb) hq;have rc:∀q:DQ,q (Ξ (cur.getD k (0,1))) (M++[.lst (best.map Ξ)])->fm (dt cur) (.int (k:Int)) (M++[.lst (best.map Ξ)]) q:=λq hq=>Ι (d:=dt cur) rfl va hq;have up:=lK u0 v0;have dn:=lK v0 u0;have uF:ku g (val (cur.getD k (0,1))) (val (best.getD k (0,1)))->∀i,i < k+1->ku g (val (cur.getD i (0,1))) (val (best.getD i (0,1))):=λh i il=>by
      by_cases e:i=k
      ·subst e;exact h
      ·exact cu i ()
     have put:ku g (val (best.getD k (0,1))) (val (cur.getD k (0,1)))->iZ g n (EL::RG) done (best.set k (cur.getD k (0,1)))/\∀i,i < k+1->ku g (val (cur.getD i (0,1))) (val ((best.set k (cur.getD k (0,1))).getD i (0,1))):=λh=>by
      refine⟨⟨by rw[abh];exact ou.len,λi il=>?_,λi il t ht=>?_⟩,λi il=>?_⟩
      ·rw[tR kb];split
       ·rename_i e;subst e;exact⟨cur,cm,rfl⟩
       ·exact ou.one i il
      ·rw[tR kb];split
       ·rename_i e;subst e;exact(ou.all i il t ht).trans h
       ·exact ou.all i il t ht
      ·rw[tR kb];split
       ·rename_i e;subst e;cases g with
        | true=>exact Rat.le_refl
        | false=>exact Rat.le_refl
       ·exact cu i ()
     have store:∀v:Fr,(M++[MO.lst (best.map Ξ)]).set M.length (.lst ((best.map Ξ).set k (Ξ v)))=M++[.lst ((best.set k v).map Ξ)]:=λv=>by rw[cY,List.map_set]
     generalize cur.getD k (0,1)=v at *
     generalize best.getD k (0,1)=u at *
     have kb':Hq (best.map Ξ).length (k:Int)=some k:=ua (by rw[aac];exact kb);have big:fY u.1/\fY u.2/\fY v.1/\fY v.2:=⟨bg u1,bg u2,bg v1,bg v2⟩;cases g with
     | true=>
      walk_at "vc";refine⟨λ_=>rb _ (rc _ ⟨u,v,rfl,big,λz=>⟨λ_=>?_,λz=>(nomatch z)⟩,λz=>?_⟩),λz=>(nomatch z)⟩
      ·unfold pZ;walk_at "vc";refine rc _ ⟨M.length,(k:Int),_,k,rfl,rfl,ax,kb',?_⟩;rw[store v];have⟨o1,o2⟩:=put (Rat.le_of_lt (up.mp z));exact RW _ _ ⟨k+1,m4,_,_,by rw[abu];rfl,(),o1,o2,rfl,rfl⟩
      ·have nl:¬val u < val v:=λq=>by rw[up.mpr q]at z;cases z
       have:=RW _ _ ⟨k+1,m4,best,some (.int (k:Int)),by rw[abu];rfl,(),ou,uF (Rat.not_lt.mp nl),rfl,rfl⟩;exact⟨λz=>(nomatch z),λ_=>⟨λz=>(nomatch z),λ_=>this⟩⟩
     | false=>
      walk_at "vc";refine⟨λz=>(nomatch z),λ_=>⟨λz=>(nomatch z),λ_=>?_⟩⟩;refine⟨λ_=>?_,λz=>(nomatch z)⟩;refine rc _ ?_;refine rb _ ?_;refine⟨v,u,rfl,⟨big.2.2.1,big.2.2.2,big.1,big.2.1⟩,λz=>?_,λz=>?_⟩
      ·unfold pZ;walk_at "vc";refine rc _ ⟨M.length,(k:Int),_,k,rfl,rfl,ax,kb',?_⟩;rw[store v];have⟨o1,o2⟩:=put (Rat.le_of_lt (dn.mp z));exact RW _ _ ⟨k+1,m4,_,_,by rw[abu];rfl,(),o1,o2,rfl,rfl⟩
      ·have nl:¬val v < val u:=λq=>by rw[dn.mpr q]at z;cases z
       have:=RW _ _ ⟨k+1,m4,best,some (.int (k:Int)),by rw[abu];rfl,(),ou,uF (Rat.not_lt.mp nl),rfl,rfl⟩;exact this
    ·have⟨k,m3,best,o4,ex,km,ou,cu,rfl,rfl⟩:=hj;have m0:m3=0:=by have:=aaX List.length ex;rw[dU]at this;exact this.symm
     have e:k=n:=()
     subst e
     exact fW _ _ ⟨done++[cur],rest,best,_,_,by rw[ed,aaO];rfl,rfl,⟨ou.len,ou.one,λi il t ht=>by
      rcases aa0.mp ht with ht| ht
      ·exact ou.all i il t ht
      ·rw[aa8.mp ht];exact cu i il⟩,rfl,rfl⟩
  ·have⟨done,rest,best,o3,o4,ed,ez,ou,rfl,rfl⟩:=hj;have:rest=[]:=by have:=aaX List.length ez;rw[aac]at this;exact ab5.mp this.symm
   subst this;rw[aa1]at ed;exact h best (by rw[<-ed]at ou;exact ou)
def wa:List Nat->Nat
 | []=>1
 | a::l=>a * wa l
def D9{G:Nat->Nat}{g:Nat->Int×Nat}{Q:Nat->Bool}:∀{l:List Nat},(∀i∈l,1<=G i/\(Q i=true->(g i).2<=G i))->(cn ((l.filter Q).map g)).length<=wa (l.map G)
 | [],_=>aai _
 | i::l,h=>by
  have ih:=D9 (l:=l) λj hj=>h j (aad _ hj);have⟨h1,h2⟩:=h i aae;show _<=G i * wa (l.map G);cases hQ:Q i with
  | false=>
   rw[ab4 (by rw[hQ];decide)];exact aas ih (by have:=Nat.mul_le_mul_right (wa (l.map G)) h1;omega)
  | true=>
   rw[ab3 hQ,aaM];have e:∀(ms:List Nat) (k:Int) (r:List Pl),(ms.flatMap λj:Nat=>r.map λp=>(k,(j:Int))::p).length=ms.length * r.length:=λms k r=>by
    induction ms with
    | nil=>rw[acz,Nat.zero_mul];rfl
    | cons a ms ih=>rw[abZ,aag,aac,ih,aay,Nat.succ_mul,Nat.add_comm]
   show((List.range (g i).2).flatMap λj:Nat=>(cn ((l.filter Q).map g)).map λp=>((g i).1,(j:Int))::p).length<=_;rw[e,aaP];exact Nat.mul_le_mul (h2 hQ) ih
def E7:∀γ:List Rw,wa (γ.map λr=>cH (kindOf r) (Κ r).length)=h9 γ
 | []=>rfl
 | r::rs=>by show _ * wa (rs.map _)=_ * h9 rs;rw[E7 rs]
section
variable{p1 p2 q1 q2:Pl}
def Ih(fw:FW ε γ X C)(hh:Β hand=true):(cn (dD γ hand)).length<=h9 γ:=by
 have e:(List.range γ.length).map (λi=>cH (kindOf (d7 γ i)) (Κ (d7 γ i)).length)=γ.map λr=>cH (kindOf r) (Κ r).length:=by
  refine acG λi=>?_;rw[aal,aal];by_cases il:i < γ.length
  ·rw[aaU il,aaa il];show some (cH (kindOf (d7 γ i)) (Κ (d7 γ i)).length)=some (cH (kindOf γ[i]) (Κ γ[i]).length);rw[jz (aaa il)]
  ·rw[abT (by rw[aaP];omega),abT ()];rfl
 rw[<-E7,<-e];refine D9 λi hi=>?_;have il:=aa4.mp hi;have hi:γ[i]? =some γ[i]:=aaa il;rw[jz hi];generalize γ[i]=r at *
 have one:1<=cH (kindOf r) (Κ r).length:=by
  unfold cH;cases r with
  | fin q=>exact aai _
  | υ k ds=>
   split
   ·exact(e9 fw.pl (aam hi)).l1
   ·exact aai _
 refine⟨one,λz=>?_⟩;have z:bZ γ i=hand:=aaA z;unfold bZ at z;rw[hi]at z;have z:kindOf r=hand:=z;show(Κ r).length<=cH (kindOf r) (Κ r).length;unfold cH;rw[z,aaw hh];exact aai _
def Ph(fw:FW ε γ X C)(dk:gL γ Η)(b1:1<=iK X C)(pX:(12 * iK X C) ^ γ.length < 2 ^ 1030):∃tb,i_ ε γ Η tb:=by have⟨tb,z,N,_,_,_,tab,bot⟩:=(fw.sys dk b1).ex fw.pl.len;exact⟨tb,tab,λi hi=>aaL (bot i hi) pX⟩
def Q6.dk(o:Q6 ε γ p1 p2 tb)(fw:FW ε γ X C):gL γ (cT γ (ai p1 p2) γ.length):=tS (gP (fb fw jC.h1 o.f1) (fb fw jC.h2 o.f2))
def Mc{t t':List Fr}(l:t.length=n)(l':t'.length=n)(ev:∀i,i < n->t'.getD i (0,1)=t.getD i (0,1)):t'=t:=by refine abp (by rw[l,l']) λi h1 h2=>?_;have:=ev i ();rw[aab,aab,aaa h1,aaa h2]at this;exact this
end
def iM{α β:Type}{R:α->β->Prop}{g:α->Dt}{f:β->Dt}{te:DE}{cs:En}{ok:Ms->Prop}:∀{l:List α} {Η:List Dt} {M:Ms} {k:List Dt->Ms->Prop},ok M->(∀a∈l,∀q:DQ,(∀b,R a b->q (f b) M)->te (some (g a)::cs) M q lT)->(∀bs,Paired R l bs->k (Η++bs.map f) M)->ql te cs ok (l.map g) Η M k
 | [],Η,M,k,ho,_,h=>⟨ho,by simpa using h [] .nil⟩
 | a::l,Η,M,k,ho,hf,h=>⟨ho,hf a List.mem_cons_self _ λb rb=>iM ho (λy hy=>hf y (List.mem_cons_of_mem _ hy)) λbs pb=>by simpa using h (b::bs) (.cons rb pb)⟩
def iO{te:DE}{Ω:List Nat}{ρ:En}{q:DQ}{x}{d:Dt}{ok:Ms->Prop}(h:ρ[i]? =some (some d))(hi:lZ M d=some (xs,ok))(hl:xs.length<=sizeLine)(hk:ql te (pv Ω ρ) ok xs [] M (λys M2=>q (.lst ys) M2)):kR (eF (x' i)) te Ω ρ M q x:=by unfold kR eF x';rw[h];dsimp only;rw[hi];exact⟨hl,hk⟩
abbrev JV(t:Pl->Pl->List Fr)(B:List Pl)(p:Pl):Dt:=.lst ((B.map (t p)).map dt)
def yq{α β:Type}{R:α->β->Prop}:∀{l:List α} {bs:List β},Paired R l bs->(∀a∈l,∃b∈bs,R a b)/\∀b∈bs,∃a∈l,R a b
 | _,_,.nil=>⟨λ_ h=>(nomatch h),λ_ h=>(nomatch h)⟩
 | a::l,b::bs,.cons r p=>by
  have⟨h1,h2⟩:=yq p;refine⟨λx hx=>?_,λy hy=>?_⟩
  ·rcases aaC.mp hx with rfl| hx
   ·exact⟨b,aae,r⟩
   ·have⟨y,hy,e⟩:=h1 x hx;exact⟨y,aad _ hy,e⟩
  ·rcases aaC.mp hy with rfl| hy
   ·exact⟨a,aae,r⟩
   ·have⟨x,hx,e⟩:=h2 y hy;exact⟨x,aad _ hx,e⟩
section
variable{g:Bool}{yE:List (List Fr)}{b lo:List Fr}{A B:List Pl}{t:Pl->Pl->List Fr}{p1 p2 p:Pl}
def AK{u v:Rat}:ku (!g) u v↔ku g v u:=by cases g <;> exact Iff.rfl
def Eo{u v:Rat}(h:ku g u v)(h':ku g v u):u=v:=by
 cases g with
 | true=>exact Rat.le_antisymm (show u<=v from h) (show v<=u from h')
 | false=>exact Rat.le_antisymm (show u<=v from h') (show v<=u from h)
def iZ.ok(o:iZ g n q_ q_ b)(h:∀tb∈q_,mP tb n):mP b n:=by
 have m:∀x∈b,∃tb∈q_,x∈tb:=λx hx=>by have⟨i,hi,rfl⟩:=List.mem_iff_getElem.mp hx;have⟨tb,ht,e⟩:=o.one i (by rw[<-o.len];exact hi);rw[aab,aaa hi]at e;have e:b[i]=tb.getD i (0,1):=e;exact⟨tb,ht,by rw[e];exact rC (by rw[(h tb ht).len,<-o.len];exact hi)⟩
 exact⟨o.len,λx hx=>by have⟨tb,ht,hx⟩:=m x hx;exact(h tb ht).red x hx,λx hx=>by have⟨tb,ht,hx⟩:=m x hx;exact(h tb ht).sz x hx⟩
def mP.at(h:mP b n)(il:i < n):Red (b.getD i (0,1)):=h.red _ (rC (by rw[h.len];exact il))
structure Mm(g:Bool)(A B:List Pl)(t:Pl->Pl->List Fr)(tb:List Fr)(n:Nat)(p1 p2:Pl):Prop where
 a:p1∈A
 b:p2∈B
 ok:∀p∈A,∀q∈B,mP (t p q) n
 tok:mP tb n
 low:∀q∈B,∀i,i < n->ku g (val ((t p1 q).getD i (0,1))) (val (tb.getD i (0,1)))
 high:∀p∈A,∀i,i < n->ku (!g) (val ((t p p2).getD i (0,1))) (val (tb.getD i (0,1)))
def Mm.Vk(m:Mm g A B t tb n p1 p2):Mm (!g) B A (λq p=>t p q) tb n p2 p1:=⟨m.b,m.a,λq hq p hp=>m.ok p hp q hq,m.tok,m.high,λq hq i il=>by rw[Bool.not_not];exact m.low q hq i il⟩
def Mm.Wa(m:Mm g A B t tb n p1 p2)(hp:p∈A):∀x∈B.map (t p),mP x n:=λx hx=>by have⟨q,hq,rfl⟩:=aah.mp hx;exact m.ok p hp q hq
def Mm.U7(m:Mm g A B t tb n p1 p2)(hp:p∈A)(o:iZ g n (B.map (t p)) (B.map (t p)) lo)(il:i < n):ku g (val (tb.getD i (0,1))) (val (lo.getD i (0,1))):=(AK.mp (m.high p hp i il)).trans (o.all i il _ (aah.mpr ⟨p2,m.b,rfl⟩))
def II(h:mP b n)(h':mP tb n)(e:∀i,i < n->val (b.getD i (0,1))=val (tb.getD i (0,1))):b=tb:=Mc h'.len h.len λi il=>yM (h.at il) (h'.at il) (e i il)
def Mm.X4(m:Mm g A B t tb n p1 p2)(o:iZ g n (B.map (t p1)) (B.map (t p1)) lo):lo=tb:=II (o.ok (m.Wa m.a)) m.tok λi il=>Eo (g:=g) (by
 have⟨x,hx,e⟩:=o.one i il;have⟨q,hq,rfl⟩:=aah.mp hx
 rw[e];exact m.low q hq i il) (m.U7 m.a o il)
def Mm.all(m:Mm g A B t tb n p1 p2)(h:Paired (λp lo=>iZ g n (B.map (t p)) (B.map (t p)) lo) A yE):(∀x∈yE,mP x n)/\tb∈yE:=by
 have⟨h1,h2⟩:=yq h;refine⟨λx hx=>?_,?_⟩
 ·have⟨p,hp,o⟩:=h2 x hx;exact o.ok (m.Wa hp)
 ·have⟨x,hx,o⟩:=h1 p1 m.a;rw[<-m.X4 o];exact hx
def Mm.top(m:Mm g A B t tb n p1 p2)(h:Paired (λp lo=>iZ g n (B.map (t p)) (B.map (t p)) lo) A yE)(o:iZ (!g) n yE yE b):b=tb:=by
 have⟨l1,l2⟩:=m.all h;refine II (o.ok l1) m.tok λi il=>Eo (g:=g) ?_ ?_
 ·exact AK.mp (o.all i il tb l2)
 ·have⟨x,hx,e⟩:=o.one i il;have⟨p,hp,o'⟩:=(yq h).2 x hx;rw[e];exact m.U7 hp o' il
end
def MD(a b:List Fr):∃c,ow M 2 (dt a) (dt b) c/\(a=b->c=true):=by
 by_cases e:a=b
 ·subst e;exact⟨true,ye rfl rfl,λ_=>rfl⟩
 ·by_cases l:a.length=b.length
  ·refine⟨_,ow.lst (f:=λj=>(List.range 2).all (λk=>if k=0 then qL (.int (a.getD j (0,1)).1) (.int (b.getD j (0,1)).1) else qL (.int (a.getD j (0,1)).2) (.int (b.getD j (0,1)).2))&&2==2) rfl rfl (by rw[aac,aac,l]) (λj d e hd he=>?_),λq=>aaJ q e⟩;rw[aal]at hd he;have⟨p,hp,rfl⟩:=ab8.mp hd;have⟨q,hq,rfl⟩:=ab8.mp he;rw[show a.getD j (0,1)=p by rw[aab,hp];rfl,show b.getD j (0,1)=q by rw[aab,hq];rfl];exact ow.tup (ds:=[.int p.1,.int p.2]) (es:=[.int q.1,.int q.2]) λk d e hd he=>by
    match k with
    | 0=>cases hd;cases he;exact(ow.flat (x:=.int p.1) (y:=.int q.1) rfl rfl:ow M 0 (.int p.1) (.int q.1) (qL (.int p.1) (.int q.1)))
    | 1=>cases hd;cases he;exact(ow.flat (x:=.int p.2) (y:=.int q.2) rfl rfl:ow M 0 (.int p.2) (.int q.2) (qL (.int p.2) (.int q.2)))
    | k+2=>cases hd
  ·exact⟨false,ow.len rfl rfl (by rw[aac,aac];exact l),λq=>aaJ q e⟩
def DN{d:Dt}{q:DQ}{yE:List (List Fr)}(hd:kQ M d=some (yE.map dt))(h:tb∈yE)(hq:q (.bl true) M):Qy 2 (dt tb) d M q:=by
 have ex:∀j:Nat,∃c,∀z,(yE.map dt)[j]? =some z->ow M 2 z (dt tb) c/\(z=dt tb->yE[j]? =some tb->c=true):=λj=>by
  cases e:yE[j]? with
  | none=>exact⟨false,λz hz=>by rw[aal,e]at hz;cases hz⟩
  | some a=>
   have⟨c,h1,h2⟩:=MD (M:=M) a tb;exact⟨c,λz hz=>by rw[aal,e]at hz;cases hz;exact⟨h1,λ_ q=>h2 (aax q)⟩⟩
 refine⟨_,λj=>(ex j).choose,hd,λj z hz=>((ex j).choose_spec z hz).1,?_⟩;have⟨j,hj,rfl⟩:=List.mem_iff_getElem.mp h;have e:yE[j]? =some yE[j]:=aaa hj;have:=((ex j).choose_spec (dt yE[j]) (by rw[aal,e];rfl)).2 rfl e;rw[show(List.range (yE.map dt).length).any (λj=>(ex j).choose)=true from List.any_eq_true.mpr ⟨j,aa4.mpr (by rw[aac];exact hj),this⟩];exact hq
def Pm(fw:FW ε γ X C)(b1:1<=iK X C)(pX:(12 * iK X C) ^ γ.length < 2 ^ 1030):∃t:Pl->Pl->List Fr,∀p q,sC γ "one" p->sC γ "other" q->i_ ε γ (cT γ (ai p q) γ.length) (t p q):=by
 classical
 refine⟨λp q=>if h:∃tb,i_ ε γ (cT γ (ai p q) γ.length) tb then h.choose else [],λp q hp hq=>?_⟩;have h:=Ph fw (tS (gP hp hq)) b1 pX;show i_ ε γ _ (dite _ _ _);rw[dif_pos h];exact h.choose_spec
def wV{α β:Type}{F:α->β}:∀{l:List α} {bs:List β},Paired (λa b=>b=F a) l bs->bs=l.map F
 | _,_,.nil=>rfl
 | _::_,_::_,.cons r p=>by rw[r,wV p];rfl
def zc{M:Ms}:∀rs:List Rw,Paired (kg M) (rs.map bo) rs
 | []=>.nil
 | r::rs=>.cons (Nv _ r) (zc rs)
def HS{q:DQ}{A:Addr}(h:q (aD A ε γ) M):sD M q (.loc M.length) ((M++[MO.ins A [] []]).set M.length (.ins A ["kept_share","kept_rows"] [Ξ ε,.lst (γ.map bo)])):=by rw[cY];exact jN (d':=aD A ε γ) (.XO (Nat.le_refl _) (by simp) (.cons (.old (m8 ε)) (.cons (.old (tN γ)) .nil))) h
def fP:Ε ["_law_script","_law_share","_law_rows","_law_floor_here","_law_due","_law_ones","_law_others","_law_tables","_law_row","_law_lows","_law_highs","_law_j"] ["_law_script"] (τ Qe):=.of rfl
def Q7(F:cX K "law" "law" Qe f fd)(E:Ev K mg w Cm){Fy:Addr}{FA:FuncData}(mM:aB P w K mg base 5 "_law_floor" ["_law_script"] DY Fy FA){CH:Addr}{BE:FuncData}(kC:Qt P w K mg base 5 "Floor" Cm ["self","share","rows"] (N_ Cm) CH BE){Ie:Addr}{Iw:FuncData}(qh:aB P w K mg base 1 "_law_copy" ["_law_rows"] Kb Ie Iw){NN:Addr}{LN:FuncData}(uf:aB P w K mg base 11 "worths" ["floor"] (A6 Cm) NN LN){GV:Addr}{FC:FuncData}(jo:aB P w K mg base 2 "_law_table" ["_law_table_here","_law_many"] Le GV FC){wR:Addr}{wZ:FuncData}(fL:aB P w K mg base 1 "_law_all_plans" ["_law_rows","_law_hand"] Ou wR wZ){Gg:Addr}{Fu:FuncData}(mD:aB P w K mg base 8 "worths_of" ["floor","plan_one","plan_other"] (EZ Cm) Gg Fu){uJ:Addr}{uE:FuncData}(cq:aB P w K mg base 2 "_law_outermost" ["_law_tables","_law_greatest"] Sx uJ uE):av P w K mg base (bY P w) 12 f fd ["_law_script"] (cK K Qp):=by
 refine F.dE fP (λds M q x h=>?_) (λaX A outer s H E' hr=>⟨_,(η (MR (bK (ao mM hr ξ (Τ (jv 0) θ))) (qa rfl (cR (au (i:=1) fP.nd rfl (Or.inl rfl)) (cR (au (i:=2) fP.nd rfl (Or.inr rfl)) lC))))
   (η (Γ 3 fP.nd (bK (P9 kC hr ξ (Τ (jv 1) (ι (ao qh hr ξ (Τ (jv 2) θ)) θ aS)))))
   (η (Γ 4 fP.nd (ao uf hr ξ (Τ (jv 3) θ)))
   (η (aI (hV (bL (ao jo hr ξ (Τ (jv 4) (ι (cQ E.bJ (Τ (jv 2) θ)) θ aS))))) (μ (Ζ CB)) Υ)
   (η (Γ 5 fP.nd (ao fL hr ξ (Τ (jv 2) (ι jV θ eE))))
   (η (k4 (Γ 6 fP.nd (ao fL hr ξ (Τ (jv 2) (ι jV θ eE)))))
   (η (fX (i:=7) fP.nd rfl (Or.inl rfl) (ys:=["_law_floor_here","_law_others"]) (Ω:=[3,6]) (.of fP rfl rfl rfl) (aV (jv 5)) (λC s H fp=>(dX (ys:=["_law_floor_here","_law_one"]) (Ω:=[1,0]) (.inner (xs:=["_law_one"]) (ys:=["_law_floor_here","_law_others"]) (Ω:=[3,6]) (.of fP rfl rfl rfl) rfl rfl) (aV (jv 2)) (λC s H fp=>(bK (ao mD hr (fv (P:=P) (w:=w)) (Τ (jv 1) (Τ (jv 2) (Τ (jv 0) θ)))))))))
   (η (cC (aV (jv 7)) (au (i:=8) fP.nd rfl (Or.inl rfl)) aG (μ (aI (hV (bL (OI E.y_ (ι (dX (ys:=["_law_rows"]) (Ω:=[2]) (.of fP rfl rfl rfl) (aV (jv 8)) (λC s H fp=>(ao jo hr (fv (P:=P) (w:=w)) (Τ (jv 0) (ι (cQ E.bJ (Τ (jv 1) θ)) θ aS))))) θ)))) (μ (Ζ CB)) Υ)))
   (η (fX (i:=9) fP.nd rfl (Or.inl rfl) (ys:=[]) (Ω:=[]) (.of fP rfl rfl rfl) (aV (jv 7)) (λC s H fp=>(bK (ao cq hr (fv (P:=P) (w:=w)) (Τ (jv 0) (ι CB θ eE))))))
   (η (Γ 10 fP.nd (hG θ))
   (η (hJ (b_ E.bR (ι (cQ E.bJ (Τ (jv 6) θ)) θ aS)) (au (i:=11) fP.nd rfl (Or.inr rfl)) aG (μ (dh (dJ (jv 10) (ι (bK (ao cq hr ξ (ι (dX (ys:=["_law_j"]) (Ω:=[11]) (.of fP rfl rfl rfl) (aV (jv 7)) (λC s H fp=>(Μ (jv 0) (jv 1)))) (ι CB θ eE)))) θ aS)))))
   (η (aI (JW.jt (l9 (HR 2 hr (bK (ao cq hr ξ (Τ (jv 9) (ι CB θ eE)))) (jv 4)) (j8 (HR 2 hr (bK (ao cq hr ξ (Τ (jv 10) (ι CB θ eE)))) (jv 4))))) (μ (Ζ CB)) Υ)
   (μ (Ζ (gY (Oj 2 hr (jv 4) (jv 9)) (kB (Oj 2 hr (jv 4) (jv 10)))))))))))))))))),λds M q x h=>?_⟩)
 ·have⟨ns,rfl,_⟩:=h;rfl
 ·have⟨ns,rfl,nl,hq⟩:=h;refine⟨ns,rfl,nl,λε γ cJ lf=>jN (d':=.tup [Ξ ε,.lst (γ.map bo)]) (.tup (.cons (.old (m8 ε)) (.cons (.BR (Nat.le_refl _) (by simp) (ix.old (tN γ))) .nil))) ?_⟩;have fw:=lf.fw;have⟨j3,pX⟩:=lf.sz;have b1:1<=iK (xF cJ) (cF cJ):=by cases cJ <;> decide
  have lY:=lf.Bj;have n1:=lf.n1;have ro:∀r∈γ,gc r/\fK r γ.length=true:=λr hr=>(lf.row r hr).1.1;have dr:∀k ds,Rw.υ k ds∈γ->1<=ds.length/\ds.length<=6:=λk ds hm=>⟨(e9 fw.pl hm).l1,(e9 fw.pl hm).l6⟩;have np:∀{z:Str},Β z=true->(cn (dD γ z)).length<=1000:=λhz=>aas (Ih fw hz) (aas lf.pr @_);refine⟨γ,rfl,lY,λr hr=>(ro r hr).1,?_⟩;refine⟨M.length,.lst (γ.map bo),ε,γ.map bo,γ,λ_=>True,rfl,ax,rfl,zc γ,lf.sh,n1,lY,ro,rfl,HS ?_⟩;refine⟨ε,γ,_,_,rfl,fw,j3,pX,b1,np @_,λp pa tb E fp b n=>?_⟩;have opt:=T4 fw fp b n;have tok:=opt.wt.ok fw (opt.dk fw) b1;have hA:∀{p},p∈cn (dD γ "one")->sC γ "one" p:=λh=>fb fw jC.h1 (lD h);have hB:∀{p},p∈cn (dD γ "other")->sC γ "other" p:=λh=>fb fw jC.h2 (lD h);have⟨t,ht'⟩:=Pm fw b1 pX;have ht:∀p∈cn (dD γ "one"),∀q∈cn (dD γ "other"),i_ ε γ (cT γ (ai p q) γ.length) (t p q):=λp hp q hq=>ht' p q (hA hp) (hB hq);have mm:Mm false (cn (dD γ "one")) (cn (dD γ "other")) t tb γ.length p pa:=⟨gT opt.f1,gT opt.f2,λp hp q hq=>(ht p hp q hq).ok fw (tS (gP (hA hp) (hB hq))) b1,tok,λq hq i il=>opt.low fw b1 (hB hq) (ht _ (gT opt.f1) q hq) il,λp hp i il=>opt.high fw b1 (hA hp) (ht p hp _ (gT opt.f2)) il⟩;have lA:=np (z:="one") @_;have lB:=np (z:="other") @_;have sl:∀{z:Nat},z<=1000->z<=sizeLine:=λh=>aas h @_;clear b n fp;walk_at "vc";refine(az (xs:=γ.map bo) rfl ?_:gw [Dt.lst (γ.map bo)] _ _);rw[aac];refine⟨.lst (tb.map Ξ),tb,γ.length,_,rfl,An,tok,λz=>(nomatch z),λ_=>?_⟩;refine⟨γ,"one",rfl,lY,@_,dr,np @_,λM1 j1 x1 pa1=>?_⟩;refine⟨λρ M2=>∃j2,Hv M2 j1 (cn (dD γ "one"))/\Hv M2 j2 (cn (dD γ "other"))/\ρ=[some (.jR ns),some (Ξ ε),some (.lst (γ.map bo)),some (aD Cm ε γ),some (.lst (tb.map Ξ)),some (.loc j1),some (.loc j2),none,none,none,none,none],?_,?_⟩
  ·exact⟨γ,"other",rfl,lY,@_,dr,np @_,λM2 j2 x2 RQ=>⟨j2,pa1.mono x2,RQ,rfl⟩⟩
  clear pa1 x1;rintro ρ2 M2 ⟨j2,⟨ka,aj,ak,ae⟩,⟨kb,bj,bk,be⟩,rfl⟩;generalize cn (dD γ "one")=A at *
  generalize cn (dD γ "other")=B at *
  have mA:∀x∈ka,x.2∈A:=λx hx=>by rw[<-ae];exact aah.mpr ⟨x,hx,rfl⟩
  have mB:∀x∈kb,x.2∈B:=λx hx=>by rw[<-be];exact aah.mpr ⟨x,hx,rfl⟩
  have nA:ka.length=A.length:=by rw[<-ae,aac]
  have nB:kb.length=B.length:=by rw[<-be,aac]
  walk_at "vc";refine iO rfl (nE aj) (by rw[aac,nA];exact sl lA) ?_;refine iM (R:=λx row=>row=B.map (t x.2)) (g:=λx:Nat×Pl=>Dt.loc x.1) (f:=λrow:List (List Fr)=>Dt.lst (row.map dt)) aj (λx hx q' qp=>?_) (λbs pb=>?_)
  ·refine iO rfl (nE bj) (by rw[aac,nB];exact sl lB) ?_;refine iM (R:=λy mC=>mC=t x.2 y.2) (g:=λy:Nat×Pl=>Dt.loc y.1) (f:=dt) bj (λy hy q2 Oh=>?_) (λbs pb=>?_)
   ·refine⟨ε,γ,x.1,y.1,x.2,y.2,_,_,rfl,ak x hx,bk y hy,fw,j3,pX,gP (hA (mA x hx)) (hB (mB y hy)),λmC wt m1 m2=>?_⟩;refine jN (d':=dt mC) (.BR (abM _ _) (by rw[abz];rfl) (ix.old (jy _))) (Oh mC ?_);exact(fw.sys (tS (gP (hA (mA x hx)) (hB (mB y hy)))) b1).uniq wt.tab (ht _ (mA x hx) _ (mB y hy)).tab
   ·rw[aaQ];refine qp bs ?_;rw[wV (F:=λy:Nat×Pl=>t x.2 y.2) pb,<-be,aaK];rfl
  rw[aaQ,wV (F:=λx:Nat×Pl=>B.map (t x.2)) pb,show ka.map (λx:Nat×Pl=>B.map (t x.2))=A.map (λp=>B.map (t p)) by rw[<-ae,aaK];rfl];clear pb;dsimp only[oh,eF];walk_at "vc";rw[show(A.map λp=>B.map (t p)).map (λrow:List (List Fr)=>Dt.lst (row.map dt))=A.map (JV t B) by rw[aaK];rfl];have bne:B≠[]:=λe=>by have:=mm.b;rw[e]at this;cases this
  have ane:A≠[]:=λe=>by have:=mm.a;rw[e]at this;cases this
  have Tr:∀p∈A,∀x∈B.map (t p),mP x γ.length:=λp hp=>mm.Wa hp;refine bx (λzs ρ' M'=>M'=M2/\∃(rest:List Pl) (o8:Option Dt),zs=rest.map (JV t B)/\(∀p∈rest,p∈A)/\ρ'=[some (.jR ns),some (Ξ ε),some (.lst (γ.map bo)),some (aD Cm ε γ),some (.lst (tb.map Ξ)),some (.loc j1),some (.loc j2),some (.lst (A.map (JV t B))),o8,none,none,none]) (λzs ρ' M' hj=>trivial) (λx zs ρ' M' hj fW=>?_) (λρ' M' hj=>?_) _ _ _ ⟨rfl,A,none,rfl,λ_ h=>h,rfl⟩
  ·have⟨rfl,rest,o8,ez,fZ,rfl⟩:=hj;cases rest with
   | nil=>cases ez
   | cons p rest=>
    cases ez;walk_at "vc";refine iO (d:=.lst ((B.map (t p)).map dt)) rfl rfl (by rw[aac,aac];exact sl lB) ?_;refine iM (R:=λ_ c=>c=true) (g:=dt) (f:=Dt.bl) trivial (λa ha q' qp=>?_) (λbs pb=>?_)
    ·walk_at "vc";refine(az (xs:=γ.map bo) rfl ?_:gw [Dt.lst (γ.map bo)] _ _);rw[aac];exact⟨.lst (a.map Ξ),a,γ.length,_,rfl,An,Tr p (fZ p aae) a ha,qp true rfl⟩
    ·rw[aaQ];refine⟨bs,rfl,?_⟩;rw[show bs.all id=true from abN.mpr λc hc=>by have⟨a,_,e⟩:=(yq pb).2 c hc;exact e];refine⟨λz=>(nomatch z),λ_=>?_⟩;exact fW _ _ ⟨rfl,rest,_,rfl,λp hp=>fZ p (aad _ hp),rfl⟩
  ·have⟨rfl,rest,o8,ez,fZ,rfl⟩:=hj;clear fZ ez;walk_at "vc";refine iO (d:=.lst (A.map (JV t B))) rfl rfl (by rw[aac];exact sl lA) ?_;refine iM (R:=λp lo=>iZ false γ.length (B.map (t p)) (B.map (t p)) lo) (g:=JV t B) (f:=dt) trivial (λp hp q' qp=>?_) (λyE pl=>?_)
   ·exact⟨JV t B p,false,B.map (t p),γ.length,_,rfl,rF,λe=>bne (List.map_eq_nil_iff.mp e),lY,Tr p hp,λbest o=>cf (jy _) (qp best o)⟩
   rw[aaQ];have⟨okl,inl⟩:=mm.all pl;refine⟨@_,?_⟩;refine(az (d:=.loc j2) (r9 (bc bj)) ?_:gw [.loc j2] _ _);rw[aac,nB];refine⟨(),?_⟩;rw[show((B.length:Int)).toNat=B.length by omega];refine cN (λzs ρ' M3=>∃(j m:Nat) (QK:List (List Fr)) (Y1:Option Dt),zs=dN (j:Int) m/\j+m=B.length/\Paired (λq hi=>iZ true γ.length (A.map λp=>t p q) (A.map λp=>t p q) hi) (B.take j) QK/\M3=M'++[MO.lst (QK.map dt)]/\ρ'=[some (.jR ns),some (Ξ ε),some (.lst (γ.map bo)),some (aD Cm ε γ),some (.lst (tb.map Ξ)),some (.loc j1),some (.loc j2),some (.lst (A.map (JV t B))),o8,some (.lst (yE.map dt)),some (.loc M'.length),Y1]) (λx zs ρ' M3 hj fW=>?_) (λρ' M3 hj=>?_) _ _ _ ⟨0,B.length,[],none,rfl,(),.nil,rfl,rfl⟩
   ·have⟨j,m,QK,Y1,ex,jm,ph,rfl,rfl⟩:=hj;have⟨m',rfl,rfl,rfl⟩:=cv ex;have jl:j < B.length:=()
    have jm:B[j]∈B:=aaF jl;have hl:QK.length<=1000:=by have:=ph.length;rw[ab6]at this;omega
    walk_at "vc";refine⟨⟨_,_,rfl,ax⟩,?_⟩;dsimp only[Eu,RD,JR];refine iO (d:=.lst (A.map (JV t B))) rfl rfl (by rw[aac];exact sl lA) ?_;refine iM (R:=λp mC=>mC=t p B[j]) (g:=JV t B) (f:=dt) trivial (λp hp q' qp=>?_) (λbs pb=>?_)
    ·walk_at "vc";refine(Ι (d:=JV t B p) rfl (Ο (j:=j) (v:=dt (t p B[j])) (by rw[aal,aal,aaa jl];rfl)) ?_:fm (JV t B p) (.int (j:Int)) _ _);exact qp _ rfl
    rw[aaQ,wV (F:=λp=>t p B[j]) pb];refine⟨_,true,A.map λp=>t p B[j],γ.length,_,rfl,rF,λe=>ane (List.map_eq_nil_iff.mp e),lY,λx hx=>by have⟨p,hp,rfl⟩:=aah.mp hx;exact mm.ok p hp _ jm,λbest o=>cf (jy _) ?_⟩;refine⟨M'.length,_,_,rfl,rfl,ax,by rw[aac];exact aaV hl @_,?_⟩;rw[cY];refine fW _ _ ⟨j+1,m',QK++[best],_,by rw[abu];rfl,(),?_,by rw[aaW];rfl,rfl⟩;rw[List.take_succ,aaa jl];exact qO ph (.cons o .nil)
   ·have⟨j,m,QK,Y1,ex,jm,ph,rfl,rfl⟩:=hj;have m0:m=0:=by have:=aaX List.length ex;rw[dU]at this;exact this.symm
    rw[abD ()]at ph;have⟨okh,inh⟩:=mm.Vk.all ph;walk_at "vc";refine⟨_,true,yE,γ.length,_,rfl,rF,List.ne_nil_of_mem inl,lY,okl,λb o=>cf (jy _) ?_⟩;cases mm.top pl o;refine⟨true,.inr ⟨_,rfl⟩,.inr ⟨_,rfl⟩,ye rfl rfl,λz=>(nomatch z),λ_=>?_⟩;refine⟨_,false,QK,γ.length,_,rfl,HH ax,List.ne_nil_of_mem inh,lY,okh,λb o=>cf (jy _) ?_⟩;cases mm.Vk.top ph o;exact⟨true,.inr ⟨_,rfl⟩,.inr ⟨_,rfl⟩,ye rfl rfl,λz=>(nomatch z),λ_=>DN rfl inl ⟨λ_=>DN (Q_ (qR ax)) inh (hq _),λz=>(nomatch z)⟩⟩
structure FT(K:fI)(f:Addr)(x:Str)(st:Stmt):Prop where
 a:PySem.W.nsIn K mainGlobals x=some (some (.ref f))
 e:∃fd,cX K x x st f fd
structure FM(K:fI)(C f:Addr)(m x:Str)(st:Stmt):Prop where
 a:PySem.W.findIn K (.ref C) m=some (some (.ref f))
 i:PySem.W.isFn K (.ref f)=true
 e:∃fd,cX K m x st f fd
structure FV(K:fI)(f:Addr)(x:Str)(st:Stmt)(U:Addr)(its:Array Value):Prop where
 a:PySem.W.nsIn K mainGlobals x=some (some (.ref f))
 e:∃fd,FG K x st U its f fd
section
variable{K:fI}{C:Addr}{m x:Str}{st:Stmt}{oc:Value}{od an:Option Addr}{Be:Array (Option Value)}{kV doc pm aX ct:Value}
def FT.of(a:PySem.W.nsIn K mainGlobals x=some (some (.ref f)))(l:K.lookup f=some ⟨oc,od,.func (PySem.W.fnOf x x (gz st) (dY st) (τ st) .none kV doc pm an aX ct),Be⟩)(c:PySem.W.codeIn K aX x=true)(k:PySem.W.keepIn K (.ref f)=true):FT K f x st:=⟨a,_,Kv l c k⟩
def FM.of(a:PySem.W.findIn K (.ref C) m=some (some (.ref f)))(i:PySem.W.isFn K (.ref f)=true)(l:K.lookup f=some ⟨oc,od,.func (PySem.W.fnOf m x (gz st) (dY st) (τ st) .none kV doc pm an aX ct),Be⟩)(c:PySem.W.codeIn K aX x=true)(k:PySem.W.keepIn K (.ref f)=true):FM K C f m x st:=⟨a,i,_,Kv l c k⟩
def FV.of{U:Addr}{tc:Value}{td:Option Addr}{tn:Nat}{ts:Array (Option Value)}(a:PySem.W.nsIn K mainGlobals x=some (some (.ref f)))(l:K.lookup f=some ⟨oc,od,.func (PySem.W.fnOf x x (gz st) (dY st) (τ st) (.ref U) kV doc pm an aX ct),Be⟩)(c:PySem.W.codeIn K aX x=true)(k:PySem.W.keepIn K (.ref f)=true)(t:K.lookup U=some ⟨tc,td,.seq its tn,ts⟩):FV K f x st U its:=⟨a,_,⟨_,_,_,_,_,_,_,_,_,rfl,l,c⟩,⟨_,_,t,rfl⟩,k⟩
end
section
variable{P:List Value->Prop}
def Uq(h:P []):∀us:List Value,us.length=0->P us
 | [],_=>h
 | _::_,e=>nomatch e
def eR(h:∀a0:Value,P [a0]):∀us:List Value,us.length=1->P us
 | [],e=>nomatch e
 | a::us,e=>Uq (P:=λus=>P (a::us)) (h a) us (Nat.succ.inj e)
def b7(h:∀a0 a1:Value,P [a0,a1]):∀us:List Value,us.length=2->P us
 | [],e=>nomatch e
 | a::us,e=>eR (P:=λus=>P (a::us)) (h a) us (Nat.succ.inj e)
def hI(h:∀a0 a1 a2:Value,P [a0,a1,a2]):∀us:List Value,us.length=3->P us
 | [],e=>nomatch e
 | a::us,e=>b7 (P:=λus=>P (a::us)) (h a) us (Nat.succ.inj e)
def vm(h:∀a0 a1 a2 a3:Value,P [a0,a1,a2,a3]):∀us:List Value,us.length=4->P us
 | [],e=>nomatch e
 | a::us,e=>hI (P:=λus=>P (a::us)) (h a) us (Nat.succ.inj e)
def Td(h:∀a0 a1 a2 a3 a4:Value,P [a0,a1,a2,a3,a4]):∀us:List Value,us.length=5->P us
 | [],e=>nomatch e
 | a::us,e=>vm (P:=λus=>P (a::us)) (h a) us (Nat.succ.inj e)
end
def x9{K:fI}(h:PySem.W.subIn K (.type "int") (.type "bool")=some false):PySem.W.kitOne K (.type "int") (.type "bool")=some false:=by unfold PySem.W.kitOne PySem.W.kitCls;rw[aav (by decide+kernel)];show(if PySem.W.kitMeta "bool"=true then _ else _)=_;rw[aaw (by decide+kernel)];exact h
def yV{K:fI}(h:PySem.W.subIn K (.type "int") (.type "str")=some false):PySem.W.kitOne K (.type "int") (.type "str")=some false:=by unfold PySem.W.kitOne PySem.W.kitCls;rw[aav (by decide+kernel)];show(if PySem.W.kitMeta "str"=true then _ else _)=_;rw[aaw (by decide+kernel)];exact h
def uZ{K:fI}(h:PySem.W.subIn K (.type "tuple") (.type "str")=some false):PySem.W.kitOne K (.type "tuple") (.type "str")=some false:=by unfold PySem.W.kitOne PySem.W.kitCls;rw[aav (by decide+kernel)];show(if PySem.W.kitMeta "str"=true then _ else _)=_;rw[aaw (by decide+kernel)];exact h
def vb{K:fI}(h:PySem.W.subIn K (.type "tuple") (.type "int")=some false):PySem.W.kitOne K (.type "tuple") (.type "int")=some false:=by unfold PySem.W.kitOne PySem.W.kitCls;rw[aav (by decide+kernel)];show(if PySem.W.kitMeta "int"=true then _ else _)=_;rw[aaw (by decide+kernel)];exact h
def w6{K:fI}(h:PySem.W.subIn K (.type "list") (.type "str")=some false):PySem.W.kitOne K (.type "list") (.type "str")=some false:=by unfold PySem.W.kitOne PySem.W.kitCls;rw[aav (by decide+kernel)];show(if PySem.W.kitMeta "str"=true then _ else _)=_;rw[aaw (by decide+kernel)];exact h
def wG{K:fI}(h:PySem.W.subIn K (.type "list") (.type "int")=some false):PySem.W.kitOne K (.type "list") (.type "int")=some false:=by unfold PySem.W.kitOne PySem.W.kitCls;rw[aav (by decide+kernel)];show(if PySem.W.kitMeta "int"=true then _ else _)=_;rw[aaw (by decide+kernel)];exact h
def sU{K:fI}(h:PySem.W.subIn K (.type "tuple") (.type "list")=some false):PySem.W.kitOne K (.type "tuple") (.type "list")=some false:=by unfold PySem.W.kitOne PySem.W.kitCls;rw[aav (by decide+kernel)];show(if PySem.W.kitMeta "list"=true then _ else _)=_;rw[aaw (by decide+kernel)];exact h
def sf{K:fI}(h:PySem.W.subIn K (.type "list") (.type "tuple")=some false):PySem.W.kitOne K (.type "list") (.type "tuple")=some false:=by unfold PySem.W.kitOne PySem.W.kitCls;rw[aav (by decide+kernel)];show(if PySem.W.kitMeta "tuple"=true then _ else _)=_;rw[aaw (by decide+kernel)];exact h
def Rm{K:fI}{a:Addr}{t1 t2 t3:Tok}(h1:PySem.W.nsIn K a "one"=some (some (.str "other" t1)))(h2:PySem.W.nsIn K a "other"=some (some (.str "one" t2)))(h3:PySem.W.nsIn K a "chance"=some (some (.str "chance" t3))){y:Str}(h:([("one","other"),("other","one"),("chance","chance")]:List (Str×Str)).lookup z=some y):∃tk,PySem.W.nsIn K a z=some (some (.str y tk)):=by
 rw[abo]at h;split at h
 ·rename_i e;cases abw.mp e;cases h;exact⟨_,h1⟩
 rw[abo]at h;split at h
 ·rename_i e;cases abw.mp e;cases h;exact⟨_,h2⟩
 rw[abo]at h;split at h
 ·rename_i e;cases abw.mp e;cases h;exact⟨_,h3⟩
 cases h
open PySem.W in
def all_mk{l:OpenLaw}{w:World}{K:Frag}{h:Heap}{fa Cm Eb Tp f1 f2 f3 f4 f5 f6 f7 f8 f9 f10 f11 f12 f13 f14 f15 f16 f17 f18 f19 f20 f21 f22 f23 f24 f25 f26 f27 f28 f29 f30 f31 f32 f33 f34 f35 f36 f37 f38 f39 f40 f41 f42 f43 f44 f45 f46 f47 f48 f49 f50 f51 f52 f53 f54 f55 f56 f57 f58 f59 f60 f61 f62 f63 f64 f65 f66:Addr}(X:K.In h)(G:h.Ns mainGlobals mg)(hfa:mg "law"=some (.ref fa))
  {yw uS vf lU:Tok}
  (w_:nsIn K mainGlobals "MOST_DOORS"=some (some (.int (6) yw)))
  (uW:nsIn K mainGlobals "MOST_BOTTOM"=some (some (.int (1000000) uS)))
  (uT:nsIn K mainGlobals "MOST_PLACES"=some (some (.int (12) vf)))
  (lQ:nsIn K mainGlobals "MOST_SHARE_BOTTOM"=some (some (.int (1000) lU)))
  (Ng:nsIn K mainGlobals "Floor"=some (some (.ref Cm))) (fN:plainGet K Cm Str.empty=true) (fC:hasDictIn K Cm=true) (fB:plainOver K Cm=true) (fJ:findIn K (.ref Cm) "__setattr__"=some (some (.builtin "object.__setattr__"))) (Nj:makesIn K Cm=true) (L7:keepIn K (.ref Cm)=true)
  (w4:findIn K (.ref Cm) "kept_rows"=some none)
  (uN:findIn K (.ref Cm) "kept_share"=some none)
  {HC Io:Tok} {Kc:Option Addr} {Jl:Array (Option Value)} {IJ:Nat} (Ki:nsIn K mainGlobals "HANDS"=some (some (.ref Eb))) (JC:K.lookup Eb=some ⟨.type "tuple",Kc,.seq #[(.str "one" HC),(.str "other" Io)] IJ,Jl⟩)
  (AS:subIn K (.type "int") (.type "bool")=some false)
  (Bp:subIn K (.type "int") (.type "str")=some false)
  (yb:subIn K (.type "tuple") (.type "str")=some false)
  (xD:subIn K (.type "tuple") (.type "int")=some false)
  (AL:subIn K (.type "list") (.type "str")=some false)
  (zj:subIn K (.type "list") (.type "int")=some false)
  (u7:subIn K (.type "tuple") (.type "list")=some false)
  (uX:subIn K (.type "list") (.type "tuple")=some false)
  (t1:FT K f1 "_law_at" Bs)
  (t2:FT K f2 "_law_by_digits" jr)
  (t3:FT K f3 "_law_lowest" mO)
  (t4:FT K f4 "_law_share_of" k8)
  (t5:FT K f5 "_law_pay" yo)
  (t6:FT K f6 "_law_stream" mY)
  (t7:FT K f7 "_law_things" mG)
  (t8:FT K f8 "_law_doors" pJ)
  (t9:FT K f9 "_law_floor" pH)
  (t10:FT K f10 "fits_share" mh)
  (t11:FT K f11 "fits_pay" um)
  (t12:FT K f12 "fits_door" oG)
  (t13:FT K f13 "fits_doors" mZ)
  (t14:FT K f14 "common_divisor" g7)
  (t15:FT K f15 "common_bottom" iG)
  (t16:FT K f16 "fits_chances" jD)
  (t17:FT K f17 "fits_row" tD)
  (t18:FT K f18 "copied_row" mi)
  (t19:FM K Cm f19 "__init__" "Floor.__init__" mK)
  (t20:FT K f20 "_law_copy" r6)
  (t21:FM K Cm f21 "size" "Floor.size" mV)
  (t22:FM K Cm f22 "kind" "Floor.kind" mq)
  (t23:FT K f23 "places_of" oB)
  (t24:FT K f24 "first_plan" nj)
  (t25:FT K f25 "started" uA)
  (t26:FM K Cm f26 "doors" "Floor.doors" kO)
  (t27:FT K f27 "has_door" sO)
  (t28:FT K f28 "doors_of" rY)
  (t29:FT K f29 "with_weights" jL)
  (t30:FT K f30 "number_of_head" ir)
  (t31:FT K f31 "moved_ahead" kK)
  (t32:FT K f32 "cleared_line" jI)
  (t33:FT K f33 "cleared" rD)
  (t34:FT K f34 "fraction" pB)
  (t35:FT K f35 "quotients" mU)
  (t36:FT K f36 "answer_of" oM)
  (t37:FT K f37 "minus" BK)
  (t38:FT K f38 "times" Cd)
  (t39:FT K f39 "whole_row" oU)
  (t40:FT K f40 "led_row" xA)
  (t41:FM K Cm f41 "pay" "Floor.pay" oJ)
  (t42:FM K Cm f42 "share" "Floor.share" kf)
  (t43:FT K f43 "ways_from" oR)
  (t44:FT K f44 "plus" Jk)
  (t45:FT K f45 "weighed" sP)
  (t46:FT K f46 "row_of" Cp)
  (t47:FT K f47 "worths_by" pS)
  (t48:FT K f48 "worths_against" g9)
  (t49:FM K Cm f49 "shown" "Floor.shown" kH)
  (t50:FM K Cm f50 "all_shown" "Floor.all_shown" gJ)
  (t51:FT K f51 "under" CU)
  (t52:FT K f52 "greatest" pU)
  (t53:FT K f53 "least" Cq)
  (t54:FM K Cm f54 "look" "Floor.look" nu)
  (t55:FM K Cm f55 "best" "Floor.best" mN)
  (t56:FT K f56 "better_doors" js)
  (t57:FT K f57 "against" tU)
  {U58:Addr} {IP:Tok} (t58:FV K f58 "mended" yt U58 #[.str "one" IP,.none])
  (t59:FT K f59 "worths" yc)
  (t60:FT K f60 "_law_whole" qf)
  (t61:FT K f61 "_law_table" pK)
  (t62:FT K f62 "_law_all_plans" ji)
  (t63:FT K f63 "worths_of" oY)
  (t64:FT K f64 "_law_less" tj)
  (t65:FT K f65 "_law_outermost" iF)
  (t66:FT K f66 "law" Qe)
  (UL:nsIn K mainGlobals "len"=some none)
  (Vh:nsIn K mainGlobals "abs"=some none)
  (yI:nsIn K mainGlobals "isinstance"=some none)
  (TB:nsIn K mainGlobals "int"=some none)
  (QW:nsIn K mainGlobals "bool"=some none)
  (Us:nsIn K mainGlobals "str"=some none)
  (Ly:nsIn K mainGlobals "tuple"=some none)
  (QR:nsIn K mainGlobals "list"=some none)
  (MS:nsIn K mainGlobals "range"=some none)
  (z5:nsIn K mainGlobals "enumerate"=some none)
  (Vm:nsIn K mainGlobals "any"=some none)
  (SX:nsIn K mainGlobals "all"=some none)
  (SW:nsIn K mainGlobals "sum"=some none)
  (Sy:nsIn K mainGlobals "zip"=some none)
  (PC:nsIn K mainGlobals "dict"=some none)
  (To:nsIn K mainGlobals "min"=some none)
  (S7:nsIn K mainGlobals "max"=some none)
  {Su:Array DictEntry} {nTK:Nat} {WY YJ Yo:Tok}
  (XU:nsIn K mainGlobals "TURNED_KINDS"=some (some (.ref Tp)))
  (Ys:K.lookup Tp=some ⟨.type "dict",none,.dict Su nTK,#[]⟩)
  (Zq:KeysLit w.params Su.toList)
  (Y5:nsIn K Tp "one"=some (some (.str "other" WY)))
  (Zl:nsIn K Tp "other"=some (some (.str "one" YJ)))
  (XH:nsIn K Tp "chance"=some (some (.str "chance" Yo)))
  :∃fd:FuncData,(∀(s:Shared) (v:Value),BindsTo s fd ⟨[v],[]⟩ [("_law_script",v)])/\∀base:Heap,K.In base->base.Ns mainGlobals mg->av l.prog w K mg base VR 12 fa fd ["_law_script"] (A8 K):=by
 have⟨a1,_,F1⟩:=t1;have⟨a2,_,F2⟩:=t2;have⟨a3,_,F3⟩:=t3;have⟨a4,_,F4⟩:=t4;have⟨a5,_,F5⟩:=t5;have⟨a6,_,F6⟩:=t6;have⟨a7,_,F7⟩:=t7;have⟨a8,_,F8⟩:=t8;have⟨a9,_,F9⟩:=t9;have⟨YI,_,Ze⟩:=t10;have⟨a11,_,YN⟩:=t11;have⟨a12,_,Xy⟩:=t12;have⟨a13,_,Yh⟩:=t13;have⟨a14,_,ZA⟩:=t14;have⟨a15,_,YT⟩:=t15;have⟨a16,_,Wb⟩:=t16;have⟨a17,_,V9⟩:=t17;have⟨a18,_,XI⟩:=t18;have⟨a19,i19,_,ZP⟩:=t19;have⟨a20,_,Za⟩:=t20;have⟨a21,i21,_,Wg⟩:=t21;have⟨a22,i22,_,Zp⟩:=t22;have⟨a23,_,Xp⟩:=t23;have⟨a24,_,WW⟩:=t24;have⟨a25,_,Ww⟩:=t25;have⟨a26,i26,_,Yx⟩:=t26;have⟨a27,_,Yi⟩:=t27;have⟨a28,_,Wt⟩:=t28;have⟨a29,_,Wq⟩:=t29;have⟨a30,_,XG⟩:=t30;have⟨a31,_,Xd⟩:=t31;have⟨a32,_,W5⟩:=t32;have⟨a33,_,W2⟩:=t33;have⟨a34,_,X0⟩:=t34;have⟨a35,_,X3⟩:=t35;have⟨a36,_,Xf⟩:=t36;have⟨a37,_,Xg⟩:=t37;have⟨a38,_,X8⟩:=t38;have⟨a39,_,Xl⟩:=t39;have⟨a40,_,WM⟩:=t40;have⟨a41,i41,_,Wd⟩:=t41;have⟨a42,i42,_,Y3⟩:=t42;have⟨a43,_,ZI⟩:=t43;have⟨a44,_,Wu⟩:=t44;have⟨a45,_,Wl⟩:=t45;have⟨a46,_,YW⟩:=t46;have⟨a47,_,Y0⟩:=t47;have⟨a48,_,W3⟩:=t48;have⟨a49,i49,_,Xj⟩:=t49;have⟨a50,i50,_,W7⟩:=t50;have⟨a51,_,Xk⟩:=t51;have⟨a52,_,X1⟩:=t52;have⟨a53,_,Y_⟩:=t53;have⟨a54,i54,_,Zu⟩:=t54;have⟨a55,i55,_,YR⟩:=t55;have⟨a56,_,Zf⟩:=t56;have⟨a57,_,ZJ⟩:=t57;have⟨a58,_,W4⟩:=t58;have⟨a59,_,Y9⟩:=t59;have⟨a60,_,Y6⟩:=t60;have⟨a61,_,YM⟩:=t61;have⟨a62,_,Wh⟩:=t62;have⟨a63,_,XT⟩:=t63;have⟨a64,_,WK⟩:=t64;have⟨a65,_,Zt⟩:=t65;have⟨a66,dL,F66⟩:=t66;have e:=hfa.symm.trans (mg_of X G a66);cases e;have wM:=mg_of X G w_;have ve:=mg_of X G uW;have uM:=mg_of X G uT;have lS:=mg_of X G lQ;have bJ:=mg_none_of X G UL;have sk:=mg_none_of X G Vh;have cD:=mg_none_of X G yI;have vH:=mg_none_of X G TB;have w8:=mg_none_of X G QW;have KD:=mg_none_of X G Us;have qS:=mg_none_of X G Ly;have jJ:=mg_none_of X G QR;have bR:=mg_none_of X G MS;have eI:=mg_none_of X G z5;have EU:=mg_none_of X G Vm;have y_:=mg_none_of X G SX;have zO:=mg_none_of X G SW;have vn:=mg_none_of X G Sy;have pA:=mg_none_of X G PC;have Ed:=mg_none_of X G To;have IG:=mg_none_of X G S7;have E:Ev K mg w Cm:={bJ:=bJ,sk:=sk,cD:=cD,vH:=vH,w8:=w8,KD:=KD,qS:=qS,jJ:=jJ,bR:=bR,eI:=eI,EU:=EU,y_:=y_,zO:=zO,vn:=vn,pA:=pA,Ed:=Ed,IG:=IG,ib:=x9 AS,kis:=yV Bp,kts:=uZ yb,kti:=vb xD,kls:=w6 AL,kli:=wG zj,ktl:=sU u7,klt:=sf uX,dR:=⟨fN,fC,fB,fJ⟩,cB:=w4,fH:=uN,wK:=⟨_,_,_,_,mg_of X G Ki,JC,rfl,rfl,gV,.cons ⟨_,rfl⟩ (.cons ⟨_,rfl⟩ .nil)⟩,l7:=⟨_,_,_,mg_of X G XU,Ys,Zq,λz y h=>Rm Y5 Zl XH h⟩,qz:=⟨_,wM⟩,jA:=⟨_,ve⟩,nL:=⟨_,uM⟩,gS:=⟨_,lS⟩};refine⟨dL,λs v=>by have⟨_,_,_,_,_,_,_,_,_,rfl,_⟩:=F66.ex;exact .of_eq rfl,λbase _ _=>?_⟩;have mc:=@aB.mk l.prog w K mg base;have nQ:=(Iv F1 E)&&&(F1,a1,b7 λ_ _=>rfl);have aT:=(uz F2 E)&&&(F2,a2,eR λ_=>rfl);have aQ:=(xi F3 E)&&&(F3,a3,b7 λ_ _=>rfl);have jx:=(vg F4 E aT aQ)&&&(F4,a4,b7 λ_ _=>rfl);have i6:=(Fi F5 E aQ)&&&(F5,a5,b7 λ_ _=>rfl);have kG:=(wI F6 E)&&&(F6,a6,b7 λ_ _=>rfl);have ie:=(xm F7 E aT kG)&&&(F7,a7,vm λ_ _ _ _=>rfl);have mW:=(A4 F8 E i6 aQ)&&&(F8,a8,vm λ_ _ _ _=>rfl);have mM:=(AX F9 E nQ aT jx i6 ie mW)&&&(F9,a9,eR λ_=>rfl);have kS:=(xc Ze E)&&&(Ze,YI,eR λ_=>rfl);have gD:=(BW YN E)&&&(YN,a11,eR λ_=>rfl);have mX:=(z6 Xy E gD)&&&(Xy,a12,b7 λ_ _=>rfl);have ip:=(yr Yh E mX)&&&(Yh,a13,b7 λ_ _=>rfl);have bP:=(pQ ZA E)&&&(ZA,a14,b7 λ_ _=>rfl);have cc:=(qK YT E bP)&&&(YT,a15,eR λ_=>rfl);have iz:=(sY Wb E cc)&&&(Wb,a16,eR λ_=>rfl);have qc:=(BU V9 E gD ip iz)&&&(V9,a17,b7 λ_ _=>rfl);have kJ:=(wL XI E)&&&(XI,a18,eR λ_=>rfl);have kC:Qt l.prog w K mg base _ "Floor" Cm _ _ _ _:=⟨wB ZP E kS qc kJ,(ZP.binds λ_ _ _ _ _ _=>hI λ_ _ _=>rfl),⟨Nj,a19,i19,L7⟩,mg_of X G Ng⟩;have qh:=(BZ Za E)&&&(Za,a20,eR λ_=>rfl);have aZ:da l.prog w K mg base _ Cm "size" _ _ _ _:=(x4 Wg E)|||(Wg,a21,i21,eR λ_=>rfl);have Ρ:da l.prog w K mg base _ Cm "kind" _ _ _ _:=(xu Zp E)|||(Zp,a22,i22,b7 λ_ _=>rfl);have ni:=(AA Xp E aZ Ρ)&&&(Xp,a23,b7 λ_ _=>rfl);have eJ:=(x_ WW E ni)&&&(WW,a24,b7 λ_ _=>rfl);have p9:=(BH Ww E eJ)&&&(Ww,a25,hI λ_ _ _=>rfl);have aL:da l.prog w K mg base _ Cm "doors" _ _ _ _:=(uO Yx E Ρ)|||(Yx,a26,i26,b7 λ_ _=>rfl);have oP:=(Co Yi E aL)&&&(Yi,a27,hI λ_ _ _=>rfl);have gI:=(BQ Wt E aZ Ρ oP)&&&(Wt,a28,b7 λ_ _=>rfl);have iA:=(tZ Wq E)&&&(Wq,a29,eR λ_=>rfl);have gO:=(qI XG E)&&&(XG,a30,hI λ_ _ _=>rfl);have jB:=(uG Xd E)&&&(Xd,a31,hI λ_ _ _=>rfl);have fA:=(rV W5 E)&&&(W5,a32,vm λ_ _ _ _=>rfl);have qg:=(Dm W2 E iA gO jB fA)&&&(W2,a33,b7 λ_ _=>rfl);have bt:=(zq X0 E bP)&&&(X0,a34,b7 λ_ _=>rfl);have kj:=(wA X3 E bt)&&&(X3,a35,vm λ_ _ _ _=>rfl);have mj:=(y4 Xf E qg kj)&&&(Xf,a36,eR λ_=>rfl);have xg:=(ID Xg E bt)&&&(Xg,a37,b7 λ_ _=>rfl);have gB:=(Iz X8 E bt)&&&(X8,a38,b7 λ_ _=>rfl);have mR:=(Ar Xl E cc)&&&(Xl,a39,eR λ_=>rfl);have n8:=(He WM E aZ xg gB mR)&&&(WM,a40,Td λ_ _ _ _ _=>rfl);have fh:da l.prog w K mg base _ Cm "pay" _ _ _ _:=(Ax Wd E Ρ)|||(Wd,a41,i41,b7 λ_ _=>rfl);have gq:da l.prog w K mg base _ Cm "share" _ _ _ _:=(uU Y3 E)|||(Y3,a42,i42,eR λ_=>rfl);have mw:=(zu ZI E aL Ρ)&&&(ZI,a43,hI λ_ _ _=>rfl);have oX:=(Nd Wu E bt)&&&(Wu,a44,b7 λ_ _=>rfl);have gF:=(Dc Wl E oX gB)&&&(Wl,a45,b7 λ_ _=>rfl);have yH:=(HG YW E Ρ n8 fh gq mw gF)&&&(YW,a46,hI λ_ _ _=>rfl);have fi:=(Aj Y0 E mj aZ yH)&&&(Y0,a47,b7 λ_ _=>rfl);have dW:=(pW W3 E fi)&&&(W3,a48,hI λ_ _ _=>rfl);have jk:da l.prog w K mg base _ Cm "shown" _ _ _ _:=(u9 Xj E oX gB)|||(Xj,a49,i49,vm λ_ _ _ _=>rfl);have a_:da l.prog w K mg base _ Cm "all_shown" _ _ _ _:=(pT W7 E aL jk)|||(W7,a50,i50,hI λ_ _ _=>rfl);have lE:=(K8 Xk E)&&&(Xk,a51,b7 λ_ _=>rfl);have mT:=(zw X1 E lE)&&&(X1,a52,eR λ_=>rfl);have wD:=(Js Y_ E lE)&&&(Y_,a53,eR λ_=>rfl);have kN:da l.prog w K mg base _ Cm "look" _ _ _ _:=(xB Zu E Ρ fh gF a_ aL mT wD)|||(Zu,a54,i54,hI λ_ _ _=>rfl);have kU:da l.prog w K mg base _ Cm "best" _ _ _ _:=(xX YR E Ρ kN a_)|||(YR,a55,i55,hI λ_ _ _=>rfl);have bU:=(rG Zf E kU)&&&(Zf,a56,hI λ_ _ _=>rfl);have pq:=(BI ZJ E gI eJ dW bU)&&&(ZJ,a57,hI λ_ _ _=>rfl);have Ld:=FL W4 E (P:=l.prog) (base:=base) p9 pq bU
 have oS:PU l.prog w K mg base _ "mended" _ _ [Dt.str "one",Dt.bF] _ _:=⟨Ld,⟨[V.str "one",V.bF],[Value.str "one" IP,Value.none],W4.binds (λ_ _ _ _ _ _ us hl=>by
  obtain⟨a0,rfl⟩:∃a0,us=[a0]:=eR (P:=λus=>∃a0,us=[a0]) (λa0=>⟨a0,rfl⟩) us (by simpa using hl)
  exact⟨_,rfl,rfl⟩),(.cons ⟨_,rfl⟩ (.cons rfl .nil)),λ_ _=>⟨_,_,rfl,rfl,⟨_,_,rfl,rfl,rfl⟩⟩⟩,mg_of X G a58,W4.kp⟩
 have uf:=(Fs Y9 E oS)&&&(Y9,a59,eR λ_=>rfl);have je:=(Ai Y6 E)&&&(Y6,a60,eR λ_=>rfl);have jo:=(zi YM E je aQ)&&&(YM,a61,b7 λ_ _=>rfl);have fL:=(tY Wh E)&&&(Wh,a62,b7 λ_ _=>rfl);have mD:=(Ba XT E fi gI)&&&(XT,a63,hI λ_ _ _=>rfl);have lG:=(BF WK E)&&&(WK,a64,b7 λ_ _=>rfl);have cq:=(qJ Zt E lG)&&&(Zt,a65,b7 λ_ _=>rfl);exact Q9 (Q7 F66 E mM kC qh uf jo fL mD cq)
def walk{l:PySem.W.OpenLaw}{q:Program}{loose:List Str}{XP:(Str->Option Value)->Heap->Prop}{YP:World->Heap->Prop}{d:DefRec}{K:Params->fI}(hn:l.most=some 63)(Vi:d.params.defaults=[])
  (hY:∀(w:World) (h:Heap),YP w h->(K w.params).In h)
  (F:∀(w:World) (mg:Str->Option Value) (fa:Addr) (h:Heap),(K w.params).In h->h.Ns mainGlobals mg->mg d.name=some (.ref fa)->
   ∃fd:FuncData,(∀(s:Shared) (u:Value),BindsTo s fd ⟨[u],[]⟩ [("_law_script",u)])/\∀base:Heap,(K w.params).In base->base.Ns mainGlobals mg->av l.prog w (K w.params) mg base VR 12 fa fd ["_law_script"] (A8 (K w.params))):
  PySem.W.WalkO q loose XP YP l.row.toRowW d [] (λf vs=>PySem.call f vs):=
 L2.yK (n:=63) (k:=12) (x:="_law_script") (CX:=λ_=>VR) (sp:=λw=>A8 (K w.params)) hn @_ Vi ⟨rfl,@_,@_⟩ hY F (λ_ _ a ns hl _ hS=>⟨a,ns,rfl,hS,hl,λ_=>rfl⟩) λ_ _ _ _ _ z=>z
end
end Pg
open PySem PySem.W PyProof.Rows
set_option maxRecDepth 100000 in
set_option maxHeartbeats 0 in
theorem PySem.Challenge.cw_chanceduel_k36_whole_who_moves_first_holds : PySem.Challenge.rw_chanceduel_k36_whole_who_moves_first.Holds := by
 w_on;o_law
 refine holds_open (q:=Hd.q) (loose:=["TURNED_KINDS","mended"]) (Xt:=Hd.Xt) (XP:=XL Hd.q [])
  (Yf:=Hd.H.obs) (Ya:=Hd.H.val) (YP:=Hd.H.says) Hd.left Hd.H.of Hd.H.keeps
  (λs e=>xl_of s (Bool.and_eq_true_iff.mp e).1) XL.keeps (by rfl) (by rfl) (by rfl)
  (λs e=>recFacts_of (Bool.and_eq_true_iff.mp e).2) (by rfl) (by assumption) (by decide+kernel)
  ⟨rfl,rfl,rfl,rfl,rfl,by decide+kernel⟩ ?hw ?hc
 (case hw=>w_witness2)
 refine Pg.walk (l:=PySem.Challenge.rw_chanceduel_k36_whole_who_moves_first) rfl rfl (fun w h Y=>PySem.W.kIn_of Y) ?F
 case F=>
  k_fill
  intro w mg fa h KX G Mp
  refine' Pg.all_mk KX G Mp ?_ ?_ ?_ ?_ ?_ ?_ ?_ ?_ ?_ ?_ ?_ ?_ ?_ ?_ ?_ ?_ ?_ ?_ ?_ ?_ ?_ ?_ ?_ ?_ ?_ ?_ ?_ ?_ ?_ ?_ ?_ ?_ ?_ ?_ ?_ ?_ ?_ ?_ ?_ ?_ ?_ ?_ ?_ ?_ ?_ ?_ ?_ ?_ ?_ ?_ ?_ ?_ ?_ ?_ ?_ ?_ ?_ ?_ ?_ ?_ ?_ ?_ ?_ ?_ ?_ ?_ ?_ ?_ ?_ ?_ ?_ ?_ ?_ ?_ ?_ ?_ ?_ ?_ ?_ ?_ ?_ ?_ ?_ ?_ ?_ ?_ ?_ ?_ ?_ ?_ ?_ ?_ ?_ ?_ ?_ ?_ ?_ ?_ ?_ ?_ ?_ ?_ ?_ ?_ ?_ ?_ ?_ ?_ ?_ ?_ ?_ ?_
  all_goals try first| (refine' Pg.FT.of ?_ ?_ ?_ ?_ <;> try k_is)| (refine' Pg.FM.of ?_ ?_ ?_ ?_ ?_ <;> try k_is)| (refine' Pg.FV.of ?_ ?_ ?_ ?_ ?_ <;> try k_is)| k_is| k_exc| kernel_rfl
  all_goals try exact⟨⟨_,_,rfl,rfl⟩,⟨_,_,rfl,rfl⟩,⟨_,_,rfl,rfl⟩,trivial⟩
