import PyProof.Rows.All
import Wide.All
import OpenK.AllK
import Wide.FinOn
import Lean
import PyProof.EqAt
import PyProof.EqKinds
import PyProof.TupleCall
import PyProof.NeKinds
import PyProof.ZipIter
import PyProof.DictUpdate
import PyProof.FactsAll.dict_1
import PyProof.DictIter
import PyProof.DictWalks
import PySem.Challenge.RW_chanceduel_k33_whole_worths_from_both_si
set_option Elab.async false
set_option linter.all false
set_option maxRecDepth 100000
set_option maxHeartbeats 4000000
set_option compiler.extract_closed false
def aaa:=@List.getElem?_eq_getElem
def aab:=@List.getD_eq_getElem?_getD
def aac:=@List.mem_cons_of_mem
def aad:=@List.length_map
def aae:=@List.mem_cons_self
def aaf:=@List.getElem?_eq_some_iff
def aag:=@List.length_append
def aah:=@List.mem_map
def aai:=@Nat.le_refl
def aaj:=@Int.le_of_lt
def aak:=@List.getElem?_append_right
def aal:=@PySem.Heap.get?_push_of_some
def aam:=@List.mem_of_getElem?
def aan:=@decide_eq_true_iff
def aao:=@List.getElem?_map
def aap:=@of_decide_eq_true
def aaq:=@Bool.and_eq_true
def aar:=@Int.mul_le_mul_of_nonneg_left
def aas:=@PySem.Heap.lt_size
def aat:=@Nat.lt_of_lt_of_le
def aau:=@List.getElem?_append_left
def aav:=@if_neg
def aaw:=@if_pos
def aax:=@Nat.le_trans
def aay:=@List.size_toArray
def aaz:=@Option.some.inj
def aaA:=@Bool.false_ne_true
def aaB:=@decide_eq_true
def aaC:=@List.length_cons
def aaD:=@List.mem_append_right
def aaE:=@List.getElem_mem
def aaF:=@List.mem_cons
def aaG:=@PySem.wpAny_bind
def aaH:=@Int.lt_of_le_of_lt
def aaI:=@decide_eq_false
def aaJ:=@List.map_cons
def aaK:=@absurd
def aaL:=@Int.mul_le_mul_of_nonneg_right
def aaM:=@List.map_map
def aaN:=@Int.mul_pos
def aaO:=@Rat.intCast_mul
def aaP:=@List.append_assoc
def aaQ:=@List.mem_append
def aaR:=@PySem.Heap.get?_push_size
def aaS:=@List.getElem?_range
def aaT:=@Nat.lt_of_le_of_lt
def aaU:=@Nat.ne_of_lt
def aaV:=@Int.eq_of_mul_eq_mul_left
def aaW:=@Rat.mul_le_mul_of_nonneg_left
def aaX:=@List.nil_append
def aaZ:=@congrArg
def aa0:=@Int.emod_lt_of_pos
def aa1:=@List.length_range
def aa2:=@List.map_append
def aa3:=@of_decide_eq_false
def aa4:=@Int.emod_nonneg
def aa5:=@List.length_replicate
def aa6:=@Int.mul_comm
def aa7:=@List.mem_singleton
def aa8:=@List.append_nil
def aa9:=@List.getElem?_set_self
def aba:=@List.mem_range
def abb:=@List.map_congr_left
def abc:=@Rat.intCast_le_intCast
def abd:=@Int.natAbs_mul
def abe:=@PySem.wpAny_pure
def abf:=@List.getElem_of_mem
def abg:=@List.length_set
def abh:=@Int.mul_nonneg
def abi:=@List.getElem?_set_ne
def abj:=@Int.natAbs_of_nonneg
def abk:=@List.replicate_succ
def abl:=@Int.ne_of_gt
def abm:=@List.ext_getElem
def abn:=@List.exists_cons_of_ne_nil
def abo:=@List.zip_cons_cons
def abp:=@List.drop_eq_getElem_cons
def abq:=@Nat.lt_succ_self
def abr:=@List.lookup_cons
def abt:=@Int.mul_ediv_cancel_left
def abu:=@Nat.lt_irrefl
def abv:=@List.foldl_cons
def abw:=@List.length_zip
def abx:=@Int.le_trans
def aby:=@Rat.intCast_lt_intCast
def abz:=@beq_iff_eq
def abA:=@Int.toNat_natCast
def abB:=@List.flatten_cons
def abC:=@Int.mul_le_mul
def abD:=@List.of_mem_zip
def abE:=@Nat.not_lt_zero
def abF:=@Rat.mul_le_mul_of_nonneg_right
def abG:=@Option.isSome_iff_exists
def abH:=@List.length_drop
def abI:=@Int.ofNat_lt
def abK:=@List.nodup_cons
def abL:=@Int.natCast_add
def abM:=@List.range_succ_eq_map
def abN:=@List.take_of_length_le
def abO:=@Int.fmod_eq_emod_of_nonneg
def abP:=@Nat.le_add_right
def abQ:=@List.all_eq_true
def abR:=@Int.pow_succ
def abS:=@Int.pow_nonneg
def abT:=@Int.mul_neg_of_pos_of_neg
def abU:=@List.set_append_left
def abV:=@Nat.pow_le_pow_right
def abW:=@Nat.lt_succ_of_lt
def abX:=@List.getElem?_replicate
def abY:=@List.all_cons
def abZ:=@List.any_cons
def ab0:=@Nat.add_sub_cancel_left
def ab1:=@Int.le_of_dvd
def ab2:=@List.filter_cons_of_pos
def ab3:=@List.filter_cons_of_neg
def ab4:=@List.drop_eq_nil_of_le
def ab5:=@Nat.zero_le
def ab6:=@List.getElem?_eq_none
def ab7:=@List.set_append_right
def ab8:=@PySem.wpAny_mono
def ab9:=@Array.getElem?_eq_some_iff
def aca:=@Int.fdiv_eq_ediv_of_nonneg
def acb:=@PySem.F.slot_dict_getitem
def acd:=@Int.le_of_mul_le_mul_left
def ace:=@List.length_take
def acf:=@Int.ediv_le_self
def acg:=@List.filterMap_cons
def ach:=@Int.toNat_of_nonneg
def aci:=@List.getElem?_take_of_lt
def acj:=@List.mem_of_mem_eraseIdx
def ack:=@Int.lt_or_le
def acm:=@Int.lt_trans
def acn:=@List.mem_filterMap
def acp:=@Nat.min_eq_left
def acq:=@Int.mul_assoc
def acr:=@List.map_take
def acs:=@List.map_drop
def acu:=@List.nodup_append
def acv:=@List.ext_getElem?
def acw:=@List.drop_zero
def acx:=@Nat.ne_of_gt
def acy:=@Nat.sub_self
def acz:=@Int.dvd_zero
namespace Hd
open PySem PySem.W PyProof.Rows
def at_(i:Nat):Stmt:=PySem.Challenge.pw_chanceduel_k33_whole_worths_from_both_si.main.body.getD i (.Pass ⟨0,0,0,0⟩)
def K9:Stmt->Nat->Stmt
  | .ClassDef _ _ _ b _ _ _ _ _ _ _,j=>b.getD j (.Pass ⟨0,0,0,0⟩)
  | s,_=>s
def dA:Stmt->Arguments
  | .FunctionDef _ a _ _ _ _ _ _ _ _=>a
  | _=>⟨[],[],none,[],[],none,[]⟩
def dB:Stmt->List Stmt
  | .FunctionDef _ _ b _ _ _ _ _ _ _=>b
  | _=>[]
def dS:Stmt->Scope
  | .FunctionDef _ _ _ _ _ _ c _ _ _=>c
  | _=>{kind:= .function,names:=[],isGenerator:=false,isCoroutine:=false}
abbrev row:=PySem.Challenge.rw_chanceduel_k33_whole_worths_from_both_si.row
abbrev en(P:Params)(x:Str)(t:Tok)(v:Value):DictEntry:=⟨PyData.keyHash P x, .str x t,v⟩
def q:Program:={PySem.Challenge.pw_chanceduel_k33_whole_worths_from_both_si with main:={PySem.Challenge.pw_chanceduel_k33_whole_worths_from_both_si.main with body:=[at_ 1,at_ 2,at_ 3,at_ 4,at_ 5,at_ 6,at_ 7,at_ 9,at_ 10,at_ 11,at_ 12,at_ 13,at_ 14,at_ 16,at_ 17,at_ 18,at_ 19,at_ 20,at_ 21,at_ 22,at_ 23,at_ 24,at_ 25,at_ 27,at_ 28,at_ 29,at_ 30,at_ 31,at_ 32,at_ 33,at_ 34,at_ 36,at_ 37,at_ 38,at_ 39,at_ 40,at_ 41,at_ 42,at_ 43,at_ 45,at_ 46,at_ 47,at_ 48,at_ 49,at_ 50,at_ 51,at_ 52,at_ 53,at_ 54,at_ 56,at_ 57,at_ 59,at_ 61,at_ 63,at_ 64,at_ 65,at_ 66,at_ 67,at_ 68,at_ 69,at_ 70,at_ 71,at_ 72,at_ 73,at_ 74,at_ 75,at_ 76,at_ 77,at_ 78,at_ 79]}}
abbrev cO(x q:Str)(t l n f a m:Nat):Obj:=⟨.type "code",none, .fields #[.str x t, .str q (t+1), .str "/claim/cut.py" (t+2), .int l 0, .int n 0, .int 0 0, .int 0 0, .int f 0, .ref a, .bool true, .int 181 0, .ref (a+1), .none, .ref (a+2), .ref (a+3), .ref (a+4), .int m 0, .int l 0, .str "/claim/cut.py" (m+1)], #[]⟩
abbrev dO(x q:Str)(t l n f a m:Nat):Obj:=⟨.type "code",none, .fields #[.str x t, .str q (t+1), .str "/claim/cut.py" (t+2), .int l 0, .int n 0, .int 0 0, .int 0 0, .int f 0, .ref a, .bool true, .int 181 0, .ref (a+1), .none, .none, .none, .ref (a+2), .int m 0, .int l 0, .str "/claim/cut.py" (m+1)], #[]⟩
abbrev fO(x q:Str)(s:Stmt)(m:Value)(c:Nat):Obj:=⟨.type "function",none, .func ⟨x,q,(dA s), .stmts (dB s),(dS s),3,[], .none, .none, .none,m,none, .ref c, .none,0⟩, #[]⟩
abbrev m0:Value:= .str "chanceduel.parts" 341
abbrev m1:Value:= .str "chanceduel.places" 395
abbrev m2:Value:= .str "chanceduel.floors" 453
abbrev m3:Value:= .str "chanceduel.rows" 606
abbrev m4:Value:= .str "chanceduel.plans" 682
abbrev m5:Value:= .str "chanceduel.answers" 773
abbrev m6:Value:= .str "chanceduel.mending" 798
abbrev m7:Value:= .str "law_chanceduel_k33_whole_worths_from_both_si" 830
noncomputable def K:Params->Frag:=λP=>
(nat_lit 2,⟨.none,none,(.dict #[] 0), #[]⟩)::
(nat_lit 3,⟨(.type "dict"),none,(.dict #[(en P "__name__" 165 m7),(en P "__doc__" 166 .none),(en P "__package__" 167 .none),(en P "__loader__" 168 (.builtin "__main__.__loader__#opaque")),(en P "__spec__" 169 .none),(en P "__annotations__" 170 (.ref 6)),(en P "__builtins__" 171 (.ref 4)),(en P "__file__" 173 (.str "/claim/cut.py" 172)),(en P "__cached__" 174 .none),(en P "DuelError" 206 (.ref 24)),(en P "NoNumber" 222 (.ref 37)),(en P "NoFloor" 238 (.ref 49)),(en P "NoPlace" 263 (.ref 68)),(en P "NoAnswer" 288 (.ref 87)),(en P "ManyAnswers" 315 (.ref 106)),(en P "NoPlan" 340 (.ref 125)),(en P "common_divisor" 353 (.ref 134)),(en P "fraction" 362 (.ref 141)),(en P "plus" 370 (.ref 148)),(en P "minus" 378 (.ref 155)),(en P "times" 386 (.ref 162)),(en P "under" 394 (.ref 169)),(en P "HANDS" 399 (.ref 170)),(en P "MOST_DOORS" 401 (.int 6 400)),(en P "MOST_BOTTOM" 403 (.int 1000000 402)),(en P "fits_pay" 410 (.ref 177)),(en P "fits_door" 418 (.ref 184)),(en P "common_bottom" 427 (.ref 191)),(en P "fits_chances" 433 (.ref 196)),(en P "fits_doors" 439 (.ref 201)),(en P "fits_row" 445 (.ref 206)),(en P "copied_row" 452 (.ref 213)),(en P "MOST_PLACES" 456 (.int 12 455)),(en P "MOST_SHARE_BOTTOM" 458 (.int 1000 457)),(en P "TURNED_KINDS" 468 (.ref 214)),(en P "fits_share" 475 (.ref 221)),(en P "weighed" 486 (.ref 228)),(en P "greatest" 495 (.ref 235)),(en P "least" 504 (.ref 242)),(en P "Floor" 605 (.ref 319)),(en P "with_weights" 618 (.ref 330)),(en P "number_of_head" 628 (.ref 337)),(en P "moved_ahead" 637 (.ref 344)),(en P "cleared_line" 643 (.ref 349)),(en P "cleared" 649 (.ref 354)),(en P "quotients" 662 (.ref 361)),(en P "still_of" 668 (.ref 366)),(en P "answer_of" 681 (.ref 373)),(en P "places_of" 689 (.ref 378)),(en P "first_plan" 699 (.ref 385)),(en P "has_door" 708 (.ref 392)),(en P "doors_of" 719 (.ref 399)),(en P "better_doors" 731 (.ref 406)),(en P "ways_from" 741 (.ref 413)),(en P "whole_row" 747 (.ref 418)),(en P "led_row" 760 (.ref 425)),(en P "row_of" 766 (.ref 430)),(en P "worths_by" 772 (.ref 435)),(en P "worths_against" 784 (.ref 442)),(en P "against" 797 (.ref 449)),(en P "started" 808 (.ref 456)),(en P "mended" 822 (.ref 464)),(en P "worths" 829 (.ref 471)),(en P "_law_at" 841 (.ref 478)),(en P "_law_stream" 852 (.ref 485)),(en P "_law_lowest" 862 (.ref 492)),(en P "_law_pay" 871 (.ref 499)),(en P "_law_doors" 877 (.ref 504)),(en P "_law_by_digits" 884 (.ref 511)),(en P "_law_things" 897 (.ref 518)),(en P "_law_share_of" 907 (.ref 525)),(en P "_law_floor" 927 (.ref 532)),(en P "_law_copy" 933 (.ref 537)),(en P "_law_plan" 946 (.ref 544)),(en P "_law_less" 954 (.ref 551)),(en P "_law_shown" 965 (.ref 558)),(en P "_law_due" 971 (.ref 563)),(en P "_law_whole" 978 (.ref 570)),(en P "_law_table" 987 (.ref 577)),(en P "law" 1006 (.ref 584))] 80), #[]⟩)::
(nat_lit 23,⟨(.type "dict"),none,(.dict #[(en P "__module__" 196 (.str "chanceduel.errors" 187)),(en P "__firstlineno__" 200 (.int 2 199)),(en P "__static_attributes__" 201 (.ref 22)),(en P "__weakref__" 203 (.ref 25)),(en P "__doc__" 204 .none)] 3), #[]⟩)::
(nat_lit 24,⟨(.type "type"),none,(.cls ⟨"DuelError",[(.type "ValueError")],[(.ref 24),(.type "ValueError"),(.type "Exception"),(.type "BaseException"),(.type "object")],23,"DuelError",true,[],[(.ref 37),(.ref 49),(.ref 68),(.ref 87),(.ref 106),(.ref 125)],false,none,false⟩), #[(some (.ref 15)),none,(some (.str "DuelError" 189)),(some (.str "DuelError" 197)),(some (.builtin "ValueError.__new__")),(some (.bool true))]⟩)::
(nat_lit 37,⟨(.type "type"),none,(.cls ⟨"NoNumber",[(.ref 24)],[(.ref 37),(.ref 24),(.type "ValueError"),(.type "Exception"),(.type "BaseException"),(.type "object")],36,"NoNumber",true,[],[],false,none,false⟩), #[(some (.ref 28)),none,(some (.str "NoNumber" 207)),(some (.str "NoNumber" 215)),(some (.builtin "ValueError.__new__")),(some (.bool true))]⟩)::
(nat_lit 49,⟨(.type "type"),none,(.cls ⟨"NoFloor",[(.ref 24)],[(.ref 49),(.ref 24),(.type "ValueError"),(.type "Exception"),(.type "BaseException"),(.type "object")],48,"NoFloor",true,[],[],false,none,false⟩), #[(some (.ref 40)),none,(some (.str "NoFloor" 223)),(some (.str "NoFloor" 231)),(some (.builtin "ValueError.__new__")),(some (.bool true))]⟩)::
(nat_lit 68,⟨(.type "type"),none,(.cls ⟨"NoPlace",[(.ref 24)],[(.ref 68),(.ref 24),(.type "ValueError"),(.type "Exception"),(.type "BaseException"),(.type "object")],67,"NoPlace",true,[],[],false,none,false⟩), #[(some (.ref 52)),none,(some (.str "NoPlace" 239)),(some (.str "NoPlace" 247)),(some (.builtin "ValueError.__new__")),(some (.bool true))]⟩)::
(nat_lit 87,⟨(.type "type"),none,(.cls ⟨"NoAnswer",[(.ref 24)],[(.ref 87),(.ref 24),(.type "ValueError"),(.type "Exception"),(.type "BaseException"),(.type "object")],86,"NoAnswer",true,[],[],false,none,false⟩), #[(some (.ref 71)),none,(some (.str "NoAnswer" 264)),(some (.str "NoAnswer" 272)),(some (.builtin "ValueError.__new__")),(some (.bool true))]⟩)::
(nat_lit 106,⟨(.type "type"),none,(.cls ⟨"ManyAnswers",[(.ref 24)],[(.ref 106),(.ref 24),(.type "ValueError"),(.type "Exception"),(.type "BaseException"),(.type "object")],105,"ManyAnswers",true,[],[],false,none,false⟩), #[(some (.ref 90)),none,(some (.str "ManyAnswers" 289)),(some (.str "ManyAnswers" 297)),(some (.builtin "ValueError.__new__")),(some (.bool true))]⟩)::
(nat_lit 125,⟨(.type "type"),none,(.cls ⟨"NoPlan",[(.ref 24)],[(.ref 125),(.ref 24),(.type "ValueError"),(.type "Exception"),(.type "BaseException"),(.type "object")],124,"NoPlan",true,[],[],false,none,false⟩), #[(some (.ref 109)),none,(some (.str "NoPlan" 316)),(some (.str "NoPlan" 324)),(some (.builtin "ValueError.__new__")),(some (.bool true))]⟩)::
(nat_lit 133,cO "common_divisor" "common_divisor" 343 30 2 3 128 351)::
(nat_lit 134,fO "common_divisor" "common_divisor" (at_ 9) m0 133)::
(nat_lit 140,cO "fraction" "fraction" 354 38 2 3 135 360)::
(nat_lit 141,fO "fraction" "fraction" (at_ 10) m0 140)::
(nat_lit 147,cO "plus" "plus" 363 45 2 3 142 368)::
(nat_lit 148,fO "plus" "plus" (at_ 11) m0 147)::
(nat_lit 154,cO "minus" "minus" 371 47 2 3 149 376)::
(nat_lit 155,fO "minus" "minus" (at_ 12) m0 154)::
(nat_lit 161,cO "times" "times" 379 49 2 3 156 384)::
(nat_lit 162,fO "times" "times" (at_ 13) m0 161)::
(nat_lit 168,cO "under" "under" 387 51 2 3 163 392)::
(nat_lit 169,fO "under" "under" (at_ 14) m0 168)::
(nat_lit 170,⟨(.type "tuple"),none,(.seq #[(.str "one" 397),(.str "other" 398)] 0), #[]⟩)::
(nat_lit 176,cO "fits_pay" "fits_pay" 404 57 1 3 171 408)::
(nat_lit 177,fO "fits_pay" "fits_pay" (at_ 19) m1 176)::
(nat_lit 183,cO "fits_door" "fits_door" 411 59 2 3 178 416)::
(nat_lit 184,fO "fits_door" "fits_door" (at_ 20) m1 183)::
(nat_lit 190,cO "common_bottom" "common_bottom" 419 61 1 3 185 425)::
(nat_lit 191,fO "common_bottom" "common_bottom" (at_ 21) m1 190)::
(nat_lit 195,dO "fits_chances" "fits_chances" 428 66 1 3 192 431)::
(nat_lit 196,fO "fits_chances" "fits_chances" (at_ 22) m1 195)::
(nat_lit 200,dO "fits_doors" "fits_doors" 434 72 2 3 197 437)::
(nat_lit 201,fO "fits_doors" "fits_doors" (at_ 23) m1 200)::
(nat_lit 205,dO "fits_row" "fits_row" 440 76 2 3 202 443)::
(nat_lit 206,fO "fits_row" "fits_row" (at_ 24) m1 205)::
(nat_lit 212,cO "copied_row" "copied_row" 446 85 1 3 207 450)::
(nat_lit 213,fO "copied_row" "copied_row" (at_ 25) m1 212)::
(nat_lit 214,⟨(.type "dict"),none,(.dict #[(en P "one" 459 (.str "other" 460)),(en P "other" 461 (.str "one" 462)),(en P "chance" 463 (.str "chance" 464))] 3), #[]⟩)::
(nat_lit 220,cO "fits_share" "fits_share" 469 93 1 3 215 473)::
(nat_lit 221,fO "fits_share" "fits_share" (at_ 30) m2 220)::
(nat_lit 227,cO "weighed" "weighed" 476 95 2 3 222 484)::
(nat_lit 228,fO "weighed" "weighed" (at_ 31) m2 227)::
(nat_lit 234,cO "greatest" "greatest" 487 100 1 3 229 493)::
(nat_lit 235,fO "greatest" "greatest" (at_ 32) m2 234)::
(nat_lit 241,cO "least" "least" 496 106 1 3 236 502)::
(nat_lit 242,fO "least" "least" (at_ 33) m2 241)::
(nat_lit 253,dO "__init__" "Floor.__init__" 517 114 3 3 250 520)::
(nat_lit 254,fO "__init__" "Floor.__init__" (K9 (at_ 34) 0) m2 253)::
(nat_lit 260,cO "size" "Floor.size" 523 125 1 3 255 527)::
(nat_lit 261,fO "size" "Floor.size" (K9 (at_ 34) 1) m2 260)::
(nat_lit 267,cO "share" "Floor.share" 530 128 1 3 262 534)::
(nat_lit 268,fO "share" "Floor.share" (K9 (at_ 34) 2) m2 267)::
(nat_lit 274,cO "kind" "Floor.kind" 537 131 2 3 269 542)::
(nat_lit 275,fO "kind" "Floor.kind" (K9 (at_ 34) 3) m2 274)::
(nat_lit 281,cO "doors" "Floor.doors" 545 134 2 3 276 550)::
(nat_lit 282,fO "doors" "Floor.doors" (K9 (at_ 34) 4) m2 281)::
(nat_lit 288,cO "pay" "Floor.pay" 553 139 2 3 283 558)::
(nat_lit 289,fO "pay" "Floor.pay" (K9 (at_ 34) 5) m2 288)::
(nat_lit 300,cO "shown" "Floor.shown" 567 147 4 3 295 575)::
(nat_lit 301,fO "shown" "Floor.shown" (K9 (at_ 34) 7) m2 300)::
(nat_lit 305,dO "all_shown" "Floor.all_shown" 578 151 3 3 302 581)::
(nat_lit 306,fO "all_shown" "Floor.all_shown" (K9 (at_ 34) 8) m2 305)::
(nat_lit 310,dO "look" "Floor.look" 584 154 3 3 307 587)::
(nat_lit 311,fO "look" "Floor.look" (K9 (at_ 34) 9) m2 310)::
(nat_lit 315,dO "best" "Floor.best" 590 164 3 3 312 593)::
(nat_lit 316,fO "best" "Floor.best" (K9 (at_ 34) 10) m2 315)::
(nat_lit 318,⟨(.type "dict"),none,(.dict #[(en P "__module__" 512 m2),(en P "__firstlineno__" 516 (.int 112 515)),(en P "__init__" 522 (.ref 254)),(en P "size" 529 (.ref 261)),(en P "share" 536 (.ref 268)),(en P "kind" 544 (.ref 275)),(en P "doors" 552 (.ref 282)),(en P "pay" 560 (.ref 289)),(en P "rows" 566 (.ref 294)),(en P "shown" 577 (.ref 301)),(en P "all_shown" 583 (.ref 306)),(en P "look" 589 (.ref 311)),(en P "best" 595 (.ref 316)),(en P "__static_attributes__" 598 (.ref 317)),(en P "__dict__" 600 (.ref 320)),(en P "__weakref__" 602 (.ref 321)),(en P "__doc__" 603 .none)] 4), #[]⟩)::
(nat_lit 319,⟨(.type "type"),none,(.cls ⟨"Floor",[(.type "object")],[(.ref 319),(.type "object")],318,"Floor",true,[],[],false,none,false⟩), #[none,none,(some (.str "Floor" 505)),(some (.str "Floor" 513)),(some (.builtin "object.__new__")),(some (.bool true))]⟩)::
(nat_lit 329,cO "with_weights" "with_weights" 608 170 1 3 324 616)::
(nat_lit 330,fO "with_weights" "with_weights" (at_ 36) m3 329)::
(nat_lit 336,cO "number_of_head" "number_of_head" 619 177 3 3 331 626)::
(nat_lit 337,fO "number_of_head" "number_of_head" (at_ 37) m3 336)::
(nat_lit 343,cO "moved_ahead" "moved_ahead" 629 182 3 3 338 635)::
(nat_lit 344,fO "moved_ahead" "moved_ahead" (at_ 38) m3 343)::
(nat_lit 348,dO "cleared_line" "cleared_line" 638 184 4 3 345 641)::
(nat_lit 349,fO "cleared_line" "cleared_line" (at_ 39) m3 348)::
(nat_lit 353,dO "cleared" "cleared" 644 186 2 3 350 647)::
(nat_lit 354,fO "cleared" "cleared" (at_ 40) m3 353)::
(nat_lit 360,cO "quotients" "quotients" 650 203 4 3 355 660)::
(nat_lit 361,fO "quotients" "quotients" (at_ 41) m3 360)::
(nat_lit 372,cO "answer_of" "answer_of" 669 213 1 3 367 679)::
(nat_lit 373,fO "answer_of" "answer_of" (at_ 43) m3 372)::
(nat_lit 377,dO "places_of" "places_of" 684 226 2 3 374 687)::
(nat_lit 378,fO "places_of" "places_of" (at_ 45) m4 377)::
(nat_lit 384,cO "first_plan" "first_plan" 690 228 2 3 379 697)::
(nat_lit 385,fO "first_plan" "first_plan" (at_ 46) m4 384)::
(nat_lit 391,cO "has_door" "has_door" 700 233 3 3 386 706)::
(nat_lit 392,fO "has_door" "has_door" (at_ 47) m4 391)::
(nat_lit 398,cO "doors_of" "doors_of" 709 235 2 3 393 717)::
(nat_lit 399,fO "doors_of" "doors_of" (at_ 48) m4 398)::
(nat_lit 405,cO "better_doors" "better_doors" 720 245 3 3 400 729)::
(nat_lit 406,fO "better_doors" "better_doors" (at_ 49) m4 405)::
(nat_lit 412,cO "ways_from" "ways_from" 732 252 3 3 407 739)::
(nat_lit 413,fO "ways_from" "ways_from" (at_ 50) m4 412)::
(nat_lit 417,dO "whole_row" "whole_row" 742 257 1 3 414 745)::
(nat_lit 418,fO "whole_row" "whole_row" (at_ 51) m4 417)::
(nat_lit 424,cO "led_row" "led_row" 748 260 5 3 419 758)::
(nat_lit 425,fO "led_row" "led_row" (at_ 52) m4 424)::
(nat_lit 429,dO "row_of" "row_of" 761 266 3 3 426 764)::
(nat_lit 430,fO "row_of" "row_of" (at_ 53) m4 429)::
(nat_lit 434,dO "worths_by" "worths_by" 767 272 2 3 431 770)::
(nat_lit 435,fO "worths_by" "worths_by" (at_ 54) m4 434)::
(nat_lit 441,cO "worths_against" "worths_against" 775 275 3 3 436 782)::
(nat_lit 442,fO "worths_against" "worths_against" (at_ 56) m5 441)::
(nat_lit 448,cO "against" "against" 785 279 3 3 443 795)::
(nat_lit 449,fO "against" "against" (at_ 57) m5 448)::
(nat_lit 455,cO "started" "started" 800 290 3 3 450 806)::
(nat_lit 456,fO "started" "started" (at_ 59) m6 455)::
(nat_lit 457,⟨(.type "tuple"),none,(.seq #[(.str "one" 809), .none] 0), #[]⟩)::
(nat_lit 463,cO "mended" "mended" 810 294 3 3 458 820)::
(nat_lit 464,⟨(.type "function"),none,(.func ⟨"mended","mended",(dA (at_ 60)),(.stmts (dB (at_ 60))),(dS (at_ 60)),3,[],(.ref 457), .none, .none,m6,none,(.ref 463), .none,0⟩), #[]⟩)::
(nat_lit 470,cO "worths" "worths" 823 304 1 3 465 827)::
(nat_lit 471,fO "worths" "worths" (at_ 61) m6 470)::
(nat_lit 477,cO "_law_at" "_law_at" 832 307 2 3 472 839)::
(nat_lit 478,fO "_law_at" "_law_at" (at_ 63) m7 477)::
(nat_lit 484,cO "_law_stream" "_law_stream" 842 314 2 3 479 850)::
(nat_lit 485,fO "_law_stream" "_law_stream" (at_ 64) m7 484)::
(nat_lit 491,cO "_law_lowest" "_law_lowest" 853 321 2 3 486 860)::
(nat_lit 492,fO "_law_lowest" "_law_lowest" (at_ 65) m7 491)::
(nat_lit 498,cO "_law_pay" "_law_pay" 863 326 2 3 493 869)::
(nat_lit 499,fO "_law_pay" "_law_pay" (at_ 66) m7 498)::
(nat_lit 503,dO "_law_doors" "_law_doors" 872 331 4 3 500 875)::
(nat_lit 504,fO "_law_doors" "_law_doors" (at_ 67) m7 503)::
(nat_lit 510,cO "_law_by_digits" "_law_by_digits" 878 340 1 3 505 882)::
(nat_lit 511,fO "_law_by_digits" "_law_by_digits" (at_ 68) m7 510)::
(nat_lit 517,cO "_law_things" "_law_things" 885 342 4 3 512 895)::
(nat_lit 518,fO "_law_things" "_law_things" (at_ 69) m7 517)::
(nat_lit 524,cO "_law_share_of" "_law_share_of" 898 351 2 3 519 905)::
(nat_lit 525,fO "_law_share_of" "_law_share_of" (at_ 70) m7 524)::
(nat_lit 531,cO "_law_floor" "_law_floor" 908 355 1 3 526 925)::
(nat_lit 532,fO "_law_floor" "_law_floor" (at_ 71) m7 531)::
(nat_lit 536,dO "_law_copy" "_law_copy" 928 377 1 3 533 931)::
(nat_lit 537,fO "_law_copy" "_law_copy" (at_ 72) m7 536)::
(nat_lit 543,cO "_law_plan" "_law_plan" 934 379 3 3 538 944)::
(nat_lit 544,fO "_law_plan" "_law_plan" (at_ 73) m7 543)::
(nat_lit 550,cO "_law_less" "_law_less" 947 388 2 3 545 952)::
(nat_lit 551,fO "_law_less" "_law_less" (at_ 74) m7 550)::
(nat_lit 557,cO "_law_shown" "_law_shown" 955 390 3 3 552 963)::
(nat_lit 558,fO "_law_shown" "_law_shown" (at_ 75) m7 557)::
(nat_lit 562,dO "_law_due" "_law_due" 966 394 4 3 559 969)::
(nat_lit 563,fO "_law_due" "_law_due" (at_ 76) m7 562)::
(nat_lit 569,cO "_law_whole" "_law_whole" 972 413 1 3 564 976)::
(nat_lit 570,fO "_law_whole" "_law_whole" (at_ 77) m7 569)::
(nat_lit 576,cO "_law_table" "_law_table" 979 415 2 3 571 985)::
(nat_lit 577,fO "_law_table" "_law_table" (at_ 78) m7 576)::
(nat_lit 583,cO "law" "law" 988 424 1 3 578 1004)::
(nat_lit 584,fO "law" "law" (at_ 79) m7 583)::[]
noncomputable abbrev H:Hook:=kHook K [2,3,23,24,37,49,68,87,106,125,133,134,140,141,147,148,154,155,161,162,168,169,170,176,177,183,184,190,191,195,196,200,201,205,206,212,213,214,220,221,227,228,234,235,241,242,253,254,260,261,267,268,274,275,281,282,288,289,300,301,305,306,310,311,315,316,318,319,329,330,336,337,343,344,348,349,353,354,360,361,372,373,377,378,384,385,391,392,398,399,405,406,412,413,417,418,424,425,429,430,434,435,441,442,448,449,455,456,457,463,464,470,471,477,478,484,485,491,492,498,499,503,504,510,511,517,518,524,525,531,532,536,537,543,544,550,551,557,558,562,563,569,570,576,577,583,584] (λ_=>by kernel_rfl)
abbrev Xt:Shared->Bool:=λs=>xlAt q [] s&&recOk (RowW.records row.toRowW) s
theorem Zv{A B C:Type}{o:Option C}{f:C->A}{g:C->B}{a:A}{b:B}(h:o.map f=some a)(k:o.map g=some b):o.map (λs=>(f s,g s))=some (a,b):=by
  cases o with
  | none=>exact nomatch h
  | some c=>injection h with h;injection k with k;subst h;subst k;rfl
section
variable{A B C D E F G X:Type}{o:Option X}{f:X->A×B×C×D×E×F×G}{t:A×B×C×D×E×F×G}
def p1:A×B×C×D×E×F×G->A
  | (a,_,_,_,_,_,_)=>a
def p2:A×B×C×D×E×F×G->B×C
  | (_,b,c,_,_,_,_)=>(b,c)
def p3:A×B×C×D×E×F×G->D
  | (_,_,_,d,_,_,_)=>d
def p5:A×B×C×D×E×F×G->E
  | (_,_,_,_,e,_,_)=>e
def p6:A×B×C×D×E×F×G->F
  | (_,_,_,_,_,f,_)=>f
def p4:A×B×C×D×E×F×G->G
  | (_,_,_,_,_,_,g)=>g
theorem pr(h:o.map (λx=>p1 (f x))=some t.1)(g:o.map (λx=>p2 (f x))=some (t.2.1,t.2.2.1))(k:o.map (λx=>p3 (f x))=some t.2.2.2.1)(k1:o.map (λx=>p5 (f x))=some t.2.2.2.2.1)(k2:o.map (λx=>p6 (f x))=some t.2.2.2.2.2.1)(l:o.map (λx=>p4 (f x))=some t.2.2.2.2.2.2):o.map f=some t:=by
  cases o with
  | none=>exact nomatch h
  | some x=>
    replace h:p1 (f x)=t.1:=aaz h;replace g:p2 (f x)=(t.2.1,t.2.2.1):=aaz g;replace k:p3 (f x)=t.2.2.2.1:=aaz k;replace k1:p5 (f x)=t.2.2.2.2.1:=aaz k1;replace k2:p6 (f x)=t.2.2.2.2.2.1:=aaz k2;replace l:p4 (f x)=t.2.2.2.2.2.2:=aaz l;show some (f x)=some t;revert h g k k1 k2 l;generalize f x=u;obtain ⟨a,b,c,d,e,f',y⟩:=u;obtain ⟨a',b',c',d',e',f'',y'⟩:=t;intro h g k k1 k2 l;cases (h:a=a');cases (g:(b,c)=(b',c'));cases (k:d=d');cases (k1:e=e');cases (k2:f'=f'');cases (l:y=y');rfl
end
def VR{A B:Type}(o:Option A)(c:A->Bool)(T:A->Option B):Option (A×B):=o.bind λa=>match c a with
  | true=>(T a).map λb=>(a,b)
  | false=>none
def VI {A B:Type} (o:Option A) (c:A->Bool) (T:A->Option B) (k:A->B->Bool):Option B:=o.bind λa=>match c a with
  | true=>(T a).bind λb=>match k a b with
    | true=>some b
    | false=>none
  | false=>none
theorem ZV {A B C:Type} {o:Option A} {c:A->Bool} {T:A->Option B} {k:A->B->Bool} {g:B->C} {v:C} (h:(VR o c T).map (λx=>k x.1 x.2)=some true) (l:(VR o c T).map (λx=>g x.2)=some v):(VI o c T k).map g=some v:=by
  unfold VR at h l;unfold VI;cases o with
  | none=>exact nomatch h
  | some a=>
    dsimp only [Option.bind] at h l⊢;cases hc:c a with
    | false=>rw [hc] at h;exact nomatch h
    | true=>
      rw [hc] at h l;dsimp only at h l⊢;cases hT:T a with
      | none=>rw [hT] at h;exact nomatch h
      | some b=>
        rw [hT] at h l;injection h with h;injection l with l
        dsimp only [Option.bind];rw [show k a b=true from h];exact aaZ some l
noncomputable abbrev oA(p:Program)(w:World)(N:Nat):Option Shared:=(Fast.tw10274390034422433532 Fast.tw14364793385576792824 (opening p) w N (Fast.tw1435165496053646825 (opening p)).1 (Fast.tw1435165496053646825 (opening p)).2).bind (fenceModules? p)
abbrev cA(s:Shared):Bool:=s.heap.isNs mainGlobals&&s.gens.size==0
noncomputable abbrev tA(p:Program)(w:World)(N:Nat)(s₀:Shared):Option Shared:=Fast.tw14082659384304107361 Fast.tw14364793385576792824 p w s₀.heap.objs.size (s₀.heap.nsMap mainGlobals "__annotations__") N s₀ (topStub p)
abbrev kA(p:Program)(s₀ s₁:Shared):Bool:=staticsOk (importedModules p.main.body) s₀.heap s₁.heap&&namesBound p s₁.heap&&gensDone s₁&&laidKept s₀.heap s₁.heap
theorem oe(p:Program)(w:World)(N:Nat):openEnds treeTable p w N=VI (oA p w N) cA (tA p w N) (kA p):=by unfold openEnds fencedOpening topFrom VI oA tA;rewrite [Fast.te14082659384304107361,Fast.te14364793385576792824,Fast.te10274390034422433532,Fast.te1435165496053646825];rfl
noncomputable abbrev go(w:World):=VR (oA row.prog w 8244) cA (tA row.prog w 8244)
abbrev gd:=openGood q ["TURNED_KINDS","mended"]
noncomputable abbrev sn(x:Shared×Shared):=Fast.tw4187177175401517315 q ["TURNED_KINDS","mended"] (importedModules row.prog.main.body) Xt true x.2
abbrev Lf(w:World):Prop:=(openEnds treeTable row.prog w 8244).map (λs=>(openSeen q ["TURNED_KINDS","mended"] (importedModules row.prog.main.body) Xt true s,H.obs s))=some (openGood q ["TURNED_KINDS","mended"],H.val w)
theorem mS{α β γ}{o:Option α}{f:α->β}{g:α->γ}{a b}(h:o.map (λx=>(f x,g x))=some (a,b)):o.map f=some a∧o.map g=some b:=by cases o<;>simp_all
theorem lf{w:World}(la:(go w).map (λx=>p1 (sn x))=some gd.1)(lc:(go w).map (λx=>p3 (sn x))=some gd.2.2.2.1)(lg:(go w).map (λx=>p6 (sn x))=some gd.2.2.2.2.2.1)(h:(go w).map (λx=>(p2 (sn x),p5 (sn x),p4 (sn x)))=some ((gd.2.1,gd.2.2.1),gd.2.2.2.2.1,gd.2.2.2.2.2.2))(u:(go w).map (λx=>(kA row.prog x.1 x.2,H.obs x.2))=some (true,(H.val w))):Lf w:=Zv (by
    rewrite [oe,Fast.te4187177175401517315]
    exact ZV (mS u).1 (pr la (mS h).1 lc (mS (mS h).2).1 lg (mS (mS h).2).2)) (by
    rewrite [oe]
    exact ZV (mS u).1 (mS u).2)
theorem la0(w:World):(go (w.withFollow "special-get-raises" false)).map (λx=>p1 (sn x))=some gd.1:=by kernel_rfl
theorem lc0(w:World):(go (w.withFollow "special-get-raises" false)).map (λx=>p3 (sn x))=some gd.2.2.2.1:=by kernel_rfl
theorem lg0(w:World):(go (w.withFollow "special-get-raises" false)).map (λx=>p6 (sn x))=some gd.2.2.2.2.2.1:=by kernel_rfl
theorem lh0(w:World):(go (w.withFollow "special-get-raises" false)).map (λx=>(p2 (sn x),p5 (sn x),p4 (sn x)))=some ((gd.2.1,gd.2.2.1),gd.2.2.2.2.1,gd.2.2.2.2.2.2):=by kernel_rfl
theorem lo0(w:World):(go (w.withFollow "special-get-raises" false)).map (λx=>(kA row.prog x.1 x.2,H.obs x.2))=some (true,(H.val (w.withFollow "special-get-raises" false))):=by kernel_rfl
theorem la1(w:World):(go (w.withFollow "special-get-raises" true)).map (λx=>p1 (sn x))=some gd.1:=by kernel_rfl
theorem lc1(w:World):(go (w.withFollow "special-get-raises" true)).map (λx=>p3 (sn x))=some gd.2.2.2.1:=by kernel_rfl
theorem lg1(w:World):(go (w.withFollow "special-get-raises" true)).map (λx=>p6 (sn x))=some gd.2.2.2.2.2.1:=by kernel_rfl
theorem lh1(w:World):(go (w.withFollow "special-get-raises" true)).map (λx=>(p2 (sn x),p5 (sn x),p4 (sn x)))=some ((gd.2.1,gd.2.2.1),gd.2.2.2.2.1,gd.2.2.2.2.2.2):=by kernel_rfl
theorem lo1(w:World):(go (w.withFollow "special-get-raises" true)).map (λx=>(kA row.prog x.1 x.2,H.obs x.2))=some (true,(H.val (w.withFollow "special-get-raises" true))):=by kernel_rfl
theorem left:LeftO row.prog q ["TURNED_KINDS","mended"] Xt H.obs H.val 8244:=byRow2 "special-get-raises" (P:=Lf) (λw=>lf (la0 w) (lc0 w) (lg0 w) (lh0 w) (lo0 w)) (λw=>lf (la1 w) (lc1 w) (lg1 w) (lh1 w) (lo1 w))
end Hd
theorem gV:2<=PySem.sizeLine:=by decide
abbrev fI:=PySem.W.Frag
namespace L2
open PySem PySem.Spec PyProof.Rows
variable{us:List Value}{a b dx C:Addr}{P prog:Program}{w:World}{h h' base:Heap}{ζ:List (Addr×Obj)}{s:Shared}{g':Array GenState}{ch fp:List Addr}{i:Nat}{x:Str}{M:Model}{A:Around}{E Q:Value->Shared->Prop}{u:Value}{pos:Pos}{e c tg:Expr}{es:List Expr}{body:List Stmt}{f:Value->Value->Sem Value}{op:CmpOp}{mA mg:Str->Option Value}{kw:List (Str×Value)}{outer:List Env}{ps:List Str}
abbrev Key:=Sum Int Str
def uT:Key->Value->Bool
 | .inl k,v=>Value.isInt k v
 | .inr x,v=>Value.isStrOf x v
def YW(w:World):Key->Int
 | .inl k=>hashInt k
 | .inr x=>hashStr w x
theorem bA:∀{k:Key} {v:Value},uT k v=true->(∃i t,k=Sum.inl i/\v=Value.int i t)\/(∃x t,k=Sum.inr x/\v=Value.str x t)
 | .inl i,v,h=>by obtain ⟨t,e⟩:=Value.isInt_shape (k:=i) (v:=v) h;exact .inl ⟨i,t,rfl,e⟩
 | .inr x,v,h=>by obtain ⟨t,e⟩:=Value.isStrOf_shape (x:=x) (v:=v) h;exact .inr ⟨x,t,rfl,e⟩
theorem FP(i:Int)(t:Tok):uT (.inl i) (.int i t)=true:=by simp [uT,Value.isInt]
theorem FN(x:Str)(t:Tok):uT (.inr x) (.str x t)=true:=by simp [uT,Value.isStrOf]
theorem O9(a b:Int):decide ((Sum.inl a:Key)=Sum.inl b)=(a==b):=by
 by_cases e:a=b
 ·subst e;simp
 ·have h:¬(Sum.inl a:Key)=Sum.inl b:=λq=>e (Sum.inl.inj q);rw [aaI h];exact (beq_eq_false_iff_ne.mpr e).symm
theorem Qt(a b:Str):decide ((Sum.inr a:Key)=Sum.inr b)=decide (a=b):=by
 by_cases e:a=b
 ·subst e;simp
 ·have h:¬(Sum.inr a:Key)=Sum.inr b:=λq=>e (Sum.inr.inj q);rw [aaI h,aaI e]
theorem Qc(a:Int)(b:Str):decide ((Sum.inl a:Key)=Sum.inr b)=false:=aaI (λq=>nomatch q)
theorem Pq(a:Str)(b:Int):decide ((Sum.inr a:Key)=Sum.inl b)=false:=aaI (λq=>nomatch q)
def bG(prog:Program)(w:World):PySem.KeyKind prog w Key where
 is:=uT
 hash:=YW w
 inj:=λv a b ha hb=>by
  rcases bA ha with ⟨i,t,rfl,rfl⟩ | ⟨x,t,rfl,rfl⟩
  ·rcases bA hb with ⟨j,u,rfl,e⟩ | ⟨y,u,rfl,e⟩
   ·injection e with e1 _;rw [e1]
   ·exact nomatch e
  ·rcases bA hb with ⟨j,u,rfl,e⟩ | ⟨y,u,rfl,e⟩
   ·exact nomatch e
   ·injection e with e1 _;rw [e1]
 byValue:=λk v h=>by rcases bA h with ⟨i,t,rfl,rfl⟩ | ⟨x,t,rfl,rfl⟩ <;> rfl
 pyHash:=λhv h=>by
  rcases bA hv with ⟨i,t,rfl,rfl⟩ | ⟨x,t,rfl,rfl⟩
  ·exact wpAny_pyHash_int h
  ·exact wpAny_pyHash_str h
 eqBool:=λhu hv h=>by
  rcases bA hu with ⟨i,t,rfl,rfl⟩ | ⟨x,t,rfl,rfl⟩
  ·rcases bA hv with ⟨j,u,rfl,rfl⟩ | ⟨y,u,rfl,rfl⟩
   ·rw [O9] at h;exact wpAny_eqBool_int h
   ·rw [Qc] at h;exact SeqAt.EqAt.int_str i t y u _ _ _ _ h
  ·rcases bA hv with ⟨j,u,rfl,rfl⟩ | ⟨y,u,rfl,rfl⟩
   ·rw [Pq] at h;exact SeqAt.EqAt.str_int x t j u _ _ _ _ h
   ·rw [Qt] at h;exact wpAny_eqBool_str h
 «strs»:=λk x t v h=>by
  rcases bA h with ⟨i,u,rfl,e⟩ | ⟨y,u,rfl,e⟩
  ·exact nomatch e
  ·injection e with e1 _
   subst e1;cases v <;> rfl
theorem AQ(prog:Program)(w:World)(i:Int)(t:Tok):(bG prog w).is (.inl i) (.int i t)=true:=FP i t
theorem zF(prog:Program)(w:World)(x:Str)(t:Tok):(bG prog w).is (.inr x) (.str x t)=true:=FN x t
inductive V where
 | aU | bl (b:Bool) | int (i:Int) | str (x:Str) | Hf (b:Array UInt8) | Pr (b:UInt64) | ref (a:Addr) | ty (n:String)
 deriving DecidableEq
variable{v:V}
def aH:V->Value->Prop
 | .aU,u=>u=Value.none
 | .bl b,u=>u=Value.bool b
 | .int i,u=>∃t,u=Value.int i t
 | .str x,u=>∃t,u=Value.str x t
 | .Hf b,u=>∃t,u=Value.bytes b t
 | .Pr b,u=>∃t,u=Value.float b t
 | .ref a,u=>u=Value.ref a
 | .ty n,u=>u=Value.type n
abbrev aB:List V->List Value->Prop:=Paired aH
theorem aB.length{xs:List V}(r:aB xs us):xs.length=us.length:=Paired.length r
theorem aB.get:∀{xs:List V} {us:List Value} {i:Nat} {x:V},aB xs us->xs[i]? =some x->∃u,us[i]? =some u/\aH x u
 | _,_,_,_, .nil,e=>by simp at e
 | _,_,0,_, .cons r _,e=>by simp at e;subst e;exact ⟨_,rfl,r⟩
 | _,_,i+1,x, .cons _ t,e=>by obtain ⟨u,h1,h2⟩:=aB.get (i:=i) (x:=x) t (by simpa using e);exact ⟨u,by simpa using h1,h2⟩
theorem aB.set{x:V}{u:Value}(r:aH x u):∀{xs:List V} {us:List Value} (i:Nat),aB xs us->aB (xs.set i x) (us.set i u)
 | _,_,_, .nil=> .nil
 | _,_,0, .cons _ t=> .cons r t
 | _,_,i+1, .cons q t=> .cons q (aB.set r i t)
theorem aB.append:∀{xs ys:List V} {us ws:List Value},aB xs us->aB ys ws->aB (xs++ys) (us++ws)
 | _,_,_,_, .nil,s=>s
 | _,_,_,_, .cons r t,s=> .cons r (aB.append t s)
theorem aB.take:∀{xs:List V} {us:List Value} (n:Nat),aB xs us->aB (xs.take n) (us.take n)
 | _,_,0,_=> .nil
 | _,_,_+1, .nil=> .nil
 | _,_,n+1, .cons r t=> .cons r (aB.take n t)
theorem aB.drop:∀{xs:List V} {us:List Value} (n:Nat),aB xs us->aB (xs.drop n) (us.drop n)
 | _,_,0,r=>r
 | _,_,_+1, .nil=> .nil
 | _,_,n+1, .cons _ t=>aB.drop n t
def kz:Option V->Option Value->Prop
 | some v,some u=>aH v u
 | none,none=>True
 | _,_=>False
def KV{κ:Type}:List (κ×V)->List (κ×Value)->Prop:=Paired λ(p:κ×V) (q:κ×Value)=>p.1=q.1/\aH p.2 q.2
def kV:Key->V
 | .inl i=> .int i
 | .inr x=> .str x
inductive HO where
 | lst (xs:List V)
 | tup (xs:List V)
 | dK (Ρ:List (Key×V)) | dT (Ρ:List (List Key×V))
 | set (S:Int->Bool) (n:Nat)
 | ins (C dx:Addr) (fs:List (Str×V))
 | own (x:Addr)
 | xd (fs:List (Str×V))
 | met (f x:Addr)
 | V_ (lo hi:Int)
 | yv (o:Obj) (u:HO)
 | Mg (ps:Array Value)
 | ext (φ:Heap->Prop)
variable{o:HO}
abbrev Hp:=Addr->Option HO
def upd(H:Hp)(a:Addr)(o:HO):Hp:=λb=>if b=a then some o else H b
theorem au{H:Hp}:upd H a o a=some o:=by unfold upd;rw [if_pos rfl]
theorem Ξ{H:Hp}(h:b≠a):upd H a o b=H b:=by unfold upd;rw [if_neg h]
theorem Sn{H:Hp}{u:HO}(h:H a=some o)(h':H b=some u)(d:o≠u):a≠b:=by intro e;subst e;rw [h] at h';exact d (aaz h')
theorem bW{H:Hp}(h:H a=some o)(h':H b=none):a≠b:=by intro e;subst e;rw [h] at h';cases h'
section
variable(P:Program)(w:World)
def b_(H:Hp)(h:Heap)(a:Addr):HO->Prop
 | .lst xs=>xs.length<=sizeLine/\∃(its:List Value) (n:Nat),aB xs its/\h.get? a=some {cls:= .type "list",data:= .seq its.toArray n}
 | .tup xs=>xs.length<=sizeLine/\∃its:List Value,aB xs its/\IsTup h a its.toArray
 | .dK Ρ=>Ρ.length<=sizeLine/\(a==sysModules)=false/\∃vs,KV Ρ vs/\h.DictOf (bG P w) a vs
 | .dT Ρ=>Ρ.length<=sizeLine/\(a==sysModules)=false/\∃xs:List (List Key×Addr×Value),
   Paired (λ(p:List Key×V) (q:List Key×Addr×Value)=>p.1=q.1/\H q.2.1=some (.tup (p.1.map kV))/\aH p.2 q.2.2) Ρ xs/\
   ∃o es ep,h.get? a=some o/\o.ExactDict/\o.data= .dict es ep/\es.toList=xs.map (entryOfKey (tupleKind (bG P w)))/\(xs.map (·.1)).Nodup
 | .set S n=>h.SetOf (intKind P w) a S n
 | .ins C dx fs=>H dx=some (.own a)/\fs.length<=1000/\dx≠a/\h.get? a=some (PySem.W.instObj C dx)/\
   ∃mA,h.Ns1 dx mA/\(∀f,kz (fs.lookup f) (mA f))/\PySem.Within mA (fs.map (·.1))
 | .own _=>∃o,h.get? a=some o
 | .xd fs=>∃mA,h.Ns1 a mA/\∀f,kz (fs.lookup f) (mA f)
 | .V_ lo hi=>∃t u v,h.get? a=some {cls:= .type "range",data:= .fields #[.int lo t, .int hi u, .int 1 v]}
 | .yv o u=>h.get? a=some o/\b_ H h a u
 | .Mg ps=>h.get? a=some {cls:= .none,data:= .fields ps}
 | .met f x=>h.get? a=some (PySem.W.methodObj (.ref f) (.ref x))
 | .ext φ=>φ h/\(∃o,h.get? a=some o)/\∀h1 h2:Heap,φ h1->(∀o,h1.get? a=some o->h2.get? a=some o)->φ h2
def ly(H:Hp)(h:Heap):Prop:=∀a o,H a=some o->b_ P w H h a o
end
section
variable{H H':Hp}
theorem b_.lt(x:b_ P w H h a o):a < h.objs.size:=by
 cases o with
 | lst xs=>obtain ⟨_,_,_,_,e⟩:=x;exact aas e
 | tup xs=>obtain ⟨_,_,_,p⟩:=x;exact p.lt
 | dK Ρ=>obtain ⟨_,_,_,_,o,_,_,e,_⟩:=x;exact aas e
 | dT Ρ=>obtain ⟨_,_,_,_,o,_,_,e,_⟩:=x;exact aas e
 | set S n=>obtain ⟨o,_,_,_,e,_⟩:=x;exact aas e
 | ins C dx fs=>obtain ⟨_,_,_,e,_⟩:=x;exact aas e
 | own y=>obtain ⟨_,e⟩:=x;exact aas e
 | xd fs=>obtain ⟨_,⟨_,_,_,e,_⟩,_⟩:=x;exact aas e
 | V_ lo hi=>obtain ⟨_,_,_,e⟩:=x;exact aas e
 | yv ob u=>obtain ⟨e,_⟩:=x;exact aas e
 | Mg ps=>exact aas (show h.get? a=some _ from x)
 | met f y=>exact aas (show h.get? a=some _ from x)
 | ext φ=>obtain ⟨_,⟨_,e⟩,_⟩:=x;exact aas e
theorem Paired.QL{α β:Type}{F G:α->β->Prop}:∀{l₁:List α} {l₂:List β},Paired F l₁ l₂->(∀a b,F a b->G a b)->Paired G l₁ l₂
 | _,_, .nil,_=> .nil
 | _,_, .cons r t,f=> .cons (f _ _ r) (Paired.QL t f)
theorem b_.Cf(x:b_ P w H h a o)(k:∀b u,(b=a\/H b=some (.own a))->h.get? b=some u->h'.get? b=some u)
  (ho:∀b,H b=some (.own a)->H' b=some (.own a)) (ht:∀b xs,H b=some (.tup xs)->H' b=some (.tup xs)):b_ P w H' h' a o:=by
 induction o with
 | lst xs=>obtain ⟨z,its,n,r,e⟩:=x;exact ⟨z,its,n,r,k _ _ (.inl rfl) e⟩
 | tup xs=>obtain ⟨z,its,r,ob,e,c⟩:=x;exact ⟨z,its,r,ob,k _ _ (.inl rfl) e,c⟩
 | dK Ρ=>obtain ⟨z,y,vs,r,ob,es,ep,e,c⟩:=x;exact ⟨z,y,vs,r,ob,es,ep,k _ _ (.inl rfl) e,c⟩
 | dT Ρ=>
  obtain ⟨z,y,xs,r,ob,es,ep,e,c⟩:=x;exact ⟨z,y,xs,Paired.QL r λp q z=>⟨z.1,ht _ _ z.2.1,z.2.2⟩,ob,es,ep,k _ _ (.inl rfl) e,c⟩
 | set S n=>obtain ⟨ob,es,ep,t,e,c⟩:=x;exact ⟨ob,es,ep,t,k _ _ (.inl rfl) e,c⟩
 | ins C dx fs=>
  obtain ⟨d,z,ne,e,mA,⟨od,es,ep,e2,c⟩,r⟩:=x;exact ⟨ho _ d,z,ne,k _ _ (.inl rfl) e,mA,⟨od,es,ep,k _ _ (.inr d) e2,c⟩,r⟩
 | own y=>obtain ⟨ob,e⟩:=x;exact ⟨ob,k _ _ (.inl rfl) e⟩
 | xd fs=>obtain ⟨mA,⟨od,es,ep,e,c⟩,r⟩:=x;exact ⟨mA,⟨od,es,ep,k _ _ (.inl rfl) e,c⟩,r⟩
 | V_ lo hi=>obtain ⟨t,u,v,e⟩:=x;exact ⟨t,u,v,k _ _ (.inl rfl) e⟩
 | yv ob u ih=>obtain ⟨e,q⟩:=x;exact ⟨k _ _ (.inl rfl) e,ih q⟩
 | Mg ps=>
  have e:h.get? a=some {cls:= .none,data:= .fields ps}:=x;show h'.get? a=some {cls:= .none,data:= .fields ps};exact k a _ (.inl rfl) e
 | met f y=>
  have e:h.get? a=some (PySem.W.methodObj (.ref f) (.ref y)):=x;show h'.get? a=some (PySem.W.methodObj (.ref f) (.ref y));exact k a _ (.inl rfl) e
 | ext φ=>obtain ⟨p,⟨o,e⟩,st⟩:=x;exact ⟨st _ _ p λo q=>k _ _ (.inl rfl) q,⟨o,k _ _ (.inl rfl) e⟩,st⟩
theorem ly.lt(x:ly P w H h)(e:H a=some o):a < h.objs.size:=(x a o e).lt
theorem ly.fresh(x:ly P w H h)(e:h.objs.size<=a):H a=none:=by
 cases q:H a with
 | none=>rfl
 | some u=>exact aaK (aat (x.lt q) e) (abu _)
theorem ly.kept(x:ly P w H h)(k:∀b u,h.get? b=some u->h'.get? b=some u):ly P w H h':=λa o e=>
 (x a o e).Cf (λb u _ q=>k b u q) (λ_ q=>q) λ_ _ q=>q
theorem ly.laid(x:ly P w H h)(k:∀b u,h.get? b=some u->h'.get? b=some u)(hp:h.objs.size<=a)(new:b_ P w (upd H a o) h' a o):ly P w (upd H a o) h':=λb u e=>by
 have hn:=x.fresh hp;by_cases hb:b=a
 ·subst hb;rw [au] at e;cases e;exact new
 ·rw [Ξ hb] at e;exact (x b u e).Cf (λc v _ q=>k c v q) (λc q=>by rw [Ξ (bW q hn)];exact q) λc xs q=>by rw [Ξ (bW q hn)];exact q
end
def Rd(H:Hp)(a:Addr)(u:HO):Prop:=H a=some u\/∃o,H a=some (.yv o u)
theorem Rd.ok{H:Hp}{u:HO}(r:Rd H a u)(x:ly P w H h):b_ P w H h a u:=by
 rcases r with r | ⟨o,r⟩
 ·exact x a u r
 ·obtain ⟨_,q⟩:=x a _ r;exact q
def RB:Option HO->Prop
 | some (.lst _)=>True
 | some (.dK _)=>True
 | some (.dT _)=>True
 | some (.set _ _)=>True
 | some (.ins _ _ _)=>True
 | some (.ext _)=>True
 | _=>False
section
variable{H:Hp}{x e:Addr}{o':HO}
theorem ly.write(ok:ly P w H h)(mu:RB (H x))(he:e=x\/H e=some (.own x))(k:∀b u,b≠e->h.get? b=some u->h'.get? b=some u)(Rx:∃u,h'.get? e=some u)
  (new:b_ P w (upd H x o') h' x o'):ly P w (upd H x o') h':=λb u q=>by
 have RR:∀c y,H c=some (.own y)->c≠x:=λc y r z=>by subst z;rw [r] at mu;exact mu
 have YN:∀c xs,H c=some (.tup xs)->c≠x:=λc xs r z=>by subst z;rw [r] at mu;exact mu
 by_cases hb:b=x
 ·subst hb;rw [au] at q;cases q;exact new
 ·rw [Ξ hb] at q;by_cases PH:b=e
  ·have q':H b=some (.own x):=by
    rcases he with z | z
    ·exact aaK (PH.trans z) hb
    ·rw [PH];exact z
   rw [q] at q';cases q';obtain ⟨v,hv⟩:=Rx;exact ⟨v,by rw [PH];exact hv⟩
  ·refine (ok b u q).Cf (λc v hc r=>k c v ?_ r) (λc r=>by rw [Ξ (RR c b r)];exact r) λc xs r=>by rw [Ξ (YN c xs r)];exact r
   rcases hc with rfl | hc
   ·exact PH
   ·rintro rfl;rcases he with z | z
    ·exact RR c b hc z
    ·rw [hc] at z;cases z;exact hb rfl
end
structure Un(fs ex:List Addr)(H H':Hp)(h h':Heap):Prop where
 keep:∀b o,h.get? b=some o->H b=none->b∉fs->b∉ex->h'.get? b=some o
 slot:∀b o,h.get? b=some o->H b=none->b∈fs->b∉ex->∃sl,h'.get? b=some {o with slots:=sl}
 free:∀b o,h.get? b=some o->H b=none->b∉ex->H' b=none
 there:∀b o,h.get? b=some o->b∉ex->∃o',h'.get? b=some o'
 qb:∀b xs,H b=some (.tup xs)->H' b=some (.tup xs)
 og:∀b o u,H b=some (.yv o u)->H' b=some (.yv o u)
 qf:∀b ps,H b=some (.Mg ps)->∃more,H' b=some (.Mg (ps++more))
section
variable{fs VU ex ex':List Addr}{H H1 H2:Hp}{h1 h2:Heap}{x e:Addr}
theorem Un.any(u:Un fs ex H H1 h h1){ob:Obj}(q:h.get? b=some ob)(n:H b=none)(hx:b∉ex):∃sl,h1.get? b=some {ob with slots:=sl}:=by
 by_cases hb:b∈fs
 ·exact u.slot b ob q n hb hx
 ·exact ⟨ob.slots,u.keep b ob q n hb hx⟩
theorem Un.kept(k:∀b u,h.get? b=some u->h'.get? b=some u):Un fs ex H H h h':=
 ⟨λb ob q _ _ _=>k b ob q,λb ob q _ _ _=>⟨ob.slots,k b ob q⟩,λ_ _ _ n _=>n,λb ob q _=>⟨ob,k b ob q⟩,λ_ _ q=>q,λ_ _ _ q=>q,λ_ ps q=>⟨#[],by rw [q];simp⟩⟩
theorem Un.refl:Un fs ex H H h h:=Un.kept λ_ _ q=>q
theorem Un.laid(k:∀b u,h.get? b=some u->h'.get? b=some u)(hp:h.objs.size<=a)(hn:H a=none):Un fs ex H (upd H a o) h h' where
 keep:=λb u q _ _ _=>k b u q
 slot:=λb u q _ _ _=>⟨u.slots,k b u q⟩
 free:=λb u q n _=>by rw [Ξ (aaU (aat (aas q) hp))];exact n
 there:=λb u q _=>⟨u,k b u q⟩
 qb:=λb xs q=>by rw [Ξ (bW q hn)];exact q
 og:=λb u xs q=>by rw [Ξ (bW q hn)];exact q
 qf:=λb ps q=>⟨#[],by rw [Ξ (bW q hn),q];simp⟩
theorem Un.write(mu:RB (H x))(he:e=x\/H e=some (.own x))(k:∀b u,b≠e->h.get? b=some u->h'.get? b=some u)(Rx:∃u,h'.get? e=some u):Un fs ex H (upd H x o) h h':=by
 have hx:∀b,H b=none->b≠x:=λb n z=>by subst z;rw [n] at mu;exact mu
 have hb:∀b,H b=none->b≠e:=λb n z=>by
  subst z;rcases he with r | r
  ·exact hx b n r
  ·rw [n] at r;cases r
 have hm:∀b u,H b=some u->¬RB (some u)->b≠x:=λb u q nm z=>by subst z;rw [q] at mu;exact nm mu
 refine ⟨λb u q n _ _=>k b u (hb b n) q,λb u q n _ _=>⟨u.slots,k b u (hb b n) q⟩,λb u q n _=>by rw [Ξ (hx b n)];exact n,λb u q _=> ?_,
  λb xs q=>by rw [Ξ (hm b _ q λz=>z)];exact q,λb u xs q=>by rw [Ξ (hm b _ q λz=>z)];exact q,λb ps q=>⟨#[],by rw [Ξ (hm b _ q λz=>z),q];simp⟩⟩
 by_cases PH:b=e
 ·subst PH;exact Rx
 ·exact ⟨u,k b u PH q⟩
end
def Vg(h:Heap)(H:Hp):List Addr:=(List.range h.objs.size).filter λa=>(H a).isSome
def xH(h:Heap)(H:Hp):Heap:=PySem.W.hideAll h (Vg h H)
theorem Ga(h:Heap)(H:Hp):(xH h H).objs.size=h.objs.size:=PySem.W.hideAll_size _ _
theorem Jo{H:Hp}{o:Obj}(e:h.get? b=some o)(n:H b=none):(xH h H).get? b=some o:=
 PySem.W.hideAll_get _ e λhm=>by have q:(H b).isSome=true:=(List.mem_filter.mp hm).2;rw [n] at q;simp at q
theorem ME{H:Hp}{o:Obj}(e:(xH h H).get? b=some o):h.get? b=some o/\H b=none:=by
 have e':h.get? b=some o:=PySem.W.of_hideAll (Vg h H) e;refine ⟨e', ?_⟩;cases q:H b with
 | none=>rfl
 | some x=>
  have hm:b∈Vg h H:=List.mem_filter.mpr ⟨List.mem_range.mpr (Heap.lt_size e'),by simp [q]⟩;have z:(xH h H).get? b=none:=PySem.W.hideAll_none (Vg h H) hm;rw [z] at e;cases e
structure Mod(K:fI)(mg:Str->Option Value)(base:Heap):Prop where
 Sm:K.In base
 glob:base.Ns mainGlobals mg
 blt:∃mb,base.Ns builtinsNs mb/\∀x:Str,x≠"__name__"->mb x=bootBuiltins x
 nolimit:base.NoLimit
structure Cx where
 prog:Program
 w:World
 K:fI
 mg:Str->Option Value
 base:Heap
 A:Around
 N:List Str
 s₀:Shared
 H₀:Hp
 env:Env
 outer:List Env
 stack:List Env
 ex:List Addr
 fn:Str->Bool
 calm:Bool
 pn:List (Addr×Obj)
 xe:Value->Shared->Prop
variable{X:Cx}
def qe(l:List Env):List Addr:=l.filterMap (·.frame)
abbrev Cx.fs(X:Cx):List Addr:=qe X.outer
def Wv(sc:Scope)(x:Str):Prop:=sc.names.lookup x=some .local\/sc.names.lookup x=some .cell\/sc.names.lookup x=some .free
def Loc(sc:Scope)(x:Str):Prop:=sc.names.lookup x=some .local\/sc.names.lookup x=some .cell
def Zw(env:Env)(h:Heap)(m:Str->Option Value)(x:Str)(u:Value):Prop:=
 (env.kindOf x=some .local/\m x=some u)\/((env.kindOf x=some .cell\/env.kindOf x=some .free)/\∃c,env.cells.lookup x=some c/\h.IsCell c (some u))
structure Cx.Ok(X:Cx):Prop where
 mod:Mod X.K X.mg X.base
 kind:X.env.scope.kind= .function
 glob:X.env.globals=mainGlobals
 blt:X.env.builtins=builtinsNs
 above:X.s₀.heap.objs.size<=X.env.locals
 inj:∀x y c,X.env.cells.lookup x=some c->X.env.cells.lookup y=some c->x=y
 has:∀x,(X.env.kindOf x=some .cell\/X.env.kindOf x=some .free)->∃c,X.env.cells.lookup x=some c
 X0:∀x c,X.fn x=true->X.env.cells.lookup x=some c->X.s₀.heap.objs.size<=c
 hd:X.calm=true->X.A.handled=none
 frames:X.A.frames=some X.stack
 stk:X.stack=X.outer\/(X.stack=X.env::X.outer/\X.env.frame=some X.env.locals)
 ZY:∀b∈X.ex,b≠X.env.locals/\∀x c,X.env.cells.lookup x=some c->c≠b
 bs:∀b o,X.base.get? b=some o->X.s₀.heap.get? b=some o/\X.H₀ b=none
 lG:X.base.objs.size<=X.s₀.heap.objs.size
 Pb:∀b o,X.base.get? b=some o->b∉X.ex
 Py:∀b∈X.ex,b∉X.fs
 uD:X.s₀.heap.FunFrames X.base X.outer
 Tq:∀b∈X.fs,X.H₀ b=none
structure Inv(X:Cx)(ζ:List (Addr×Obj))(σ:List (Option V))(H:Hp)(s:Shared):Prop where
 ok:X.Ok
 os:s.os=X.s₀.os
 bare:AllBare s.gens
 base:Un X.fs X.ex X.H₀ H X.s₀.heap s.heap
 loc:∃m,s.heap.Ns X.env.locals m/\∀(i:Nat) (x:Str) (v:V),X.N[i]? =some x->σ[i]? =some (some v)->Wv X.env.scope x->∃u,aH v u/\Zw X.env s.heap m x u
 cell:∀x c,X.env.cells.lookup x=some c->∃v,s.heap.IsCell c v
 free:H X.env.locals=none
 pY:∀x c,X.env.cells.lookup x=some c->H c=none
 pin:∀p∈X.pn++ζ,s.heap.get? p.1=some p.2/\H p.1=none/\p.1≠X.env.locals/\p.1∉X.fs/\∀v,p.2.data≠ .cell v
 bc:ly X.prog X.w H s.heap
 len:σ.length=X.N.length
section
variable{σ:List (Option V)}{H H':Hp}
theorem Cx.Ok.Y6(ok:X.Ok){o:Obj}(e:X.base.get? b=some o):b∉X.fs:=λhb=>by have:=(ok.uD.mem hb).1;rw [e] at this;cases this
theorem Inv.bs(I:Inv X ζ σ H s):∀b o,X.base.get? b=some o->s.heap.get? b=some o/\H b=none:=λb o e=>
 ⟨I.base.keep b o (I.ok.bs b o e).1 (I.ok.bs b o e).2 (I.ok.Y6 e) (I.ok.Pb b o e),I.base.free b o (I.ok.bs b o e).1 (I.ok.bs b o e).2 (I.ok.Pb b o e)⟩
theorem Inv.bk(I:Inv X ζ σ H s):∀b o,X.base.get? b=some o->s.heap.get? b=some o:=λb o e=>(I.bs b o e).1
theorem Inv.mod(I:Inv X ζ σ H s):Mod X.K X.mg X.base:=I.ok.mod
theorem Inv.pS(I:Inv X ζ σ H s):X.K.In s.heap:=I.ok.mod.Sm.keeps I.bk
theorem Inv.lt(I:Inv X ζ σ H s):X.env.locals < s.heap.objs.size:=let ⟨_,hn,_⟩:=I.loc;hn.lt
theorem Inv.sz(I:Inv X ζ σ H s):X.s₀.heap.objs.size<=s.heap.objs.size:=aax I.ok.above (Nat.le_of_lt I.lt)
theorem Inv.Yd(I:Inv X ζ σ H s)(h:s.heap.objs.size<=a):a∉X.fs:=λhb=>by obtain ⟨_,o,ho,_⟩:=I.ok.uD.mem hb;exact aaK (aat (aas ho) (aax I.sz h)) (abu _)
theorem Inv.Lm(I:Inv X ζ σ H s):∀x c,X.env.cells.lookup x=some c->c≠X.env.locals:=λx c e z=>by obtain ⟨v,o,ho,hd⟩:=I.cell x c e;obtain ⟨m,⟨o',es,ep,EW,MS,_⟩,_⟩:=I.loc;rw [z,EW] at ho;cases ho;rw [MS] at hd;cases hd
theorem Inv.uD(I:Inv X ζ σ H s):s.heap.FunFrames X.base X.outer:=by
 have all:∀(l:List Env),(∀b∈qe l,b∈X.fs)->X.s₀.heap.FunFrames X.base l->s.heap.FunFrames X.base l:=by
  intro l
  induction l with
  | nil=>intro _ _;trivial
  | cons env r ih=>
   intro hs hl;obtain ⟨hk,⟨L,o,hf,hn,ho,hd⟩,hr⟩:=hl;have hL:L∈X.fs:=hs L (by unfold qe;rw [List.filterMap_cons,hf];exact List.mem_cons_self);obtain ⟨sl,e⟩:=I.base.slot L o ho (I.ok.Tq L hL) hL λz=>I.ok.Py L z hL;exact ⟨hk,⟨L,_,hf,hn,e,hd⟩,ih (λb hb=>hs b (by unfold qe;rw [List.filterMap_cons,hf];exact List.mem_cons_of_mem _ hb)) hr⟩
 exact all X.outer (λ_ hb=>hb) I.ok.uD
theorem Inv.stack(I:Inv X ζ σ H s):s.heap.FunFrames X.base X.stack:=by
 rcases I.ok.stk with e | ⟨e,hf⟩
 ·rw [e];exact I.uD
 ·rw [e];obtain ⟨m,hn,_⟩:=I.loc;refine .cons (by rw [I.ok.kind];decide) hf hn ?_ I.uD;exact Heap.get?_none_of_le (aax I.ok.lG I.ok.above)
theorem Inv.yh(I:Inv X ζ σ H s):∀b∈qe X.stack,b∈X.env.locals::X.fs:=λb hb=>by
 rcases I.ok.stk with e | ⟨e,hf⟩
 ·rw [e] at hb;exact aac _ hb
 ·rw [e] at hb;unfold qe at hb;rw [acg,hf] at hb;exact hb
theorem Inv.wC(I:Inv X ζ σ H s):∀b∈qe X.stack,H b=none:=λb hb=>by
 rcases aaF.mp (I.yh b hb) with e | hb
 ·rw [e];exact I.free
 ·obtain ⟨_,o,ho,_⟩:=I.ok.uD.mem hb;exact I.base.free b o ho (I.ok.Tq b hb) λz=>I.ok.Py b z hb
theorem Inv.step{t':Nat}{d':Drawn}(I:Inv X ζ σ H s)
  (A8:∀b∈ch,(b∈X.ex\/X.s₀.heap.objs.size<=b)/\b≠X.env.locals/\(∀x c,X.env.cells.lookup x=some c->c≠b)/\∀p∈X.pn++ζ,p.1≠b)
  (keep:∀b o,b≠X.env.locals->b∉X.fs->b∉ch->s.heap.get? b=some o->H b=none->h'.get? b=some o)
  (slot:∀b o,b≠X.env.locals->b∈X.fs->b∉ch->s.heap.get? b=some o->H b=none->∃sl,h'.get? b=some {o with slots:=sl}) (free:∀b o,b∉ch->s.heap.get? b=some o->H b=none->H' b=none)
  (there:∀b o,b∉ch->s.heap.get? b=some o->∃o',h'.get? b=some o')
  (qb:∀b xs,H b=some (.tup xs)->H' b=some (.tup xs)) (og:∀b o u,H b=some (.yv o u)->H' b=some (.yv o u)) (qf:∀b ps,H b=some (.Mg ps)->∃more,H' b=some (.Mg (ps++more)))
  (ns:∀m,s.heap.Ns X.env.locals m->h'.Ns X.env.locals m) (bc:ly X.prog X.w H' h') (hg:AllBare g'):
  Inv X ζ σ H' {s with heap:=h',gens:=g',drawn:=d',toks:=t'}:=by
 have neL:∀b o,X.s₀.heap.get? b=some o->b≠X.env.locals:=λb o e=>aaU (aat (aas e) I.ok.above);have Vj:∀b o,X.s₀.heap.get? b=some o->b∉X.ex->b∉ch:=λb o e hx hb=>by
  rcases (A8 b hb).1 with z | z
  ·exact hx z
  ·exact aaK (aat (aas e) z) (abu _)
 have cellK:∀x c,X.env.cells.lookup x=some c->∀v,s.heap.IsCell c v->h'.IsCell c v:=λx c e v ⟨o,ho,hd⟩=>by
  have S8:c∉ch:=λz=>(A8 c z).2.2.1 x c e rfl;by_cases hc:c∈X.fs
  ·obtain ⟨sl,q⟩:=slot c o (I.Lm x c e) hc S8 ho (I.pY x c e);exact ⟨_,q,hd⟩
  ·exact ⟨o,keep c o (I.Lm x c e) hc S8 ho (I.pY x c e),hd⟩
 refine ⟨I.ok,I.os,hg,⟨λb o e n hb hx=> ?_,λb o e n hb hx=> ?_,λb o e n hx=> ?_,λb o e hx=> ?_,λb xs e=>qb b xs (I.base.qb b xs e),λb o xs e=>og b o xs (I.base.og b o xs e),λb ps e=> ?_⟩, ?_,λx c e=> ?_, ?_,λx c e=> ?_,λp hp=> ?_,bc,I.len⟩
 ·exact keep b o (neL b o e) hb (Vj b o e hx) (I.base.keep b o e n hb hx) (I.base.free b o e n hx)
 ·obtain ⟨sl,e1⟩:=I.base.slot b o e n hb hx;obtain ⟨sl',e2⟩:=slot b _ (neL b o e) hb (Vj b o e hx) e1 (I.base.free b o e n hx);exact ⟨sl',e2⟩
 ·obtain ⟨o',e1⟩:=I.base.there b o e hx;exact free b o' (Vj b o e hx) e1 (I.base.free b o e n hx)
 ·obtain ⟨o',e1⟩:=I.base.there b o e hx;exact there b o' (Vj b o e hx) e1
 ·obtain ⟨m1,e1⟩:=I.base.qf b ps e;obtain ⟨m2,e2⟩:=qf b _ e1;exact ⟨m1++m2,by rw [e2,Array.append_assoc]⟩
 ·obtain ⟨m,hn,hl⟩:=I.loc;refine ⟨m,ns m hn,λi x v e1 e2 e3=> ?_⟩;obtain ⟨u,r,l⟩:=hl i x v e1 e2 e3;refine ⟨u,r, ?_⟩;rcases l with l | ⟨k,c,e,z⟩
  ·exact .inl l
  ·exact .inr ⟨k,c,e,cellK x c e _ z⟩
 ·obtain ⟨v,z⟩:=I.cell x c e;exact ⟨v,cellK x c e v z⟩
 ·obtain ⟨m,⟨o,_,_,ho,_⟩,_⟩:=I.loc;exact free _ o (λz=>(A8 _ z).2.1 rfl) ho I.free
 ·obtain ⟨v,o,ho,hd⟩:=I.cell x c e;exact free c o (λz=>(A8 c z).2.2.1 x c e rfl) ho (I.pY x c e)
 ·obtain ⟨e,n,ne,nf,d⟩:=I.pin p hp;have S8:p.1∉ch:=λz=>(A8 p.1 z).2.2.2 p hp rfl;exact ⟨keep p.1 p.2 ne nf S8 e n,free p.1 p.2 S8 e n,ne,nf,d⟩
theorem Inv.un{t':Nat}(I:Inv X ζ σ H s)(u:Un X.fs [] H H' s.heap h')(bc:ly X.prog X.w H' h'):Inv X ζ σ H' {s with heap:=h',toks:=t'}:=by
 obtain ⟨m,⟨o,es,ep,ho,r⟩,_⟩:=id I.loc;obtain ⟨sl,hL⟩:=u.any ho I.free (by simp)
 exact I.step (g':=s.gens) (d':=s.drawn) (ch:=[]) (λ_ z=>nomatch z) (λb o _ hb _ e n=>u.keep b o e n hb (by simp)) (λb o _ hb _ e n=>u.slot b o e n hb (by simp)) (λb o _ e n=>u.free b o e n (by simp)) (λb o _ e=>u.there b o e (by simp)) u.qb u.og u.qf (λm' hm=>by
  obtain ⟨o',V1,Wb,EW,r'⟩:=hm;rw [ho] at EW;cases EW
  exact ⟨_,V1,Wb,hL,r'⟩) bc I.bare
theorem Inv.call{t':Nat}{d':Drawn}(I:Inv X ζ σ H s)(u:Un (qe X.stack) ch H H' s.heap h')(bc:ly X.prog X.w H' h')(hg:AllBare g')
  (A8:∀b∈ch,(b∈X.ex\/X.s₀.heap.objs.size<=b)/\b≠X.env.locals/\(∀x c,X.env.cells.lookup x=some c->c≠b)/\∀p∈X.pn++ζ,p.1≠b):
  Inv X ζ σ H' {s with heap:=h',gens:=g',drawn:=d',toks:=t'}:=by
 obtain ⟨m,⟨o,es,ep,ho,r⟩,_⟩:=id I.loc;obtain ⟨sl,hL⟩:=u.any ho I.free λz=>(A8 _ z).2.1 rfl
 exact I.step (ch:=ch) A8 (λb o hL hb hc e n=>u.keep b o e n (λz=>(aaF.mp (I.yh b z)).elim hL hb) hc) (λb o _ _ hc e n=>u.any e n hc) (λb o hc e n=>u.free b o e n hc) (λb o hc e=>u.there b o e hc) u.qb u.og u.qf (λm' hm=>by
  obtain ⟨o',V1,Wb,EW,r'⟩:=hm;rw [ho] at EW;cases EW
  exact ⟨_,V1,Wb,hL,r'⟩) bc hg
theorem Inv.turned{t':Nat}{it:Addr}(I:Inv X ζ σ H s)(k:∀b o,b≠it->s.heap.get? b=some o->h'.get? b=some o)(hn:H it=none)(hL:it≠X.env.locals)
  (h1:it∈X.ex\/X.s₀.heap.objs.size<=it) (h2:∀x c,X.env.cells.lookup x=some c->c≠it) (h3:∀p∈X.pn++ζ,p.1≠it):Inv X ζ σ H {s with heap:=h',toks:=t'}:=by
 have ZZ:∀b u,H b=some u->b≠it:=λb u e z=>by rw [z,hn] at e;cases e
 refine I.step (g':=s.gens) (d':=s.drawn) (ch:=[it]) (λb hb=> ?_) (λb o _ _ hc e _=>k b o (λz=>hc (by simp [z])) e) (λb o _ _ hc e _=>⟨o.slots,k b o (λz=>hc (by simp [z])) e⟩) (λ_ _ _ _ n=>n)
  (λb o hc e=>⟨o,k b o (λz=>hc (by simp [z])) e⟩) (λ_ _ e=>e) (λ_ _ _ e=>e) (λb ps e=>⟨#[],by rw [e];simp⟩) (λm hm=> ?_) (λb u e=> ?_) I.bare
 ·have e:b=it:=by simpa using hb
  subst e;exact ⟨h1,hL,h2,h3⟩
 ·obtain ⟨o,es,ep,ho,r⟩:=hm;exact ⟨o,es,ep,k _ o (Ne.symm hL) ho,r⟩
 ·refine (I.bc b u e).Cf (λc v hc q=>k c v ?_ q) (λ_ q=>q) λ_ _ q=>q;rcases hc with z | z
  ·rw [z];exact ZZ b u e
  ·exact ZZ c _ z
theorem Inv.tok(I:Inv X ζ σ H s)(t:Nat):Inv X ζ σ H {s with toks:=t}:=I.un (h':=s.heap) (t':=t) Un.refl I.bc
theorem Inv.kept{t':Nat}(I:Inv X ζ σ H s)(k:∀b u,s.heap.get? b=some u->h'.get? b=some u):Inv X ζ σ H {s with heap:=h',toks:=t'}:=I.un (Un.kept k) (I.bc.kept k)
theorem Inv.laid{t':Nat}(I:Inv X ζ σ H s)(k:∀b u,s.heap.get? b=some u->h'.get? b=some u)(hp:s.heap.objs.size<=a)(new:b_ X.prog X.w (upd H a o) h' a o):
  Inv X ζ σ (upd H a o) {s with heap:=h',toks:=t'}:=I.un (Un.laid k hp (I.bc.fresh hp)) (I.bc.laid k hp new)
theorem Inv.write{x e:Addr}{t':Nat}(I:Inv X ζ σ H s)(mu:RB (H x))(he:e=x\/H e=some (.own x))(k:∀b u,b≠e->s.heap.get? b=some u->h'.get? b=some u)(Rx:∃u,h'.get? e=some u)
  (new:b_ X.prog X.w (upd H x o) h' x o):Inv X ζ σ (upd H x o) {s with heap:=h',toks:=t'}:=I.un (Un.write mu he k Rx) (I.bc.write mu he k Rx new)
theorem Inv.EH{NS:List (Addr×Obj)}(I:Inv X ζ σ H s)(h:∀p∈NS,s.heap.get? p.1=some p.2/\H p.1=none/\p.1≠X.env.locals/\p.1∉X.fs/\∀v,p.2.data≠ .cell v):Inv X NS σ H s:=
 ⟨I.ok,I.os,I.bare,I.base,I.loc,I.cell,I.free,I.pY,λp hp=>(aaQ.mp hp).elim (λz=>I.pin p (List.mem_append_left _ z)) (h p),I.bc,I.len⟩
theorem z7{N:List Str}(hN:N.Nodup){j:Nat}(a:N[i]? =some x)(b:N[j]? =some x):i=j:=by obtain ⟨h1,e1⟩:=aaf.mp a;obtain ⟨h2,e2⟩:=aaf.mp b;exact (List.getElem_inj hN).mp (e1.trans e2.symm)
theorem uV{Q:Unit->Shared->Prop}(I:Inv X ζ σ H s)(hN:X.N.Nodup)(hi:X.N[i]? =some x)(hx:Loc X.env.scope x)(r:aH v u)
  (h:∀s',Inv X ζ (σ.set i (some v)) H s'->(∃a,Heap.SameBut a s.heap s'.heap/\(a=X.env.locals\/X.env.cells.lookup x=some a))->Q () s') (hf:X.fn x=true\/X.env.scope.names.lookup x=some .local:=by first | exact .inl rfl | exact .inr rfl | assumption):wpAny M A (storeName X.env x u) Q E s:=by
 obtain ⟨m,hn,hl⟩:=id I.loc;have XR:(X.env.scope.kind== .class || (X.env.scope.kind== .module&&X.env.locals != X.env.globals))=false:=by rw [I.ok.kind];rfl
 have SY:i < σ.length:=by rw [I.len];exact (aaf.mp hi).1
 have Lm:=I.Lm;have tracked:∀{a:Addr} {h':Heap},(∃o,s.heap.get? a=some o/\H a=none)->Heap.SameBut a s.heap h'->ly X.prog X.w H h':=λ{a h'} ha hs b ob e=>by
  obtain ⟨_,_,Oo⟩:=ha;refine (I.bc b ob e).Cf (λc w' hc q=>(hs.2 c ?_).trans q) (λ_ q=>q) λ_ _ q=>q;rintro rfl;rcases hc with rfl | hc
  ·rw [Oo] at e;cases e
  ·rw [Oo] at hc;cases hc
 rcases hx with hk | hk
 ·refine wpAny_storeName_local hk hn (λh' Rt hs=> ?_) XR;obtain ⟨oL,_,_,hoL,_⟩:=id hn;refine h _ ⟨I.ok,I.os,I.bare,⟨λb o e n hb hx=> ?_,λb o e n hb hx=> ?_,I.base.free,λb o e hx=> ?_,I.base.qb,I.base.og,I.base.qf⟩,⟨_,Rt,λj y v' e1 e2 e3=> ?_⟩,λy c e=> ?_,I.free,I.pY,λp hp=> ?_,tracked ⟨oL,hoL,I.free⟩ hs,by simpa using I.len⟩ ⟨_,hs, .inl rfl⟩
  ·exact (hs.2 b (aaU (aat (aas e) I.ok.above))).trans (I.base.keep b o e n hb hx)
  ·obtain ⟨sl,e1⟩:=I.base.slot b o e n hb hx;exact ⟨sl,(hs.2 b (aaU (aat (aas e) I.ok.above))).trans e1⟩
  ·obtain ⟨o',e1⟩:=I.base.there b o e hx;exact ⟨o',(hs.2 b (aaU (aat (aas e) I.ok.above))).trans e1⟩
  ·by_cases hj:j=i
   ·subst hj;rw [hi] at e1;cases e1;rw [aa9 SY] at e2;cases e2;exact ⟨u,r, .inl ⟨hk,by simp⟩⟩
   ·rw [abi (Ne.symm hj)] at e2;obtain ⟨u',r',q⟩:=hl j y v' e1 e2 e3;refine ⟨u',r', ?_⟩;rcases q with ⟨k,e⟩ | ⟨k,c,e,z⟩
    ·refine .inl ⟨k, ?_⟩;have:y≠x:=λe=>hj (z7 hN e1 (e▸hi));simp [this,e]
    ·exact .inr ⟨k,c,e,z.sameBut hs (Lm y c e)⟩
  ·obtain ⟨w',z⟩:=I.cell y c e;exact ⟨w',z.sameBut hs (Lm y c e)⟩
  ·obtain ⟨e,n,ne,nf,d⟩:=I.pin p hp;exact ⟨(hs.2 p.1 ne).trans e,n,ne,nf,d⟩
 ·have Xd:X.fn x=true:=by
   rcases hf with z | z
   ·exact z
   ·rw [z] at hk;cases hk
  obtain ⟨c,hc⟩:=I.ok.has x (.inl hk);obtain ⟨w',z⟩:=I.cell x c hc;refine wpAny_storeName_cell I.ok.kind hk hc z (λh' AM hs=> ?_);obtain ⟨oc,hoc,Ye⟩:=id z;refine h {s with heap:=h'} ⟨I.ok,I.os,I.bare,⟨λb o e n hb hx=> ?_,λb o e n hb hx=> ?_,I.base.free,λb o e hx=> ?_,I.base.qb,I.base.og,I.base.qf⟩,⟨m,hn.sameBut hs (Ne.symm (Lm x c hc)),λj y v' e1 e2 e3=> ?_⟩,λy c' e=> ?_,I.free,I.pY,λp hp=> ?_,tracked ⟨oc,hoc,I.pY x c hc⟩ hs,by simpa using I.len⟩ ⟨c,hs, .inr hc⟩
  ·exact (hs.2 b (aaU (aat (aas e) (I.ok.X0 x c Xd hc)))).trans (I.base.keep b o e n hb hx)
  ·obtain ⟨sl,e1⟩:=I.base.slot b o e n hb hx;exact ⟨sl,(hs.2 b (aaU (aat (aas e) (I.ok.X0 x c Xd hc)))).trans e1⟩
  ·obtain ⟨o',e1⟩:=I.base.there b o e hx;exact ⟨o',(hs.2 b (aaU (aat (aas e) (I.ok.X0 x c Xd hc)))).trans e1⟩
  ·by_cases hj:j=i
   ·subst hj;rw [hi] at e1;cases e1;rw [aa9 SY] at e2;cases e2;exact ⟨u,r, .inr ⟨.inl hk,c,hc,AM⟩⟩
   ·rw [abi (Ne.symm hj)] at e2;obtain ⟨u',r',q⟩:=hl j y v' e1 e2 e3;refine ⟨u',r', ?_⟩;rcases q with q | ⟨k,c',e,z'⟩
    ·exact .inl q
    ·refine .inr ⟨k,c',e,z'.sameBut hs ?_⟩;rintro rfl;exact hj (z7 hN e1 (I.ok.inj _ _ _ e hc▸hi))
  ·by_cases Qp:c'=c
   ·subst Qp;exact ⟨_,AM⟩
   ·obtain ⟨w2,z2⟩:=I.cell y c' e;exact ⟨w2,z2.sameBut hs Qp⟩
  ·obtain ⟨e,n,ne,nf,d⟩:=I.pin p hp;refine ⟨(hs.2 p.1 ?_).trans e,n,ne,nf,d⟩;intro q;rw [q,hoc] at e;have q':oc=p.2:=aaz e;exact d w' (by rw [<-q'];exact Ye)
theorem nv{Q:Unit->Shared->Prop}(I:Inv X ζ σ H s)(hN:X.N.Nodup)(hi:X.N[i]? =some x)(hx:Loc X.env.scope x)(r:aH v u)
  (h:∀s',Inv X ζ (σ.set i (some v)) H s'->Q () s') (hf:X.fn x=true\/X.env.scope.names.lookup x=some .local:=by first | exact .inl rfl | exact .inr rfl | assumption):wpAny M A (storeName X.env x u) Q E s:=
 uV I hN hi hx r (λs' I' _=>h s' I') hf
theorem Inv.UP{s':Shared}(I:Inv X ζ σ H s)(ho:s'.os=s.os)(u:Un (qe X.stack) ch H H' s.heap s'.heap)(bc:ly X.prog X.w H' s'.heap)(hg:AllBare s'.gens)
  (A8:∀b∈ch,(b∈X.ex\/X.s₀.heap.objs.size<=b)/\b≠X.env.locals/\(∀x c,X.env.cells.lookup x=some c->c≠b)/\∀p∈X.pn++ζ,p.1≠b):Inv X ζ σ H' s':=by
 obtain ⟨h',g',d',t',o'⟩:=s';have e:o'=s.os:=ho;subst e;exact I.call (g':=g') (t':=t') (d':=d') u bc hg A8
end
abbrev XK:=Value->Option Addr->Hp->Prop
abbrev St:=List (Option V)
variable{σ:St}
abbrev VK:=V->Hp->Prop
abbrev TE:=St->Hp->VK->Prop
variable{ta te:TE}
abbrev TT:=St->Hp->(Bool->Hp->Prop)->Prop
abbrev TA:=St->Hp->(List V->Hp->Prop)->Prop
structure yq where
 nx:St->Hp->Prop
 rt:VK
 bk:St->Hp->Prop:=λ_ _=>False
 ct:St->Hp->Prop:=λ_ _=>False
abbrev TS:=yq->St->Hp->Prop
def EP(X:Cx)(ζ:List (Addr×Obj))(σ:St)(Q:VK)(u:Value)(s':Shared):Prop:=∃v H',Inv X ζ σ H' s'/\aH v u/\Q v H'
def TP(X:Cx)(ζ:List (Addr×Obj))(σ:St)(Q:Bool->Hp->Prop)(b:Bool)(s':Shared):Prop:=∃H',Inv X ζ σ H' s'/\Q b H'
def AP(X:Cx)(ζ:List (Addr×Obj))(σ:St)(Q:List V->Hp->Prop)(us:List Value)(s':Shared):Prop:=∃vs H',Inv X ζ σ H' s'/\aB vs us/\Q vs H'
def SP(X:Cx)(ζ:List (Addr×Obj))(D:yq)(f:Flow)(s':Shared):Prop:=
 match f with
 | .next=>∃σ' H',Inv X ζ σ' H' s'/\D.nx σ' H'
 | .brk=>∃σ' H',Inv X ζ σ' H' s'/\D.bk σ' H'
 | .cont=>∃σ' H',Inv X ζ σ' H' s'/\D.ct σ' H'
 | .ret u=>∃v σ' H',Inv X ζ σ' H' s'/\aH v u/\D.rt v H'
def PE(X:Cx)(e:Expr)(t:TE):Prop:=
 ∀(ζ:List (Addr×Obj)) (s:Shared) (σ:St) (H:Hp) (Q:VK),Inv X ζ σ H s->t σ H Q->wpAny (model X.prog X.w) X.A (eval e X.env) (EP X ζ σ Q) X.xe s
def PT(X:Cx)(e:Expr)(t:TT):Prop:=
 ∀(ζ:List (Addr×Obj)) (s:Shared) (σ:St) (H:Hp) (Q:Bool->Hp->Prop),Inv X ζ σ H s->t σ H Q->wpAny (model X.prog X.w) X.A (isTrue e X.env (eval e X.env)) (TP X ζ σ Q) X.xe s
def PW(X:Cx)(e:Expr)(t:TT):Prop:=
 ∀(whole:Sem Value) (ζ:List (Addr×Obj)) (s:Shared) (σ:St) (H:Hp) (Q:Bool->Hp->Prop),Inv X ζ σ H s->t σ H Q->wpAny (model X.prog X.w) X.A (isTrue e X.env whole) (TP X ζ σ Q) X.xe s
def PA(X:Cx)(es:List Expr)(t:TA):Prop:=
 ∀(pos:Pos) (ζ:List (Addr×Obj)) (s:Shared) (σ:St) (H:Hp) (Q:List V->Hp->Prop),Inv X ζ σ H s->t σ H Q->wpAny (model X.prog X.w) X.A (spliced (backTo pos (starEach es X.env))) (AP X ζ σ Q) X.xe s
def PS(X:Cx)(st:Stmt)(t:TS):Prop:=
 ∀(ζ:List (Addr×Obj)) (s:Shared) (σ:St) (H:Hp) (D:yq),Inv X ζ σ H s->t D σ H->wpAny (model X.prog X.w) X.A (exec st X.env) (SP X ζ D) X.xe s
def He(X:Cx)(st:List Stmt)(t:TS):Prop:=
 ∀(ζ:List (Addr×Obj)) (s:Shared) (σ:St) (H:Hp) (D:yq),Inv X ζ σ H s->t D σ H->wpAny (model X.prog X.w) X.A (execs st X.env) (SP X ζ D) X.xe s
theorem bF{α:Type}{t:Sem α}{Q Q':α->Shared->Prop}(h:wpAny M A t Q E s)(hQ:∀a s,Q a s->Q' a s):wpAny M A t Q' E s:=ab8 h hQ λ_ _ x=>x
section
def V9(i:Nat):TE:=λσ H Q=>∃v,σ[i]? =some (some v)/\Q v H
def tC(v:V):TE:=λ_ H Q=>Q v H
theorem Pf(hN:X.N[i]? =some x)(hv:Wv X.env.scope x)(hd:(x==("__debug__":Str))=false:=by decide)(EJ:(x==("__classdict__":Str))=false:=by decide):PE X (.Name x pos) (V9 i):=by
 intro ζ s σ H Q I h;obtain ⟨v,e,h⟩:=h;obtain ⟨m,hn,hl⟩:=I.loc;obtain ⟨u,r,l⟩:=hl i x v hN e hv;have fin:EP X ζ σ Q u s:=⟨v,H,I,r,h⟩;rcases l with ⟨hk,hm⟩ | ⟨hk,c,hc,Oa⟩
 ·exact wpAny_Name (wpAny_loadName_local I.ok.kind hk hn hm fin) hd
 ·rcases hk with hk | hk
  ·exact wpAny_Name (wpAny_loadName_cell I.ok.kind hk hc Oa fin) hd
  ·exact wpAny_Name (wpAny_loadName_free I.ok.kind hk hc Oa fin EJ) hd
theorem OT{i j pos}:PE X (.Constant (.int i) j pos) (tC (.int i)):=λ_ _ _ H _ I h=>wpAny_Constant_int ⟨.int i,H,I.tok _,⟨_,rfl⟩,h⟩
theorem Sr{b j pos}:PE X (.Constant (.bool b) j pos) (tC (.bl b)):=λ_ _ _ H _ I h=>Constant_bool ⟨.bl b,H,I,rfl,h⟩
theorem OX{j pos}:PE X (.Constant .none j pos) (tC .aU):=λ_ _ _ H _ I h=>Constant_none ⟨.aU,H,I,rfl,h⟩
theorem Rb{x j pos}:PE X (.Constant (.str x) j pos) (tC (.str x)):=λ_ _ _ H _ I h=>Calls.Constant_str ⟨.str x,H,I.tok _,⟨_,rfl⟩,h⟩
def Gl(X:Cx)(x:Str):Prop:=X.env.kindOf x=some .globalImplicit
theorem qu{H:Hp}(I:Inv X ζ σ H s)(hg:Gl X x)(hm:X.mg x=some u)(h:Q u s)
  (hd:(x==("__debug__":Str))=false:=by decide):wpAny (model X.prog X.w) X.A (eval (.Name x pos) X.env) Q E s:=
 Calls.Name_function_global I.ok.kind hg (Calls.loadGlobal_global (by rw [I.ok.glob];exact I.mod.glob.keeps I.bk) hm h) hd
theorem lV{H:Hp}(I:Inv X ζ σ H s)(hg:Gl X x)(hm:X.mg x=none)(hv:bootBuiltins x=some u)(h:Q u s)
  (hn:x≠"__name__":=by decide) (hd:(x==("__debug__":Str))=false:=by decide):wpAny (model X.prog X.w) X.A (eval (.Name x pos) X.env) Q E s:=by
 obtain ⟨mb,h1,h2⟩:=I.mod.blt;exact Calls.Name_function_global I.ok.kind hg (Calls.loadGlobal_builtin (by rw [I.ok.glob];exact I.mod.glob.keeps I.bk) hm (by rw [I.ok.blt];exact h1.keeps I.bk) ((h2 x hn).trans hv) h) hd
theorem DN(hg:Gl X x)(hm:X.mg x=some u)(r:aH v u)(hd:(x==("__debug__":Str))=false:=by decide):PE X (.Name x pos) (tC v):=
 λ_ _ _ H _ I h=>qu I hg hm ⟨v,H,I,r,h⟩ hd
theorem ND(hg:Gl X x)(hm:X.mg x=none)(hv:bootBuiltins x=some u)(r:aH v u)(hn:x≠"__name__":=by decide)(hd:(x==("__debug__":Str))=false:=by decide):PE X (.Name x pos) (tC v):=
 λ_ _ _ H _ I h=>lV I hg hm hv ⟨v,H,I,r,h⟩ hn hd
variable{a b:Expr}{tb:TE}
def tB(t:TE):TT:=λσ H Q=>t σ H λx H1=>∃c,x= .bl c/\Q c H1
theorem Pe{t:TE}(h:PE X e t)(he:∀whole,isTrue e X.env whole=(do let v<-whole;standAt e.pos;holding [v] (truthy v)):=by intro _;rfl):PT X e (tB t):=by intro ζ s σ H Q I hw;refine isTrue_plain (bF (h ζ s σ H _ I hw) λv s1 ⟨x,H1,I1,r1,q1⟩=> ?_) (he _);obtain ⟨d,rfl,q⟩:=q1;cases r1;exact wpAny_truthy_bool ⟨H1,I1,q⟩
variable{tA Sk:TT}{rest:List Expr}
def WT(t u:TT):TT:=λσ H Q=>t σ H λc H1=>if c=true then u σ H1 Q else Q false H1
def tOr(t u:TT):TT:=λσ H Q=>t σ H λc H1=>if c=true then Q true H1 else u σ H1 Q
def Xc(t:TT):TT:=λσ H Q=>t σ H λc H1=>Q (!c) H1
theorem pw_and1(ha:PT X a tA):PW X (.BoolOp .And [a] pos) tA:=by
 intro wh ζ s σ H Q I h;refine isTrue_and (bF (ha ζ s σ H Q I h) λc s1 e=> ?_);cases c with
 | true=>exact isTrue_and_nil e
 | false=>exact e
theorem pw_or1(ha:PT X a tA):PW X (.BoolOp .Or [a] pos) tA:=by
 intro wh ζ s σ H Q I h;refine isTrue_or (bF (ha ζ s σ H Q I h) λc s1 e=> ?_);cases c with
 | false=>exact isTrue_or_nil e
 | true=>exact e
theorem pw_and(ha:PT X a tA)(hb:PW X (.BoolOp .And (b::rest) pos) Sk):PW X (.BoolOp .And (a::b::rest) pos) (WT tA Sk):=by
 intro wh ζ s σ H Q I h;refine isTrue_and (bF (ha ζ s σ H _ I h) λc s1 ⟨H1,I1,q1⟩=> ?_);cases c with
 | true=>exact hb wh ζ s1 σ H1 Q I1 q1
 | false=>exact ⟨H1,I1,q1⟩
theorem pw_or(ha:PT X a tA)(hb:PW X (.BoolOp .Or (b::rest) pos) Sk):PW X (.BoolOp .Or (a::b::rest) pos) (tOr tA Sk):=by
 intro wh ζ s σ H Q I h;refine isTrue_or (bF (ha ζ s σ H _ I h) λc s1 ⟨H1,I1,q1⟩=> ?_);cases c with
 | true=>exact ⟨H1,I1,q1⟩
 | false=>exact hb wh ζ s1 σ H1 Q I1 q1
theorem PX(ha:PT X a tA):PT X (.UnaryOp .Not a pos) (Xc tA):=by intro ζ s σ H Q I h;exact isTrue_not (ha ζ s σ H (λc H1=>Q (!c) H1) I h)
def SS(ta tb:TE):TE:=λσ H Q=>ta σ H λx H1=>∃c,x= .bl c/\if c=true then tb σ H1 Q else Q (.bl false) H1
def Sb(ta:TE):TE:=λσ H Q=>ta σ H λx H1=>∃c,x= .bl c/\Q (.bl (!c)) H1
theorem Qq{op}{t:TE}(h:PE X a t):PE X (.BoolOp op [a] pos) t:=λζ s σ H Q I hw=>BoolOp_one (h ζ s σ H Q I hw)
theorem Qm(ha:PE X a ta)(hb:PE X (.BoolOp .And (b::rest) pos) tb):PE X (.BoolOp .And (a::b::rest) pos) (SS ta tb):=by
 intro ζ s σ H Q I h;refine BoolOp_and (bF (ha ζ s σ H _ I h) λv s1 ⟨x,H1,I1,r1,q1⟩=> ?_);obtain ⟨c,rfl,q1⟩:=q1;cases r1;refine wpAny_truthy_bool ?_;cases c with
 | true=>exact hb ζ s1 σ H1 Q I1 q1
 | false=>exact ⟨.bl false,H1,I1,rfl,q1⟩
theorem Qn(ha:PE X a ta):PE X (.UnaryOp .Not a pos) (Sb ta):=by intro ζ s σ H Q I h;refine UnaryOp_ (bF (ha ζ s σ H _ I h) λv s1 ⟨x,H1,I1,r1,q1⟩=> ?_);obtain ⟨c,rfl,q1⟩:=q1;cases r1;exact not_of (wpAny_truthy_bool ⟨.bl (!c),H1,I1,rfl,q1⟩)
def tIf(t:TT)(ta tb:TE):TE:=λσ H Q=>t σ H λc H1=>if c=true then ta σ H1 Q else tb σ H1 Q
theorem JH(hc:PT X c tA)(ha:PE X a ta)(hb:PE X b tb):PE X (.IfExp c a b pos) (tIf tA ta tb):=by
 intro ζ s σ H Q I h;refine wpAny_IfExp (bF (hc ζ s σ H _ I h) λd s1 ⟨H1,I1,q1⟩=> ?_);cases d with
 | true=>exact ha ζ s1 σ H1 Q I1 q1
 | false=>exact hb ζ s1 σ H1 Q I1 q1
end
def gF(K:fI)(H:Hp)(a:Addr)(xs:List V):Prop:=
 Rd H a (.lst xs)\/
  ∃(o:Obj) (its:Array Value) (n:Nat),K.lookup a=some o/\o.cls= .type "list"/\o.dict=none/\o.data= .seq its n/\its.size<=sizeLine/\aB xs its.toList
def nR(K:fI)(H:Hp)(a:Addr)(xs:List V):Prop:=
 Rd H a (.tup xs)\/
  ∃(o:Obj) (its:Array Value) (n:Nat),K.lookup a=some o/\o.cls= .type "tuple"/\o.data= .seq its n/\its.size<=sizeLine/\aB xs its.toList
def Ws:Value->Option V
 | .none=>some .aU
 | .bool b=>some (.bl b)
 | .int i _=>some (.int i)
 | .str x _=>some (.str x)
 | .bytes b _=>some (.Hf b)
 | .float b _=>some (.Pr b)
 | .ref a=>some (.ref a)
 | .type n=>some (.ty n)
 | _=>none
theorem aH.abs{x:V}(r:aH x u):Ws u=some x:=by
 cases x with
 | aU=>cases r;rfl
 | bl _=>cases r;rfl
 | int _=>obtain ⟨t,rfl⟩:=r;rfl
 | str _=>obtain ⟨t,rfl⟩:=r;rfl
 | Hf _=>obtain ⟨t,rfl⟩:=r;rfl
 | Pr _=>obtain ⟨t,rfl⟩:=r;rfl
 | ref _=>cases r;rfl
 | ty _=>cases r;rfl
theorem aH.inj{x y:V}{u:Value}(r:aH x u)(q:aH y u):x=y:=aaz (r.abs.symm.trans q.abs)
theorem aB.inj:∀{xs ys:List V} {us:List Value},aB xs us->aB ys us->xs=ys
 | _,_,_, .nil, .nil=>rfl
 | _,_,_, .cons r t, .cons r' t'=>by rw [r.inj r',aB.inj t t']
section
variable{H:Hp}{xs ys:List V}
theorem gF.of{K:fI}(h:H a=some (.lst xs)):gF K H a xs:= .inl (.inl h)
theorem nR.of{K:fI}(h:H a=some (.tup xs)):nR K H a xs:= .inl (.inl h)
theorem Inv.list(I:Inv X ζ σ H s)(h:gF X.K H a xs):∃its:List Value,aB xs its/\PlainL s.heap a its.toArray/\xs.length<=sizeLine:=by
 rcases h with h | ⟨o,its,n,hk,hc,hd,hs,hz,r⟩
 ·obtain ⟨z,its,n,r,e⟩:=h.ok I.bc;exact ⟨its,r,⟨_,n,e,rfl,rfl,rfl⟩,z⟩
 ·refine ⟨its.toList,r,⟨o,n,I.pS a o hk,hc,hd,by simpa using hs⟩, ?_⟩;have e:=r.length;simp only [Array.length_toList] at e;omega
theorem Inv.tuple(I:Inv X ζ σ H s)(h:nR X.K H a xs):∃its:List Value,aB xs its/\IsTup s.heap a its.toArray/\xs.length<=sizeLine:=by
 rcases h with h | ⟨o,its,n,hk,hc,hs,hz,r⟩
 ·obtain ⟨z,its,r,p⟩:=h.ok I.bc;exact ⟨its,r,p,z⟩
 ·refine ⟨its.toList,r,⟨o,I.pS a o hk,hc,n,by simpa using hs⟩, ?_⟩;have e:=r.length;simp only [Array.length_toList] at e;omega
theorem Inv.hU(I:Inv X ζ σ H s)(h:gF X.K H a xs)(h':gF X.K H a ys):xs=ys:=by
 obtain ⟨its,r,⟨o,n,e,_,_,d⟩,_⟩:=I.list h;obtain ⟨its',r',⟨o',n',e',_,_,d'⟩,_⟩:=I.list h';rw [e] at e';cases e';rw [d] at d';injection d' with d1 _
 have:its=its':=by simpa using congrArg Array.toList d1
 subst this;exact r.inj r'
theorem Inv.vz(I:Inv X ζ σ H s)(h:nR X.K H a xs)(h':nR X.K H a ys):xs=ys:=by
 obtain ⟨its,r,⟨o,e,_,n,d⟩,_⟩:=I.tuple h;obtain ⟨its',r',⟨o',e',_,n',d'⟩,_⟩:=I.tuple h';rw [e] at e';cases e';rw [d] at d';injection d' with d1 _
 have:its=its':=by simpa using congrArg Array.toList d1
 subst this;exact r.inj r'
end
section
variable{st:Stmt}{rest:List Stmt}{t u:TS}
def SM:TS:=λD σ H=>D.nx σ H
def V0(t u:TS):TS:=λD σ H=>t {D with nx:=u D} σ H
theorem MI:He X [] SM:=λ_ _ σ H _ I h=>wpAny_execs_nil ⟨σ,H,I,h⟩
theorem Jh(h1:PS X st t)(h2:He X rest u):He X (st::rest) (V0 t u):=by
 intro ζ s σ H D I h;refine wpAny_execs_cons (bF (h1 ζ s σ H {D with nx:=u D} I h) λf s1 q=> ?_);cases f with
 | next=>
  obtain ⟨σ',H',I',q⟩:=q;exact h2 ζ s1 σ' H' D I' q
 | ret v=>exact q
 | brk=>exact q
 | cont=>exact q
theorem L9(h1:PS X st t):He X [st] t:=by
 intro ζ s σ H D I h;refine wpAny_execs_cons (bF (h1 ζ s σ H D I h) λf s1 q=> ?_);cases f with
 | next=>exact wpAny_execs_nil q
 | ret v=>exact q
 | brk=>exact q
 | cont=>exact q
def Ug:TS:=λD σ H=>D.ct σ H
theorem yH:PS X (.Continue pos) Ug:=λ_ _ σ H _ I h=>wpAny_Continue ⟨σ,H,I,h⟩
theorem Inv.quiet{H:Hp}(I:Inv X ζ σ H s):interactive X.env=false:=by simp [interactive,I.ok.kind]
def Tj(te:TE):TS:=λD σ H=>te σ H λ_ H1=>D.nx σ H1
theorem Nx(he:PE X e te)(hs:swapsWith e none pos.line X.env=pure false:=by rfl):PS X (.Expr e pos) (Tj te):=by intro ζ s σ H D I h;exact wpAny_Expr_any (bF (he ζ s σ H _ I h) λv s1 ⟨x,H1,I1,r1,q1⟩=>⟨σ,H1,I1,q1⟩) I.quiet hs
def XB(te:TE):TS:=λD σ H=>te σ H D.rt
theorem QC(he:PE X e te):PS X (.Return (some e) pos) (XB te):=by intro ζ s σ H D I h;exact wpAny_Return_some (bF (he ζ s σ H _ I h) λv s1 ⟨x,H1,I1,r1,q1⟩=>⟨x,σ,H1,I1,r1,q1⟩)
def WL(c:TT)(t u:TS):TS:=λD σ H=>c σ H λb H1=>if b=true then t D σ H1 else u D σ H1
theorem T7{a b:List Stmt}{tc:TT}(hc:PT X c tc)(ha:He X a t)(hb:He X b u):PS X (.If c a b pos) (WL tc t u):=by
 intro ζ s σ H D I h;refine wpAny_If (bF (hc ζ s σ H _ I h) λd s1 ⟨H1,I1,q1⟩=> ?_);cases d with
 | true=>exact ha ζ s1 σ H1 D I1 q1
 | false=>exact hb ζ s1 σ H1 D I1 q1
end
abbrev TG:=V->St->Hp->(St->Hp->Prop)->Prop
abbrev QA:=List V->St->Hp->(St->Hp->Prop)->Prop
def PG(X:Cx)(target:Expr)(t:TG):Prop:=
 ∀(ζ:List (Addr×Obj)) (s:Shared) (σ:St) (H:Hp) (v:V) (u:Value) (Q:St->Hp->Prop),Inv X ζ σ H s->aH v u->t v σ H Q->
  wpAny (model X.prog X.w) X.A (assign target X.env u) (λ_ s'=>∃σ' H',Inv X ζ σ' H' s'/\Q σ' H') X.xe s
def Vk(X:Cx)(ts:List Expr)(t:QA):Prop:=
 ∀(ζ:List (Addr×Obj)) (s:Shared) (σ:St) (H:Hp) (vs:List V) (us:List Value) (Q:St->Hp->Prop),Inv X ζ σ H s->aB vs us->t vs σ H Q->
  wpAny (model X.prog X.w) X.A (assignInOrder ((assignEach ts X.env).map (·.2)) us) (λ_ s'=>∃σ' H',Inv X ζ σ' H' s'/\Q σ' H') X.xe s
abbrev P_:=V->V->V->Hp->(Hp->Prop)->Prop
def Ur(X:Cx)(t:P_):Prop:=
 ∀(ζ:List (Addr×Obj)) (s:Shared) (σ:St) (H:Hp) (o i v:V) (ov iv u:Value) (Q:Hp->Prop),Inv X ζ σ H s->aH o ov->aH i iv->aH v u->t o i v H Q->
  wpAny (model X.prog X.w) X.A (setItem ov iv u) (λ_ s'=>∃H',Inv X ζ σ H' s'/\Q H') X.xe s
section
def iR(i:Nat):TG:=λv σ H Q=>Q (σ.set i (some v)) H
theorem ar(hN:X.N.Nodup)(hi:X.N[i]? =some x)(hx:Loc X.env.scope x)(hf:X.fn x=true\/X.env.scope.names.lookup x=some .local:=by first | exact .inl rfl | exact .inr rfl | assumption):PG X (.Name x pos) (iR i):=by intro ζ s σ H v u Q I r h;exact wpAny_assign_Name (nv I hN hi hx r (λs' I'=>⟨_,H,I',h⟩) hf)
def IS:QA:=λvs σ H Q=>vs=[]/\Q σ H
def ni(t:TG)(u:QA):QA:=λvs σ H Q=>∃v r,vs=v::r/\t v σ H λσ' H'=>u r σ' H' Q
theorem kR:Vk X [] IS:=by intro ζ s σ H vs us Q I r h;obtain ⟨e,h⟩:=h;subst e;cases r;exact assignInOrder_nil ⟨σ,H,I,h⟩
theorem cR{t:TG}{u:QA}(h1:PG X e t)(h2:Vk X es u)
  (hs:(assignEach (e::es) X.env).map (·.2)=assign e X.env::(assignEach es X.env).map (·.2):=by rfl):Vk X (e::es) (ni t u):=by
 intro ζ s σ H vs us Q I r h;obtain ⟨v,vr,e1,h⟩:=h;subst e1;cases r with
 | cons r rr=>
  rw [hs];refine assignInOrder_cons (bF (h1 ζ s σ H _ _ _ I r h) λ_ s1 ⟨σ1,H1,I1,q1⟩=> ?_);exact h2 ζ s1 σ1 H1 _ _ Q I1 rr q1
def J2(K:fI)(n:Nat)(t:QA):TG:=λv σ H Q=>∃a xs,v= .ref a/\nR K H a xs/\xs.length=n/\t xs σ H Q
theorem om{k:Nat}{t:QA}{n:Nat}(hc:X.calm=true)(h:Vk X es t)
  (hn:(assignEach es X.env).length=n:=by rfl) (MY:(assignEach es X.env).findIdx? (·.1)=none:=by rfl):PG X (.Tuple es k pos) (J2 X.K n t):=by
 intro ζ s σ H v u Q I r hw;obtain ⟨a,xs,e1,hq,hl,hw⟩:=hw;subst e1;cases r;obtain ⟨its,rv,ht,hz⟩:=I.tuple hq;refine assign_Tuple_tuple (I.ok.hd hc) ht (by simp [hn,<-hl,rv.length]) MY λh' hx=> ?_;have I1:Inv X ζ σ H {s with heap:=h'}:=I.kept (t':=s.toks) λb o e=>hx b o (aaU (aas e)) e;exact h ζ _ σ H xs _ Q I1 (by simpa using rv) hw
def Zo(to ti:TE)(t:P_):TG:=λv σ H Q=>to σ H λo H1=>ti σ H1 λi H2=>t o i v H2 λH3=>Q σ H3
theorem PY{o i:Expr}{to ti:TE}{t:P_}(ho:PE X o to)(hi:PE X i ti)(hs:Ur X t)
  (ha:∀v,assign (.Subscript o i pos) X.env v=(do
   let ov<-holding [v] (eval o X.env)
   let iv<-holding [v,ov] (eval i X.env)
   standAt pos
   holding [v,ov,iv] (setItem ov iv v)
   release [v,ov,iv] []):=by intro _;rfl):PG X (.Subscript o i pos) (Zo to ti t):=by
 intro ζ s σ H v u Q I r h;rw [ha];refine aaG (wpAny_holding (bF (ho ζ s σ H _ I h) λov s1 ⟨x,H1,I1,r1,q1⟩=> ?_));refine aaG (wpAny_holding (bF (hi ζ s1 σ H1 _ I1 q1) λiv s2 ⟨y,H2,I2,r2,q2⟩=> ?_));refine aaG (wpAny_standAt (aaG (wpAny_holding (bF (hs ζ s2 σ H2 x y v ov iv u _ I2 r1 r2 r q2) λ_ s3 ⟨H3,I3,q3⟩=> ?_))));exact wpAny_release ⟨σ,H3,I3,q3⟩
def SR(te:TE)(g:TG):TS:=λD σ H=>te σ H λx H1=>g x σ H1 D.nx
theorem HI{g:TG}(he:PE X e te)(hg:PG X tg g)(hs:swapsWithSole [tg] e pos.line X.env=pure false:=by rfl)(hw:swappedStores [tg] e X.env=pure none:=by rfl)
  (h1:(assignEach [tg] X.env).map (·.2)=[assign tg X.env]:=by rfl):PS X (.Assign [tg] e pos) (SR te g):=by
 intro ζ s σ H D I h;refine wpAny_Assign_stores (bF (he ζ s σ H _ I h) λv s1 ⟨x,H1,I1,r1,q1⟩=> ?_) hs hw;rw [h1];exact bF (hg ζ s1 σ H1 x v _ I1 r1 q1) λ_ s2 q=>q
theorem Pu{pos':Pos}(hN:X.N.Nodup)(hi:X.N[i]? =some x)(hx:Loc X.env.scope x)(he:PE X e te)(hs:swapsWith e (some (.Name x pos')) pos.line X.env=pure false:=by rfl)(hf:X.fn x=true\/X.env.scope.names.lookup x=some .local:=by first | exact .inl rfl | exact .inr rfl | assumption):
  PS X (.Assign [.Name x pos'] e pos) (SR te (iR i)):=by
 intro ζ s σ H D I h;refine wpAny_Assign_Name (bF (he ζ s σ H _ I h) λv s1 ⟨y,H1,I1,r1,q1⟩=> ?_) hs;exact nv I1 hN hi hx r1 (λs2 I2=>⟨_,H1,I2,q1⟩) hf
def Wl(i j:Nat)(ta:TA):TS:=λD σ H=>ta σ H λvs H1=>∃v w,vs=[v,w]/\D.nx ((σ.set i (some v)).set j (some w)) H1
theorem Pp{j:Nat}{y:Str}{a b:Expr}{ta:TA}{px py pt:Pos}{kt k2 Q2}(hc:X.calm=true)(hN:X.N.Nodup)(hi:X.N[i]? =some x)(hj:X.N[j]? =some y)(Zt:i≠j)
  (hx:X.env.scope.names.lookup x=some .local) (hy:X.env.scope.names.lookup y=some .local) (ha:PA X [a,b] ta)
  (hw:swappedStores [.Tuple [.Name x px, .Name y py] kt pt] (.Tuple [a,b] k2 Q2) X.env=pure (some [x,y]))
  (hs:swapsWithSole [.Tuple [.Name x px, .Name y py] kt pt] (.Tuple [a,b] k2 Q2) pos.line X.env=pure false:=by rfl):
  PS X (.Assign [.Tuple [.Name x px, .Name y py] kt pt] (.Tuple [a,b] k2 Q2) pos) (Wl i j ta):=by
 intro ζ s σ H D I h;rw [exec_Assign_arm];refine aaG (wpAny_standAt ?_);rw [hs];refine aaG (abe ?_);rw [aav (by decide)];refine aaG (Tuple_ (bF (ha _ ζ s σ H _ I h) λus s1 ⟨vs,H1,I1,r1,q1⟩=> ?_));obtain ⟨v,w,e1,q1⟩:=q1;subst e1;obtain ⟨u1,u2,rfl,rv,Fe⟩:∃u1 u2,us=[u1,u2]/\aH v u1/\aH w u2:=by
  cases r1 with
  | cons p q=>
   cases q with
   | cons p' q'=>
    cases q';exact ⟨_,_,rfl,p,p'⟩
 refine wpAny_newObj_type ?_ gV;have I2:Inv X ζ σ H1 {s1 with heap:=s1.heap.push {cls:= .type "tuple",data:= .seq [u1,u2].toArray}}:=I1.kept (t':=s1.toks) λb o e=>aal _ e;rw [hw];refine aaG (abe ?_);show wpAny (model X.prog X.w) X.A (do rule "assign.swapped-stores";let items<-unpackItems (.ref s1.heap.objs.size) 2 none;assignInOrder [λv=>bindName X.env y v,λv=>bindName X.env x v] items.reverse;pure Flow.next) _ _ _;refine aaG (wpAny_rule (aaG (unpackItems_tuple (items:= #[u1,u2]) (I.ok.hd hc) (IsTup.new s1.heap _) λh' R0=> ?_)));have I3:=I2.kept (h':=h') (t':=s1.toks) λb o e=>R0 b o (aaU (aas e)) e;show wpAny _ _ (assignInOrder [λv=>bindName X.env y v,λv=>bindName X.env x v] [u2,u1] >>= λ_=>pure Flow.next) _ _ _;refine aaG (assignInOrder_cons (wpAny_bindName (nv I3 hN hj (.inl hy) Fe (λs2 I4=> ?_) (.inr hy))));refine assignInOrder_cons (wpAny_bindName (nv I4 hN hi (.inl hx) rv (λs3 I5=>assignInOrder_nil (abe ?_)) (.inr hx)));rw [List.set_comm _ _ (Ne.symm Zt)] at I5;exact ⟨_,H1,I5,q1⟩
end
section
def QQ(c:TT)(tb:TS):TS:=λD σ H=>∃W:Nat->St->Hp->Prop,(∃m,W m σ H)/\∀m σ H,W m σ H->
 c σ H λb H1=>if b=true then∃N:St->Hp->Prop,(∀σ' H',N σ' H'->∃m',m' < m/\W m' σ' H')/\tb {D with nx:=N,ct:=N,bk:=D.nx} σ H1 else D.nx σ H1
theorem IZ{tc:TT}{tb:TS}(hp:PassesOwn (model X.prog X.w) X.A X.env X.xe)(hc:PT X c tc)(hb:He X body tb):PS X (.While c body [] pos) (QQ tc tb):=by
 intro ζ s σ H D I h;obtain ⟨W,⟨m0,w0⟩,turn⟩:=h;refine wpAny_While (codeAny_whileLoop (λn s'=>∃σ' H',Inv X ζ σ' H' s'/\W n σ' H') ?_ m0 ⟨σ,H,I,w0⟩);rintro n s1 ⟨σ1,H1,I1,w1⟩;refine wpAny_passesOwn hp (bF (hc ζ s1 σ1 H1 _ I1 (turn n σ1 H1 w1)) λb s2 ⟨H2,I2,q2⟩=> ?_);cases b with
 | true=>
  obtain ⟨N,hN,q2⟩:=q2;rw [aaw rfl];refine wpAny_passesOwn hp (bF (hb ζ s2 σ1 H2 _ I2 q2) λf s3 q3=> ?_);cases f with
  | next=>
   obtain ⟨σ3,H3,I3,n3⟩:=q3;obtain ⟨m',hm,w3⟩:=hN σ3 H3 n3;exact ⟨m',hm,σ3,H3,I3,w3⟩
  | cont=>
   obtain ⟨σ3,H3,I3,n3⟩:=q3;obtain ⟨m',hm,w3⟩:=hN σ3 H3 n3;exact ⟨m',hm,σ3,H3,I3,w3⟩
  | brk=>exact q3
  | ret v=>exact q3
 | false=>
  rw [aav aaA];exact wpAny_execs_nil ⟨σ1,H2,I2,q2⟩
end
structure It where
 go:Nat->Hp->Prop
 RS:Nat->Hp->V->Hp->Prop
 stop:Nat->Hp->Prop
def rq(X:Cx)(ζ:List (Addr×Obj))(H:Hp)(b:Addr):Prop:=
 H b=none/\b≠X.env.locals/\b∉X.fs/\(b∈X.ex\/X.s₀.heap.objs.size<=b)/\(∀x c,X.env.cells.lookup x=some c->c≠b)/\∀p∈X.pn++ζ,p.1≠b
theorem Inv.Cn{H H':Hp}(I:Inv X ζ σ H s)(hb:s.heap.objs.size<=b)(hn:H' b=none):rq X ζ H' b:=by
 refine ⟨hn,acx (aat I.lt hb),I.Yd hb, .inr (aax I.sz hb),λx c e z=> ?_,λp hp z=> ?_⟩
 ·obtain ⟨v,q⟩:=I.cell x c e;exact aaK (aat q.lt (by rw [z];exact hb)) (abu _)
 ·exact aaK (aat (aas (I.pin p hp).1) (by rw [z];exact hb)) (abu _)
structure Turn(P:Program)(w:World)(K:fI)(tg:Expr)(J:It)(fp:List Addr)(it:Addr)(tn:Nat->Heap->Prop):Prop where
 mem:it∈fp
 obj:∀i h,tn i h->∀b∈fp,∃o,h.get? b=some o/\∀v,o.data≠ .cell v
 keep:∀i h h',tn i h->(∀b∈fp,∀o,h.get? b=some o->h'.get? b=some o)->tn i h'
 item:∀(X:Cx),X.prog=P->X.w=w->X.K=K->X.calm=true->∀(i:Nat) (ζ:List (Addr×Obj)) (s:Shared) (σ:St) (H:Hp) (E:Value->Shared->Prop),Inv X ζ σ H s->(∀b∈fp,rq X ζ H b)->tn i s.heap->J.go i H->
  wpAny (model P w) X.A (pyNext (.ref it)) (λr s1=>∃u,r=some u/\
   wpAny (model P w) X.A (letOwnedTupleGo tg (.ref it) u) (λ_ s2=>∃x H',Inv X ζ σ H' s2/\aH x u/\J.RS i H x H'/\tn (i+1) s2.heap/\∀b∈fp,H' b=none) E s1) E s
 done:∀(X:Cx),X.prog=P->X.w=w->X.K=K->X.calm=true->∀(i:Nat) (ζ:List (Addr×Obj)) (s:Shared) (σ:St) (H:Hp) (E:Value->Shared->Prop),Inv X ζ σ H s->(∀b∈fp,rq X ζ H b)->tn i s.heap->J.stop i H->
  wpAny (model P w) X.A (pyNext (.ref it)) (λr s1=>r=none/\Inv X ζ σ H s1) E s
 self:∀(A:Around) (i:Nat) (s:Shared) (Q:Value->Shared->Prop) (E:Value->Shared->Prop),tn i s.heap->Q (.ref it) s->wpAny (model P w) A (pyIter (.ref it)) Q E s
abbrev TI:=St->Hp->(It->Hp->Prop)->Prop
def K_(X:Cx)(ζ:List (Addr×Obj))(σ:St)(tg:Expr)(R:It->Hp->Prop)(Vx:Value)(s2:Shared):Prop:=
 ∃(it:Addr) (fp:List Addr) (tn:Nat->Heap->Prop) (J:It) (H':Hp),Vx= .ref it/\Inv X ζ σ H' s2/\Turn X.prog X.w X.K tg J fp it tn/\tn 0 s2.heap/\(∀b∈fp,rq X ζ H' b)/\R J H'
def PI(X:Cx)(tg iter:Expr)(wi:TI):Prop:=
 ∀(ζ:List (Addr×Obj)) (s:Shared) (σ:St) (H:Hp) (R:It->Hp->Prop),Inv X ζ σ H s->wi σ H R->
  wpAny (model X.prog X.w) X.A (eval iter X.env) (λv s1=>wpAny (model X.prog X.w) X.A (pyIter v) (K_ X ζ σ tg R) X.xe s1) X.xe s
theorem u6   {E : Value -> Shared -> Prop}   {it : Addr}  {o : Obj} {n : String} {vs : Array Value} {Q : Unit -> Shared -> Prop} (ho : s.heap.get? it = some o) (hc : o.cls = .type n) (hd : o.data = .fields vs)
    (hn : ["enumerate", "zip", "dict_itemiterator", "dict_reverseitemiterator", "odict_iterator", "itertools.zip_longest", "itertools.pairwise"].contains n = false) (hQ : Q () s) : wpAny M A (letOwnedTupleGo tg (.ref it) u) Q E s := by
  unfold letOwnedTupleGo
  cases tg <;> first
    | exact abe hQ
    | (cases u <;> first
        | exact abe hQ
        | (refine aaG (wpAny_load ho ?_)
           rw [hc, hd];show wpAny M A (if (["enumerate", "zip", "dict_itemiterator", "dict_reverseitemiterator", "odict_iterator", "itertools.zip_longest", "itertools.pairwise"].contains n && vs[0]? == some (rawInt _)) = true then _ else _) Q E s;rw [aav (by intro h; rw [hn, Bool.false_and] at h; cases h)]
           exact abe hQ))
def VP(K:fI)(a:Addr):It:=
 ⟨λi H=>∃xs x,gF K H a xs/\xs[i]? =some x,λi H x H'=>H'=H/\∀xs,gF K H a xs->xs[i]? =some x,λi H=>∃xs,gF K H a xs/\xs.length<=i⟩
def YO(K:fI)(a:Addr):It:=
 ⟨λi H=>∃xs x,nR K H a xs/\xs[i]? =some x,λi H x H'=>H'=H/\∀xs,nR K H a xs->xs[i]? =some x,λi H=>∃xs,nR K H a xs/\xs.length<=i⟩
def SU(lo:Int)(n:Nat):It:=⟨λi _=>i < n,λi H x H'=>H'=H/\x= .int (lo+i),λi _=>n<=i⟩
theorem EV{K:fI}(a it:Addr):Turn P w K tg (VP K a) [it] it (λi h=>h.IsListIter it a i) where
 mem:=by simp
 obj:=λi h st b hb=>by
  have e:b=it:=by simpa using hb
  subst e;obtain ⟨o,e,c,d⟩:=st;exact ⟨o,e,λv z=>by rw [d] at z;cases z⟩
 keep:=λi h h' st k=>st.at λo e=>k it (by simp) o e
 item:=by intro X hP hw hK hc i ζ s σ H E I hf st hg;subst hP hw hK;obtain ⟨xs,x,hq,hx⟩:=hg;obtain ⟨its,rv,p,hz⟩:=I.list hq;obtain ⟨u,hu,ru⟩:=rv.get hx;obtain ⟨f0,f1,f2,f3,f4,f5⟩:=hf it (by simp);refine wpAny_pyNext_list_item st p.isList (x:=u) (by simpa using hu) λh' yd sb=> ?_;have I1:Inv X ζ σ H {s with heap:=h'}:=I.turned (t':=s.toks) (λb o hb e=>(sb.2 b hb).trans e) f0 f1 f3 f4 f5;obtain ⟨o,e,c,d⟩:=id yd;exact ⟨u,rfl,u6 (s:={s with heap:=h'}) e c d (by decide) ⟨x,H,I1,ru,⟨rfl,λys hy=>by rw [I.hU hy hq];exact hx⟩,yd,λb hb=>(hf b hb).1⟩⟩
 done:=by intro X hP hw hK hc i ζ s σ H E I hf st hg;subst hP hw hK;obtain ⟨xs,hq,hx⟩:=hg;obtain ⟨its,rv,p,hz⟩:=I.list hq;obtain ⟨f0,f1,f2,f3,f4,f5⟩:=hf it (by simp);have hl:=rv.length;exact wpAny_pyNext_list_end (I.ok.hd hc) st p.isList (by simp;omega) λh' eb=>⟨rfl,I.turned (t':=s.toks) (λb o hb e=>eb b o hb e) f0 f1 f3 f4 f5⟩
 self:=λ_ _ _ _ _ st h=>wpAny_pyIter_listiter st h
theorem CM{K:fI}(a it:Addr):Turn P w K tg (YO K a) [it] it (λi h=>h.IsTupleIter it a i) where
 mem:=by simp
 obj:=λi h st b hb=>by
  have e:b=it:=by simpa using hb
  subst e;obtain ⟨o,e,c,d⟩:=st;exact ⟨o,e,λv z=>by rw [d] at z;cases z⟩
 keep:=λi h h' st k=>st.at λo e=>k it (by simp) o e
 item:=by intro X hP hw hK hc i ζ s σ H E I hf st hg;subst hP hw hK;obtain ⟨xs,x,hq,hx⟩:=hg;obtain ⟨its,rv,p,hz⟩:=I.tuple hq;obtain ⟨u,hu,ru⟩:=rv.get hx;obtain ⟨f0,f1,f2,f3,f4,f5⟩:=hf it (by simp);refine wpAny_pyNext_tuple_item st (show s.heap.IsTuple a its.toArray from p) (x:=u) (by simpa using hu) λh' yd sb=> ?_;have I1:Inv X ζ σ H {s with heap:=h'}:=I.turned (t':=s.toks) (λb o hb e=>(sb.2 b hb).trans e) f0 f1 f3 f4 f5;obtain ⟨o,e,c,d⟩:=id yd;exact ⟨u,rfl,u6 (s:={s with heap:=h'}) e c d (by decide) ⟨x,H,I1,ru,⟨rfl,λys hy=>by rw [I.vz hy hq];exact hx⟩,yd,λb hb=>(hf b hb).1⟩⟩
 done:=by intro X hP hw hK hc i ζ s σ H E I hf st hg;subst hP hw hK;obtain ⟨xs,hq,hx⟩:=hg;obtain ⟨its,rv,p,hz⟩:=I.tuple hq;obtain ⟨f0,f1,f2,f3,f4,f5⟩:=hf it (by simp);have hl:=rv.length;exact wpAny_pyNext_tuple_end (I.ok.hd hc) st (show s.heap.IsTuple a its.toArray from p) (by simp;omega) λh' eb=>⟨rfl,I.turned (t':=s.toks) (λb o hb e=>eb b o hb e) f0 f1 f3 f4 f5⟩
 self:=λ_ _ _ _ _ st h=>wpAny_pyIter_tupleiter st h
theorem A'{K:fI}(it:Addr)(lo:Int)(n:Nat):Turn P w K tg (SU lo n) [it] it (λi h=>IsRangeIter h it (lo+(i:Nat) * 1) ((n:Int) - (i:Nat)) 1) where
 mem:=by simp
 obj:=λi h st b hb=>by
  have e:b=it:=by simpa using hb
  subst e
  exact ⟨_,st,λv z=>by
   have z':Data.fields _=Data.cell v:=z
   cases z'⟩
 keep:=λi h h' st k=>k it (by simp) _ st
 item:=by intro X hP hw hK hc i ζ s σ H E I hf st hg;subst hP hw hK;obtain ⟨f0,f1,f2,f3,f4,f5⟩:=hf it (by simp);have W:=Walks.range (prog:=X.prog) (w:=X.w) (I.ok.hd hc) it lo 1 n;refine W.item i s _ _ hg st λv h' tk hv yd kk=> ?_;obtain ⟨t,rfl⟩:=hv;have I1:Inv X ζ σ H {s with heap:=h',toks:=tk}:=I.turned (λb o hb e=>kk b o (by simpa using hb) e) f0 f1 f3 f4 f5;refine ⟨_,rfl,u6 (s:={s with heap:=h',toks:=tk}) (n:="range_iterator") yd rfl rfl (by decide) ⟨.int (lo+i),H,I1,⟨t, ?_⟩,⟨rfl,rfl⟩,yd,λb hb=>(hf b hb).1⟩⟩;rw [Int.mul_one]
 done:=by intro X hP hw hK hc i ζ s σ H E I hf st hg;subst hP hw hK;obtain ⟨f0,f1,f2,f3,f4,f5⟩:=hf it (by simp);exact wpAny_pyNext_range_end (I.ok.hd hc) st (by have:n<=i:=hg;omega) λh' eb=>⟨rfl,I.turned (t':=s.toks) (λb o hb e=>eb b o hb e) f0 f1 f3 f4 f5⟩
 self:=λ_ _ _ _ _ st h=>wpAny_pyIter_rangeiter st h
section
theorem yM{H:Hp}{R:It->Hp->Prop}{lo hi:Int}{t u v:Tok}{tk:Nat}(I:Inv X ζ σ H s)(h1: -(2 ^ 62)<=lo)(h2:lo < 2 ^ 62)(h3: -(2 ^ 62)<=hi)(h4:hi < 2 ^ 62)
  (q:R (SU lo (hi - lo).toNat) H):wpAny (model X.prog X.w) X.A (pyIter (.ref s.heap.objs.size)) (K_ X ζ σ tg R) E {s with heap:=s.heap.push {cls:= .type "range",data:= .fields #[.int lo t, .int hi u, .int 1 v]},toks:=tk}:=by
 refine wpAny_pyIter_range (IsRange.new ..) (small_one h1 h2 h3 h4) ?_;have I1:Inv X ζ σ H {s with heap:=s.heap.push {cls:= .type "range",data:= .fields #[.int lo t, .int hi u, .int 1 v]},toks:=tk}:=I.kept λb o e=>aal _ e
 refine ⟨(s.heap.push {cls:= .type "range",data:= .fields #[.int lo t, .int hi u, .int 1 v]}).objs.size,[(s.heap.push {cls:= .type "range",data:= .fields #[.int lo t, .int hi u, .int 1 v]}).objs.size],_,_,H,rfl,
  I1.kept (t':=tk) λb o e=>aal _ e,A' _ lo (hi - lo).toNat, ?_,λb hb=> ?_,q⟩
 ·have e1:lo+((0:Nat):Int) * 1=lo:=by simp
  have e2:(((hi - lo).toNat:Nat):Int) - ((0:Nat):Int)=Builtin.Range.rangeSize lo hi 1:=by rw [rangeSize_one];split <;> omega
  show IsRangeIter _ _ (lo+((0:Nat):Int) * 1) ((((hi - lo).toNat:Nat):Int) - ((0:Nat):Int)) 1;rw [e1,e2];exact aaR _ rfl
 ·have e:b=(s.heap.push {cls:= .type "range",data:= .fields #[.int lo t, .int hi u, .int 1 v]}).objs.size:=by simpa using hb
  subst e;exact I1.Cn (aai _) (I1.bc.fresh (aai _))
def Sf(ta:TA):TI:=λσ H R=>ta σ H λvs H1=>∃j:Int,vs=[.int j]/\ -(2 ^ 62)<=j/\j < 2 ^ 62/\R (SU 0 j.toNat) H1
def RV(ta:TA):TI:=λσ H R=>ta σ H λvs H1=>∃i j:Int,vs=[.int i, .int j]/\(-(2 ^ 62)<=i/\i < 2 ^ 62/\ -(2 ^ 62)<=j/\j < 2 ^ 62)/\R (SU i (j - i).toNat) H1
theorem Gj{a:Expr}{ta:TA}{p:Pos}(hg:Gl X "range")(hm:X.mg "range"=none)(ha:PA X [a] ta)(hs:starEach [a] X.env=[(false,eval a X.env)]:=by rfl):PI X tg (.Call (.Name "range" p) [a] [] pos) (Sf ta):=by
 intro ζ s σ H R I h;refine Call_ (lV I hg hm boot_range (PyProof.Rows.callWith_type1 (bF (ha pos ζ s σ H _ I h) λus s1 ⟨vs,H1,I1,r1,q1⟩=> ?_) hs rfl));obtain ⟨j,e,q1,q2,q⟩:=q1;subst e;cases r1 with
 | cons r rr=>
  cases rr;obtain ⟨t,rfl⟩:=r;exact call_range_1 (yM I1 (by omega) (by omega) q1 q2 (by simpa using q))
theorem FF{a b:Expr}{ta:TA}{p:Pos}(hg:Gl X "range")(hm:X.mg "range"=none)(ha:PA X [a,b] ta)(hs:starEach [a,b] X.env=[(false,eval a X.env),(false,eval b X.env)]:=by rfl)(Qg:starEach [b] X.env=[(false,eval b X.env)]:=by rfl):
  PI X tg (.Call (.Name "range" p) [a,b] [] pos) (RV ta):=by
 intro ζ s σ H R I h;refine Call_ (lV I hg hm boot_range (PyProof.Rows.callWith_type1 (bF (ha pos ζ s σ H _ I h) λus s1 ⟨vs,H1,I1,r1,q1⟩=> ?_) (by rw [hs,Qg]) (by rw [Qg];rfl)));obtain ⟨i,j,e,⟨q1,q2,q3,q4⟩,q⟩:=q1;subst e;cases r1 with
 | cons r rr=>
  cases rr with
  | cons r' rr=>
   cases rr;obtain ⟨t,rfl⟩:=r;obtain ⟨t',rfl⟩:=r';exact call_range_2 (yM I1 q1 q2 q3 q4 q)
def VY(wi:TI)(g:TG)(tb:TS):TS:=λD σ H=>wi σ H λJ H1=>∃W:Nat->Nat->St->Hp->Prop,(∃m,W 0 m σ H1)/\∀i m σ H,W i m σ H->
 (J.stop i H/\D.nx σ H)\/(J.go i H/\∃N:St->Hp->Prop,(∀σ' H',N σ' H'->∃m',m' < m/\W (i+1) m' σ' H')/\∀x H',J.RS i H x H'->g x σ H' λσ2 H2=>tb {D with nx:=N,ct:=N,bk:=D.nx} σ2 H2)
def yp(fp:List Addr)(h:Heap):List (Addr×Obj):=fp.filterMap λb=>(h.get? b).map λo=>(b,o)
theorem fm{o:Obj}(hb:b∈fp)(e:h.get? b=some o):(b,o)∈yp fp h:=acn.mpr ⟨b,hb,by rw [e];rfl⟩
theorem Ff{p:Addr×Obj}(hp:p∈yp fp h):p.1∈fp/\h.get? p.1=some p.2:=by
 obtain ⟨b,hb,e⟩:=acn.mp hp;cases q:h.get? b with
 | none=>rw [q] at e;cases e
 | some o=>
  rw [q] at e;have e':(b,o)=p:=aaz e;subst e';exact ⟨hb,q⟩
theorem Inv.pinned{H:Hp}(I:Inv X ζ σ H s)(hf:∀b∈fp,rq X ζ H b)(ho:∀b∈fp,∃o,s.heap.get? b=some o/\∀v,o.data≠ .cell v):Inv X (ζ++yp fp s.heap) σ H s:=
 I.EH λp hp=>(aaQ.mp hp).elim (λz=>I.pin p (aaD _ z)) λz=>by obtain ⟨hb,e⟩:=Ff z;obtain ⟨f0,f1,f2,_⟩:=hf p.1 hb;obtain ⟨o,e',d⟩:=ho p.1 hb;rw [e] at e';cases e';exact ⟨e,f0,f1,f2,d⟩
theorem Inv.j3{pl:List (Addr×Obj)}{H:Hp}(I:Inv X (ζ++pl) σ H s):Inv X ζ σ H s:=I.EH λp hp=>I.pin p (aaD _ (List.mem_append_left _ hp))
theorem C2{iter:Expr}{wi:TI}{g:TG}{tb:TS}(hp:PassesOwn (model X.prog X.w) X.A X.env X.xe)(hc:X.calm=true)(hi:PI X tg iter wi)(hg:PG X tg g)(hb:He X body tb)
  (hs:∀x,foldedSetIterable iter X.env x=pure x:=by intro _;rfl):PS X (.For tg iter body [] pos) (VY wi g tb):=by
 intro ζ s σ H D I h;refine wpAny_For (bF (hi ζ s σ H _ I h) λv s1 h1=>bF h1 λVx s2 h2=> ?_) hs;obtain ⟨it,fp,tn,J,H2,e,I2,T,st2,f2,W,⟨m0,w0⟩,turn⟩:=h2;subst e;have O8:∀{H':Hp},(∀b∈fp,H' b=none)->∀b∈fp,rq X ζ H' b:=λhn b hb=>⟨hn b hb,(f2 b hb).2⟩;refine codeAny_forLoop_any (λn s'=>∃i σ' H',Inv X ζ σ' H' s'/\tn i s'.heap/\(∀b∈fp,H' b=none)/\W i n σ' H') ?_ m0 ⟨0,σ,H2,I2,st2,λb hb=>(f2 b hb).1,w0⟩;rintro n s3 ⟨i,σ3,H3,I3,st3,fr3,w3⟩;rcases turn i n σ3 H3 w3 with ⟨stop,qn⟩ | ⟨go,N,hN,step⟩
 ·refine wpAny_passesOwn hp (bF (T.done X rfl rfl rfl hc i ζ s3 σ3 H3 X.xe I3 (O8 fr3) st3 stop) λr s4 ⟨hr,I4⟩=> ?_);subst hr;exact wpAny_execs_nil ⟨σ3,H3,I4,qn⟩
 ·refine wpAny_passesOwn hp (bF (T.item X rfl rfl rfl hc i ζ s3 σ3 H3 X.xe I3 (O8 fr3) st3 go) λr s4 ⟨u,hr,h4⟩=> ?_);subst hr;refine wpAny_passesOwn hp (bF h4 λ_ s5 ⟨x,H5,I5,r5,y5,Xm,VA⟩=> ?_);have I5':=I5.pinned (O8 VA) (T.obj _ _ Xm);refine wpAny_passesOwn hp (bF (hg _ s5 σ3 H5 x u _ I5' r5 (step x H5 y5)) λ_ s6 ⟨σ6,H6,I6,q6⟩=> ?_);refine wpAny_passesOwn hp (bF (hb _ s6 σ6 H6 _ I6 q6) λf s7 q7=> ?_);have again:∀{σ7:St} {H7:Hp},Inv X (ζ++yp fp s5.heap) σ7 H7 s7->N σ7 H7->∃m,m < n/\∃i σ' H',Inv X ζ σ' H' s7/\tn i s7.heap/\(∀b∈fp,H' b=none)/\W i m σ' H':=λ{σ7 H7} I7 n7=>by obtain ⟨m',hm,w7⟩:=hN σ7 H7 n7;refine ⟨m',hm,i+1,σ7,H7,I7.j3,T.keep _ _ _ Xm λb hb o e=>(I7.pin (b,o) (aaD _ (aaD _ (fm hb e)))).1,λb hb=> ?_,w7⟩;obtain ⟨o,e,d⟩:=T.obj _ _ Xm b hb;exact (I7.pin (b,o) (aaD _ (aaD _ (fm hb e)))).2.1
  cases f with
  | next=>obtain ⟨σ7,H7,I7,n7⟩:=q7;exact again I7 n7
  | cont=>obtain ⟨σ7,H7,I7,n7⟩:=q7;exact again I7 n7
  | brk=>obtain ⟨σ7,H7,I7,q7⟩:=q7;exact ⟨σ7,H7,I7.j3,q7⟩
  | ret v=>obtain ⟨x7,σ7,H7,I7,r7,q7⟩:=q7;exact ⟨x7,σ7,H7,I7.j3,r7,q7⟩
end
abbrev R2:=V->V->Hp->VK->Prop
def jL(X:Cx)(f:Value->Value->Sem Value)(r:R2):Prop:=
 ∀(ζ:List (Addr×Obj)) (s:Shared) (σ:St) (H:Hp) (x y:V) (v u:Value) (Q:VK),Inv X ζ σ H s->aH x v->aH y u->r x y H Q->
  wpAny (model X.prog X.w) X.A (f v u) (EP X ζ σ Q) X.xe s
def VH(X:Cx)(f:Value->Sem Value)(r:V->Hp->VK->Prop):Prop:=
 ∀(ζ:List (Addr×Obj)) (s:Shared) (σ:St) (H:Hp) (x:V) (v:Value) (Q:VK),Inv X ζ σ H s->aH x v->r x H Q->
  wpAny (model X.prog X.w) X.A (f v) (EP X ζ σ Q) X.xe s
def dY(X:Cx)(f:Value)(r:List V->Hp->VK->Prop):Prop:=
 ∀(ζ:List (Addr×Obj)) (s:Shared) (σ:St) (H:Hp) (xs:List V) (us:List Value) (Q:VK),Inv X ζ σ H s->aB xs us->r xs H Q->
  wpAny (model X.prog X.w) X.A (call f us) (EP X ζ σ Q) X.xe s
def Si(r:R2)(ta tb:TE):TE:=λσ H Q=>ta σ H λx H1=>tb σ H1 λy H2=>r x y H2 Q
def tUn(r:V->Hp->VK->Prop)(ta:TE):TE:=λσ H Q=>ta σ H λx H1=>r x H1 Q
def rI(C:Int->Int->Prop)(g:Int->Int->V):R2:=λx y H Q=>∃i j,x= .int i/\y= .int j/\C i j/\Q (g i j) H
def G7(g:Int->Int->V):R2:=λx y H Q=>∃i j,x= .int i/\y= .int j/\Q (g i j) H
def rU(g:Int->V):V->Hp->VK->Prop:=λx H Q=>∃i,x= .int i/\Q (g i) H
section
variable{a b:Expr}{tb tc:TE}
theorem Qb(ha:PE X a ta)(hb:PE X b tb){H:Hp}{R:V->V->Hp->Prop}(I:Inv X ζ σ H s)
  (h:ta σ H λx H1=>tb σ H1 λy H2=>R x y H2)
  (hf:∀v u s2 x y H2,Inv X ζ σ H2 s2->aH x v->aH y u->R x y H2->wpAny (model X.prog X.w) X.A (f v u) Q X.xe s2):
  wpAny (model X.prog X.w) X.A (eval a X.env) (λv s₁=>wpAny (model X.prog X.w) X.A (eval b X.env) (λu s₂=>wpAny (model X.prog X.w) X.A (f v u) Q X.xe s₂) X.xe s₁) X.xe s:=by
 refine bF (ha ζ s σ H _ I h) λv s1 ⟨x,H1,I1,r1,q1⟩=> ?_;refine bF (hb ζ s1 σ H1 _ I1 q1) λu s2 ⟨y,H2,I2,r2,q2⟩=> ?_;exact hf v u s2 x y H2 I2 r1 r2 q2
theorem UX{op:Operator}{r:R2}(ho:jL X (binaryOp op) r)(ha:PE X a ta)(hb:PE X b tb):PE X (.BinOp a op b pos) (Si r ta tb):=by intro ζ s σ H Q I h;exact wpAny_BinOp (Qb ha hb I h λv u s2 x y H2 I2 rx ry q=>ho ζ s2 σ H2 x y v u Q I2 rx ry q)
theorem Uo{op:UnaryOp}{r:V->Hp->VK->Prop}(ho:VH X (unaryOp op) r)(ha:PE X a ta):PE X (.UnaryOp op a pos) (tUn r ta):=by intro ζ s σ H Q I h;exact UnaryOp_ (bF (ha ζ s σ H _ I h) λv s1 ⟨x,H1,I1,r1,q1⟩=>ho ζ s1 σ H1 x v Q I1 r1 q1)
theorem Vp{C:Int->Int->Prop}{g:Int->Int->Int}
  (rule:∀(i j:Int) (t u:Tok) (s:Shared) (Q:Value->Shared->Prop) (E:Value->Shared->Prop),C i j->Q (.int (g i j) s.toks) {s with toks:=s.toks+1}->wpAny (model X.prog X.w) X.A (f (.int i t) (.int j u)) Q E s):
  jL X f (rI C λi j=> .int (g i j)):=by
 intro ζ s σ H x y v u Q I rx ry h;obtain ⟨i,j,rfl,rfl,hc,q⟩:=h;obtain ⟨t,rfl⟩:=rx;obtain ⟨t',rfl⟩:=ry;exact rule i j t t' s _ _ hc ⟨.int (g i j),H,I.tok _,⟨_,rfl⟩,q⟩
theorem Uu{g:Int->Int->Int}
  (rule:∀(i j:Int) (t u:Tok) (s:Shared) (Q:Value->Shared->Prop) (E:Value->Shared->Prop),Q (.int (g i j) s.toks) {s with toks:=s.toks+1}->wpAny (model X.prog X.w) X.A (f (.int i t) (.int j u)) Q E s):
  jL X f (G7 λi j=> .int (g i j)):=by
 intro ζ s σ H x y v u Q I rx ry h;obtain ⟨i,j,rfl,rfl,q⟩:=h;obtain ⟨t,rfl⟩:=rx;obtain ⟨t',rfl⟩:=ry;exact rule i j t t' s _ _ ⟨.int (g i j),H,I.tok _,⟨_,rfl⟩,q⟩
theorem Nq{g:Int->Int->Bool}
  (rule:∀(i j:Int) (t u:Tok) (s:Shared) (Q:Value->Shared->Prop) (E:Value->Shared->Prop),Q (.bool (g i j)) s->wpAny (model X.prog X.w) X.A (f (.int i t) (.int j u)) Q E s):
  jL X f (G7 λi j=> .bl (g i j)):=by
 intro ζ s σ H x y v u Q I rx ry h;obtain ⟨i,j,rfl,rfl,q⟩:=h;obtain ⟨t,rfl⟩:=rx;obtain ⟨t',rfl⟩:=ry;exact rule i j t t' s _ _ ⟨.bl (g i j),H,I,rfl,q⟩
def zI(i j:Int):Prop:=0<=j/\j<=1000000/\i.natAbs < 2 ^ 64
theorem P5:jL X (binaryOp .Add) (G7 λi j=> .int (i+j)):=Uu λ_ _ _ _ _ _ _ q=>add_int q
theorem Q5:jL X (binaryOp .Sub) (G7 λi j=> .int (i - j)):=Uu λ_ _ _ _ _ _ _ q=>sub_int q
theorem PK:jL X (binaryOp .Mod) (rI (λ_ j=>0 < j) λi j=> .int (i % j)):=Vp λi j _ _ _ _ _ hc q=>by have h1:(0:Int) < j:=hc;exact mod_int' (by omega) (by rw [abO i (by omega)];exact q)
theorem P4:jL X (binaryOp .Pow) (rI zI λi j=> .int (i ^ j.toNat)):=Vp λ_ _ _ _ _ _ _ hc q=>pow_int_small hc.1 hc.2.1 hc.2.2 q
theorem unI{f:Value->Sem Value}{g:Int->Int}
  (rule:∀(i:Int) (t:Tok) (s:Shared) (Q:Value->Shared->Prop) (E:Value->Shared->Prop),Q (.int (g i) s.toks) {s with toks:=s.toks+1}->wpAny (model X.prog X.w) X.A (f (.int i t)) Q E s):
  VH X f (rU λi=> .int (g i)):=by
 intro ζ s σ H x v Q I rx h;obtain ⟨i,rfl,q⟩:=h;obtain ⟨t,rfl⟩:=rx;exact rule i t s _ _ ⟨.int (g i),H,I.tok _,⟨_,rfl⟩,q⟩
theorem Pk:VH X (unaryOp .USub) (rU λi=> .int (-i)):=unI λ_ _ _ _ _ q=>neg_int q
end
def UT:V->V->Bool
 | .aU, .aU=>true | .aU, .int _=>true | .int _, .aU=>true | .aU, .bl _=>true | .bl _, .aU=>true | .aU, .str _=>true | .str _, .aU=>true
 | .int _, .int _=>true | .bl _, .bl _=>true | .str _, .str _=>true | .Hf _, .Hf _=>true
 | .int _, .str _=>true | .str _, .int _=>true | .bl _, .str _=>true | .str _, .bl _=>true
 | _,_=>false
def Zz:R2:=λx y H Q=>UT x y=true/\Q (.bl (decide (x=y))) H
def rNe:R2:=λx y H Q=>UT x y=true/\Q (.bl (!decide (x=y))) H
theorem Eb{i j:Int}:decide (V.int i=V.int j)=(i==j):=by rw [Bool.eq_iff_iff];simp
theorem ID{i j:Bool}:decide (V.bl i=V.bl j)=(i==j):=by rw [Bool.eq_iff_iff];simp
theorem Dk{i j:Str}:decide (V.str i=V.str j)=(i==j):=by rw [Bool.eq_iff_iff];simp
theorem Dw{i j:Array UInt8}:decide (V.Hf i=V.Hf j)=(i.toList==j.toList):=by rw [Bool.eq_iff_iff];cases i;cases j;simp
section
variable{a b:Expr}{tb tc:TE}
theorem aM{H:Hp}{Q:VK}{k k':Bool}(I:Inv X ζ σ H s)(q:Q (.bl k) H)(e:k=k'):EP X ζ σ Q (.bool k') s:=by subst e;exact ⟨.bl k,H,I,rfl,q⟩
theorem NN:jL X (compareOp .Eq) Zz:=by
 intro ζ s σ H x y v u Q I rx ry h;obtain ⟨hs,q⟩:=h;cases x with
 | aU=>
  cases rx;cases y with
  | aU=>cases ry;exact PySem.EqNone.eq_none_none (aM I q (by simp))
  | bl j=>cases ry;exact PySem.EqNone.eq_none_bool (aM I q (by simp))
  | int j=>obtain ⟨t',rfl⟩:=ry;exact PySem.EqNone.eq_none_int (aM I q (by simp))
  | str j=>obtain ⟨t',rfl⟩:=ry;exact PySem.EqNone.eq_none_str (aM I q (by simp))
  | _=>exact aaK (show false=true from hs) aaA
 | bl i=>
  cases rx;cases y with
  | aU=>cases ry;exact PySem.EqNone.eq_bool_none (aM I q (by simp))
  | bl j=>cases ry;exact eq_bool (aM I q ID)
  | str j=>obtain ⟨t',rfl⟩:=ry;exact PySem.EqMixed.eq_bool_str (aM I q (by simp))
  | _=>exact aaK (show false=true from hs) aaA
 | int i=>
  obtain ⟨t,rfl⟩:=rx;cases y with
  | aU=>cases ry;exact PySem.EqNone.eq_int_none (aM I q (by simp))
  | int j=>obtain ⟨t',rfl⟩:=ry;exact eq_int (aM I q Eb)
  | str j=>obtain ⟨t',rfl⟩:=ry;exact PySem.EqMixed.eq_int_str (aM I q (by simp))
  | _=>exact aaK (show false=true from hs) aaA
 | str i=>
  obtain ⟨t,rfl⟩:=rx;cases y with
  | aU=>cases ry;exact PySem.EqNone.eq_str_none (aM I q (by simp))
  | bl j=>cases ry;exact PySem.EqMixed.eq_str_bool (aM I q (by simp))
  | int j=>obtain ⟨t',rfl⟩:=ry;exact PySem.EqMixed.eq_str_int (aM I q (by simp))
  | str j=>obtain ⟨t',rfl⟩:=ry;exact eq_str (aM I q Dk)
  | _=>exact aaK (show false=true from hs) aaA
 | Hf i=>
  obtain ⟨t,rfl⟩:=rx;cases y with
  | Hf j=>obtain ⟨t',rfl⟩:=ry;exact PySem.W.eq_bytes (aM I q Dw)
  | _=>exact aaK (show false=true from hs) aaA
 | _=>cases y <;> exact aaK (show false=true from hs) aaA
theorem TQ:jL X (compareOp .NotEq) rNe:=by
 intro ζ s σ H x y v u Q I rx ry h;obtain ⟨hs,q⟩:=h;cases x with
 | aU=>
  cases rx;cases y with
  | aU=>cases ry;exact PySem.EqNone.ne_none_none (aM I q (by simp))
  | bl j=>cases ry;exact PySem.EqNone.ne_none_bool (aM I q (by simp))
  | int j=>obtain ⟨t',rfl⟩:=ry;exact PySem.EqNone.ne_none_int (aM I q (by simp))
  | str j=>obtain ⟨t',rfl⟩:=ry;exact PySem.EqNone.ne_none_str (aM I q (by simp))
  | _=>exact aaK (show false=true from hs) aaA
 | bl i=>
  cases rx;cases y with
  | aU=>cases ry;exact PySem.EqNone.ne_bool_none (aM I q (by simp))
  | bl j=>cases ry;exact ne_bool (aM I q (aaZ not ID))
  | str j=>obtain ⟨t',rfl⟩:=ry;exact PySem.EqMixed.ne_bool_str (aM I q (by simp))
  | _=>exact aaK (show false=true from hs) aaA
 | int i=>
  obtain ⟨t,rfl⟩:=rx;cases y with
  | aU=>cases ry;exact PySem.EqNone.ne_int_none (aM I q (by simp))
  | int j=>obtain ⟨t',rfl⟩:=ry;exact ne_int (aM I q (aaZ not Eb))
  | str j=>obtain ⟨t',rfl⟩:=ry;exact PySem.EqMixed.ne_int_str (aM I q (by simp))
  | _=>exact aaK (show false=true from hs) aaA
 | str i=>
  obtain ⟨t,rfl⟩:=rx;cases y with
  | aU=>cases ry;exact PySem.EqNone.ne_str_none (aM I q (by simp))
  | bl j=>cases ry;exact PySem.EqMixed.ne_str_bool (aM I q (by simp))
  | int j=>obtain ⟨t',rfl⟩:=ry;exact PySem.EqMixed.ne_str_int (aM I q (by simp))
  | str j=>obtain ⟨t',rfl⟩:=ry;exact ne_str (aM I q (aaZ not Dk))
  | _=>exact aaK (show false=true from hs) aaA
 | Hf i=>
  obtain ⟨t,rfl⟩:=rx;cases y with
  | Hf j=>obtain ⟨t',rfl⟩:=ry;exact PySem.W.ne_bytes (aM I q (aaZ not Dw))
  | _=>exact aaK (show false=true from hs) aaA
 | _=>cases y <;> exact aaK (show false=true from hs) aaA
theorem Oc:jL X (compareOp .Lt) (G7 λi j=> .bl (decide (i < j))):=Nq λ_ _ _ _ _ _ _ q=>lt_int q
theorem Ta:jL X (compareOp .LtE) (G7 λi j=> .bl (decide (i<=j))):=Nq λ_ _ _ _ _ _ _ q=>le_int q
theorem Uy:jL X (compareOp .Gt) (G7 λi j=> .bl (decide (j < i))):=Nq λ_ _ _ _ _ _ _ q=>gt_int q
theorem Tn:jL X (compareOp .GtE) (G7 λi j=> .bl (decide (j<=i))):=Nq λ_ _ _ _ _ _ _ q=>ge_int q
theorem K0:jL X (compareOp .Is) (λx y H Q=>y= .aU/\Q (.bl (decide (x= .aU))) H):=by
 intro ζ s σ H x y v u Q I rx ry h;obtain ⟨rfl,q⟩:=h;cases ry;refine is_none_gen (aM I q ?_)
 cases x <;> first
  | (cases rx;rfl)
  | (obtain ⟨t,rfl⟩:=rx;rfl)
theorem Mt:jL X (compareOp .IsNot) (λx y H Q=>y= .aU/\Q (.bl (!decide (x= .aU))) H):=by
 intro ζ s σ H x y v u Q I rx ry h;obtain ⟨rfl,q⟩:=h;cases ry;refine isnot_none_gen (aM I q ?_)
 cases x <;> first
  | (cases rx;rfl)
  | (obtain ⟨t,rfl⟩:=rx;rfl)
theorem jL.or{r r':R2}(h:jL X f r)(h':jL X f r'):jL X f (λx y H Q=>r x y H Q\/r' x y H Q):=by
 intro ζ s σ H x y v u Q I rx ry q;rcases q with q | q
 ·exact h ζ s σ H x y v u Q I rx ry q
 ·exact h' ζ s σ H x y v u Q I rx ry q
theorem gM(b:Expr)(h:op≠ .In:=by decide)(h2:op≠ .NotIn:=by decide):behindInMarks op b=false:=by
 have e1:(op==CmpOp.In)=false:=by cases op <;> first | rfl | exact aaK rfl h
 have e2:(op==CmpOp.NotIn)=false:=by cases op <;> first | rfl | exact aaK rfl h2
 cases b <;> simp [behindInMarks,e1,e2]
theorem Mo{r:R2}(ho:jL X (compareOp op) r)(ha:PE X a ta)(hb:PE X b tb)(hm:behindInMarks op b=false):PE X (.Compare a [op] [b] pos) (Si r ta tb):=by intro ζ s σ H Q I h;exact wpAny_Compare1 (Qb ha hb I h λv u s2 x y H2 I2 rx ry q=>ho ζ s2 σ H2 x y v u Q I2 rx ry q) hm
def Ul(t:TE):TT:=λσ H Q=>t σ H λx H'=>∃k,x= .bl k/\Q k H'
theorem LA{r:R2}(ho:jL X (compareOp op) r)(ha:PE X a ta)(hb:PE X b tb)(hm:behindInMarks op b=false):PT X (.Compare a [op] [b] pos) (Ul (Si r ta tb)):=by
 intro ζ s σ H Q I h
 refine wpAny_isTrue_Compare1 (bF (ha ζ s σ H _ I h) λv s1 ⟨x,H1,I1,r1,q1⟩=>bF (hb ζ s1 σ H1 _ I1 q1) λu s2 ⟨y,H2,I2,r2,q2⟩=>
  bF (ho ζ s2 σ H2 x y v u _ I2 r1 r2 q2) λc s3 ⟨z,H3,I3,r3,k,e,q3⟩=> ?_) hm
 subst e;cases r3;exact wpAny_truthy_bool ⟨H3,I3,q3⟩
theorem pI:(sizeLine:Nat) < 2 ^ 63:=by rw [sizeLine_eq];decide
theorem CO:jL X (binaryOp .Add) (λx y H Q=>∃i j,x= .str i/\y= .str j/\i.length+j.length<=sizeLine/\Q (.str (i++j)) H):=by intro ζ s σ H x y v u Q I rx ry h;obtain ⟨i,j,rfl,rfl,hz,q⟩:=h;obtain ⟨t,rfl⟩:=rx;obtain ⟨t',rfl⟩:=ry;exact add_str (λt' tk=>⟨.str (i++j),H,I.tok _,⟨_,rfl⟩,q⟩) hz
theorem kO{x:V}(r:aB [x] us):∃u,us=[u]/\aH x u:=by
 cases r with
 | cons r1 r2=>cases r2;exact ⟨_,rfl,r1⟩
theorem OE{x y:V}(r:aB [x,y] us):∃u w',us=[u,w']/\aH x u/\aH y w':=by
 cases r with
 | cons r1 r2=>
  cases r2 with
  | cons r3 r4=>cases r4;exact ⟨_,_,rfl,r1,r3⟩
theorem JX:dY X (.builtin "abs") (λxs H Q=>∃i,xs=[.int i]/\Q (.int (if i < 0 then -i else i)) H):=by intro ζ s σ H xs us Q I r h;obtain ⟨i,rfl,q⟩:=h;obtain ⟨u,rfl,t,rfl⟩:=kO r;exact call_abs_int λu tk=>⟨.int (if i < 0 then -i else i),H,I.tok _,⟨_,rfl⟩,q⟩
theorem Gh(hc:X.calm=true):dY X (.builtin "min") (λxs H Q=>∃i j,xs=[.int i, .int j]/\Q (.int (if j < i then j else i)) H):=by
 intro ζ s σ H xs us Q I r h;obtain ⟨i,j,rfl,q⟩:=h;obtain ⟨u,w',rfl,⟨t,rfl⟩,⟨t',rfl⟩⟩:=OE r;refine min_two_ints (I.ok.hd hc) λh' tk k=>⟨_,H,I.kept k, ?_,q⟩;by_cases hj:j < i
 ·rw [aaw hj,aaw hj];exact ⟨_,rfl⟩
 ·rw [aav hj,aav hj];exact ⟨_,rfl⟩
theorem GX:dY X (.type "int") (λxs H Q=>(∃i,xs=[.int i]/\Q (.int i) H)\/∃k,xs=[.bl k]/\Q (.int (if k then 1 else 0)) H):=by
 intro ζ s σ H xs us Q I r h;rcases h with ⟨i,rfl,q⟩ | ⟨k,rfl,q⟩
 ·obtain ⟨u,rfl,t,rfl⟩:=kO r;exact call_int_int ⟨.int i,H,I,⟨_,rfl⟩,q⟩
 ·obtain ⟨u,rfl,r1⟩:=kO r;cases r1;exact call_int_bool ⟨.int (if k then 1 else 0),H,I.tok _,⟨_,rfl⟩,q⟩
end
structure C4(h:Heap)(x dx C:Addr)(mA:Str->Option Value):Prop where
 obj:h.get? x=some (PySem.W.instObj C dx)
 ns:h.Ns1 dx mA
 ne:dx≠x
theorem G9(n:h.Ns1 dx mA):∃od,h.get? dx=some od/\∀name,PySem.W.lookIn name od=some (mA name):=by
 obtain ⟨o,es,ep,ho,hd,hk,_,hm⟩:=n;refine ⟨o,ho,λname=> ?_⟩;have e:=hm name;unfold nsFind findBy at e;rw [<-Array.find?_toList] at e;unfold PySem.W.lookIn;rw [hd];dsimp only;split
 ·rename_i y q;rw [q] at e;exact aaZ some e
 ·rename_i q;rw [q] at e;have a:es.toList.any (·.refKey)=false:=by rw [List.any_eq_false];intro y hy;obtain ⟨z,t,Y2⟩:=hk y (Array.mem_toList_iff.mp hy);simp [DictEntry.refKey,Y2]
  have a':¬es.toList.any (·.refKey)=true:=by rw [a];exact aaA
  rw [aav a'];exact aaZ some e
theorem C4.look{x:Addr}(I:C4 h x dx C mA):∃od,PySem.W.InstAt h x (PySem.W.instObj C dx) C (some od)/\∀name,PySem.W.lookIn name od=some (mA name):=
 let ⟨od,ho,hl⟩:=G9 I.ns
 ⟨od,⟨I.obj,rfl,rfl,ho⟩,hl⟩
section
variable{K:fI}{x f:Addr}{name:Str}{v:Value}
theorem qN{expr:Bool}(X:K.In s.heap)(I:C4 s.heap x dx C mA)(hg:PySem.W.plainGet K C name=true)(hh:PySem.W.hasDictIn K C=true)
  (ha:PySem.W.findIn K (.ref C) name=some none) (hv:mA name=some v) (hv':PySem.W.handedIn v=true) (h:Q v {s with toks:=s.toks+1}):
  wpAny (model prog w) A (getAttr (.ref x) name expr) Q E s:=by
 obtain ⟨od,J,hl⟩:=I.look;exact PySem.W.get_value X J (PySem.W.plainGet_of hg).1 (PySem.W.findObj_own hh ha rfl (by rw [hl,hv])) hv' h
theorem Ja{pl:Sem Bool}{Q:Value×List Value->Shared->Prop}(X:K.In s.heap)(I:C4 s.heap x dx C mA)(hg:PySem.W.plainGet K C name=true)
  (hf:PySem.W.findIn K (.ref C) name=some (some (.ref f))) (ht:PySem.W.isFn K (.ref f)=true) (hv:mA name=none) (h:Q (.ref f,[.ref x]) s):
  wpAny (model prog w) A (getMethod (.ref x) name pl) Q E s:=by
 obtain ⟨od,J,hl⟩:=I.look;exact PySem.W.method_fn X J (PySem.W.plainGet_of hg).1 (PySem.W.plainGet_of hg).2 hf (abz.mp ht) (by show (PySem.W.lookIn name od).map (·.isSome)=some false;rw [hl,hv];rfl) h
theorem Mx{ns:List Str}{Q:Unit->Shared->Prop}(X:K.In s.heap)(I:C4 s.heap x dx C mA)
  (hs:PySem.W.findIn K (.ref C) "__setattr__"=some (some (.builtin "object.__setattr__"))) (hp:PySem.W.plainOver K C=true) (ht:PySem.W.takerIn K C name=some none) (hh:PySem.W.hasDictIn K C=true)
  (hw:PySem.Within mA ns) (hsz:ns.length<=sizeLine)
  (h:∀h',C4 h' x dx C (λy=>if y=name then some v else mA y)->Heap.SameBut dx s.heap h'->Q () {s with heap:=h',toks:=s.toks+2}):
  wpAny (model prog w) A (setAttr (.ref x) name v) Q E s:=by
 obtain ⟨od,J,hl⟩:=I.look;refine PySem.W.set_plain X J hs (PySem.W.osa_open (s:={s with toks:=s.toks+1}) (r:=none) X J hp ht λb=> ?_);obtain ⟨cd,hc,MS⟩:=PySem.W.any_some hh;have hx:s.heap.get? x=some ⟨.ref C,some dx, .plain, #[]⟩:=I.obj;refine aaG (abe (aaG (aaG (wpAny_loadPart hx (aaG (PySem.W.Looks.here (s:={s with toks:=s.toks+1}) (PySem.W.looks_clsIn X hc) ?_))))));rw [MS];refine abe (a:=some dx) (aaG (abe (aaG ?_)));refine wpAny_nsSet1 (s:={s with toks:=s.toks+1}) I.ns λh' Rz Qg=> ?_;obtain ⟨oD,esD,epD,hoD,hdD,hcD⟩:=Rz.count (PySem.Within.cons name v hw);refine aaG (wpAny_lookBehind hoD (by rw [hdD];exact pastItsLine_dict (aax hcD (by rw [aaC];omega))) ?_);exact abe (h _ ⟨(Qg.2 _ (Ne.symm I.ne)).trans I.obj,Rz,I.ne⟩ Qg)
theorem IP{R:Result->Shared->Prop}{vs:List Value}(X:K.In s.heap)(hm:PySem.W.makesIn K C=true)
  (hi:PySem.W.findIn K (.ref C) "__init__"=some (some (.ref f))) (hf:PySem.W.typeIn K (.ref f)=some (.type "function"))
  (h:codeAny (model prog w) (A.under (.builtin "type.__call__" ⟨.ref C::vs,kw⟩)) (.call (.ref f) ⟨.ref (s.heap.objs.size+1)::vs,kw⟩) (PySem.W.InitBack (s.heap.objs.size+1) R)
   {s with heap:=(s.heap.push PySem.W.emptyDict).push (PySem.W.instObj C s.heap.objs.size)}):
  codeAny (model prog w) A (.call (.ref C) ⟨vs,kw⟩) R s:=by
 obtain ⟨hh,g,d,t,os⟩:=s;exact PySem.W.make_core (PySem.W.makes_of X hm) (PySem.W.looks_findIn X hi) (λself=>PySem.W.bind_fn X self hf) (.inl rfl) h
end
def jV(f:Str)(v:V):List (Str×V)->List (Str×V)
 | []=>[(f,v)]
 | (g,x)::r=>if g=f then (g,v)::r else (g,x)::jV f v r
theorem p8(f g:Str)(v:V):∀fs:List (Str×V),(jV f v fs).lookup g=if g=f then some v else fs.lookup g
 | []=>by
  show List.lookup g [(f,v)]=_;by_cases h:g=f
  ·have hb:(g==f)=true:=abz.mpr h;simp only [List.lookup,hb,if_pos h]
  ·have hb:(g==f)=false:=beq_eq_false_iff_ne.mpr h;simp only [List.lookup,hb,if_neg h]
 | (k,x)::r=>by
  have ih:=p8 f g v r;rw [show jV f v ((k,x)::r)=(if k=f then (k,v)::r else (k,x)::jV f v r) from rfl];by_cases hk:k=f
  ·rw [aaw hk];by_cases h:g=k
   ·have hb:(g==k)=true:=abz.mpr h;simp only [List.lookup,hb,if_pos (h.trans hk)]
   ·have hb:(g==k)=false:=beq_eq_false_iff_ne.mpr h;simp only [List.lookup,hb,if_neg (λe:g=f=>h (e.trans hk.symm))]
  ·rw [aav hk];by_cases h:g=k
   ·have hb:(g==k)=true:=abz.mpr h;simp only [List.lookup,hb,if_neg (λe:g=f=>hk (h.symm.trans e))]
   ·have hb:(g==k)=false:=beq_eq_false_iff_ne.mpr h;simp only [List.lookup,hb];exact ih
theorem pB(f:Str)(v:V):∀fs:List (Str×V),f∈(jV f v fs).map (·.1)/\∀g,g∈fs.map (·.1)->g∈(jV f v fs).map (·.1)
 | []=>⟨by simp [jV],λg h=>by simp at h⟩
 | (k,x)::r=>by
  obtain ⟨i1,i2⟩:=pB f v r;rw [show jV f v ((k,x)::r)=(if k=f then (k,v)::r else (k,x)::jV f v r) from rfl];by_cases hk:k=f
  ·rw [aaw hk];subst hk;exact ⟨by simp,λg h=>by simpa using h⟩
  ·rw [aav hk];refine ⟨?_,λg h=> ?_⟩
   ·rw [aaJ];exact aac _ i1
   ·rw [aaJ] at h⊢;rcases aaF.mp h with e | e
    ·exact aaF.mpr (.inl e)
    ·exact aac _ (i2 g e)
theorem pW(f:Str)(v:V):∀fs:List (Str×V),(jV f v fs).length<=fs.length+1
 | []=>by simp [jV]
 | (k,x)::r=>by
  have ih:=pW f v r;rw [show jV f v ((k,x)::r)=(if k=f then (k,v)::r else (k,x)::jV f v r) from rfl];by_cases hk:k=f
  ·rw [aaw hk,aaC,aaC];omega
  ·rw [aav hk,aaC,aaC];omega
theorem kz.some_of{o:Option Value}(r:kz (some v) o):∃u,o=some u/\aH v u:=by
 cases o with
 | none=>exact (show False from r).elim
 | some u=>exact ⟨u,rfl,r⟩
theorem kz.none_of{o:Option Value}(r:kz none o):o=none:=by
 cases o with
 | none=>rfl
 | some u=>exact (show False from r).elim
theorem GI(r:aH v u):PySem.W.handedIn u=true:=by
 cases v with
 | aU=>cases (show u=Value.none from r);rfl
 | bl b=>cases (show u=Value.bool b from r);rfl
 | int i=>obtain ⟨t,e⟩:=(show∃t,u=Value.int i t from r);cases e;rfl
 | str x=>obtain ⟨t,e⟩:=(show∃t,u=Value.str x t from r);cases e;rfl
 | Hf b=>obtain ⟨t,e⟩:=(show∃t,u=Value.bytes b t from r);cases e;rfl
 | Pr b=>obtain ⟨t,e⟩:=(show∃t,u=Value.float b t from r);cases e;rfl
 | ref a=>cases (show u=Value.ref a from r);rfl
 | ty n=>cases (show u=Value.type n from r);rfl
section
variable{H H':Hp}{fs VU:List (Str×V)}
theorem qC(bc:ly P w H h)(e:H a=some (.ins C dx fs)):∃mA,C4 h a dx C mA/\(∀f,kz (fs.lookup f) (mA f))/\PySem.Within mA (fs.map (·.1))/\fs.length<=1000/\H dx=some (.own a):=by obtain ⟨d,z,ne,ob,mA,n,r,q⟩:=(show b_ P w H h a (.ins C dx fs) from bc a _ e);exact ⟨mA,⟨ob,n,ne⟩,r,q,z,d⟩
end
structure Ec(K:fI)(C:Addr):Prop where
 pg:PySem.W.plainGet K C Str.empty=true
 hd:PySem.W.hasDictIn K C=true
 po:PySem.W.plainOver K C=true
 sa:PySem.W.findIn K (.ref C) "__setattr__"=some (some (.builtin "object.__setattr__"))
theorem Ec.get{K:fI}{C:Addr}(c:Ec K C)(f:Str):PySem.W.plainGet K C f=true:=c.pg
def iA(K:fI)(C:Addr)(f:Str):Prop:=PySem.W.findIn K (.ref C) f=some none
theorem iA.T_{K:fI}{f:Str}(n:iA K C f):PySem.W.takerIn K C f=some none:=by unfold PySem.W.takerIn;rw [show PySem.W.findIn K (.ref C) f=some none from n];rfl
structure NG(K:fI)(C:Addr)(m:Str)(f:Addr):Prop where
 at_:PySem.W.findIn K (.ref C) m=some (some (.ref f))
 fn:PySem.W.isFn K (.ref f)=true
 kp:PySem.W.keepIn K (.ref f)=true
section
variable{H:Hp}{fs:List (Str×V)}{f:Str}
theorem B2{b:Bool}(I:Inv X ζ σ H s)(e:H a=some (.ins C dx fs))(c:Ec X.K C)(n:iA X.K C f)(l:fs.lookup f=some v)
  (h:∀u s',Inv X ζ σ H s'->aH v u->Q u s'):wpAny (model X.prog X.w) A (getAttr (.ref a) f b) Q E s:=by
 obtain ⟨mA,O,r,_,_,_⟩:=qC I.bc e;obtain ⟨u,hu,ru⟩:=kz.some_of (v:=v) (o:=mA f) (by rw [<-l];exact r f);exact qN I.pS O (c.get f) c.hd n hu (GI ru) (h u _ (I.tok _) ru)
theorem sy{m:Str}{g:Addr}{pl:Sem Bool}{Q:Value×List Value->Shared->Prop}(I:Inv X ζ σ H s)(e:H a=some (.ins C dx fs))(c:Ec X.K C)(k:NG X.K C m g)(l:fs.lookup m=none)
  (h:Q (.ref g,[.ref a]) s):wpAny (model X.prog X.w) A (getMethod (.ref a) m pl) Q E s:=by
 obtain ⟨mA,O,r,_,_,_⟩:=qC I.bc e;have hn:mA m=none:=kz.none_of (by rw [<-l];exact r m);exact Ja I.pS O (c.get m) k.at_ k.fn hn h
theorem BV{y:V}{Q:Unit->Shared->Prop}(I:Inv X ζ σ H s)(e:H a=some (.ins C dx fs))(c:Ec X.K C)(n:iA X.K C f)(hl:fs.length < 1000)(ry:aH y u)
  (h:∀s',Inv X ζ σ (upd H a (.ins C dx (jV f y fs))) s'->Q () s'):wpAny (model X.prog X.w) A (setAttr (.ref a) f u) Q E s:=by
 obtain ⟨mA,O,r,wi,_,ho⟩:=qC I.bc e;have hz:(fs.map (·.1)).length<=sizeLine:=by rw [aad,sizeLine_eq];omega
 refine Mx I.pS O c.sa c.po n.T_ c.hd wi hz λh' O' sb=>h _ ?_;have hd:∃o,h'.get? dx=some o:=let ⟨o,_,_,e',_⟩:=O'.ns;⟨o,e'⟩
 refine I.write (x:=a) (e:=dx) (by rw [e];exact True.intro) (.inr ho) (λb q hb z=>(sb.2 b hb).trans z) hd ?_;refine ⟨by rw [Ξ O.ne];exact ho, ?_,O.ne,O'.obj,_,O'.ns,λg=> ?_,λg hg=> ?_⟩
 ·have:=pW f y fs;omega
 ·show kz ((jV f y fs).lookup g) (if g=f then some u else mA g);rw [p8];by_cases q:g=f
  ·rw [aaw q,aaw q];exact ry
  ·rw [aav q,aav q];exact r g
 ·by_cases q:g=f
  ·rw [q];exact (pB f y fs).1
  ·refine (pB f y fs).2 g (wi g λz=>hg ?_);show (if g=f then some u else mA g)=none;rw [aav q];exact z
theorem Inv.made(I:Inv X ζ σ H s):Inv X ζ σ (upd (upd H s.heap.objs.size (.own (s.heap.objs.size+1))) (s.heap.objs.size+1) (.ins C s.heap.objs.size []))
  {s with heap:=(s.heap.push PySem.W.emptyDict).push (PySem.W.instObj C s.heap.objs.size)}:=by
 have e1:(s.heap.push PySem.W.emptyDict).get? s.heap.objs.size=some PySem.W.emptyDict:=aaR s.heap rfl;have e2:((s.heap.push PySem.W.emptyDict).push (PySem.W.instObj C s.heap.objs.size)).get? (s.heap.objs.size+1)=some (PySem.W.instObj C s.heap.objs.size):=by have:=aaR (s.heap.push PySem.W.emptyDict) (o:=PySem.W.instObj C s.heap.objs.size) rfl;rwa [Heap.size_push] at this
 have e3:(s.heap.push PySem.W.emptyDict).Ns s.heap.objs.size (λ_=>none):=⟨PySem.W.emptyDict, #[],_,e1,rfl,(λe he=>absurd he (by simp)),λ_=>rfl⟩;have I1:=I.laid (a:=s.heap.objs.size) (o:= .own (s.heap.objs.size+1)) (h':=s.heap.push PySem.W.emptyDict) (t':=s.toks) (λb u q=>aal _ q) (aai _) ⟨_,e1⟩;refine I1.laid (a:=s.heap.objs.size+1) (o:= .ins C s.heap.objs.size []) (t':=s.toks) (λb u q=>aal _ q) (Nat.le_of_eq (Heap.size_push _ _)) ?_;have ne:s.heap.objs.size≠s.heap.objs.size+1:=aaU (abq _);refine ⟨by rw [Ξ ne,au],ab5 _,ne,e2,λ_=>none,(Heap.Ns1.of_empty e3).at λo q=>aal _ q,λ_=>True.intro,λy hy=>aaK rfl hy⟩
theorem Nh{env:Env}{f:Str}(hb:attributeBase e f env (eval e env)=eval e env)
  (h:wpAny (model prog w) A (eval e env) (λo s₁=>wpAny (model prog w) A (getAttr o f true) Q E s₁) E s):wpAny (model prog w) A (eval (.Attribute e f pos) env) Q E s:=
 Attribute_any_ h (by rw [arm_eval_Attribute,hb])
end
def Y_(K:fI)(ta:TE)(f:Str):TE:=λσ H Q=>ta σ H λx H1=>∃a C dx fs v,x= .ref a/\H1 a=some (.ins C dx fs)/\Ec K C/\iA K C f/\fs.lookup f=some v/\Q v H1
def Xu(K:fI)(ta tv:TE)(f:Str):TS:=λD σ H=>tv σ H λy H1=>ta σ H1 λx H2=>∃a C dx fs,x= .ref a/\H2 a=some (.ins C dx fs)/\Ec K C/\iA K C f/\fs.length < 1000/\
 D.nx σ (upd H2 a (.ins C dx (jV f y fs)))
section
variable{o value:Expr}{f:Str}{pos' uA:Pos}{tv:TE}
theorem Rf(he:PE X e ta)(hb:attributeBase e f X.env (eval e X.env)=eval e X.env):PE X (.Attribute e f pos) (Y_ X.K ta f):=by intro ζ s σ H Q I h;refine Nh hb (bF (he ζ s σ H _ I h) λu s1 ⟨x,H1,I1,rx,a,C,dx,fs,v,ex,ea,c,n,l,q⟩=> ?_);subst ex;obtain rfl:u=Value.ref a:=rx;exact B2 I1 ea c n l λu' s2 I2 ru=>⟨v,H1,I2,ru,q⟩
theorem Qi(ha:PE X o ta)(hv:PE X value tv)(hs:swapsWith value (some (.Attribute o f pos')) pos.line X.env=pure false):PS X (.Assign [.Attribute o f pos'] value pos) (Xu X.K ta tv f):=by intro ζ s σ H D I h;refine plainObj_wpAny_Assign_Attribute (bF (hv ζ s σ H _ I h) λu s1 ⟨y,H1,I1,ry,q⟩=>bF (ha ζ s1 σ H1 _ I1 q) λov s2 ⟨x,H2,I2,rx,a,C,dx,fs,ex,ea,c,n,l,q2⟩=> ?_) hs;subst ex;obtain rfl:ov=Value.ref a:=rx;exact BV I2 ea c n l ry λs3 I3=>⟨σ,_,I3,q2⟩
end
section
variable{H:Hp}{c:Value}{b:Bool}
inductive lq(K:fI)(H:Hp):V->Value->Prop where
 | aU:lq K H .aU (.type "NoneType")
 | bl (x:Bool):lq K H (.bl x) (.type "bool")
 | int (i:Int):lq K H (.int i) (.type "int")
 | str (x:Str):lq K H (.str x) (.type "str")
 | Pr (x:UInt64):lq K H (.Pr x) (.type "float")
 | lst {a:Addr} {xs:List V} (e:H a=some (.lst xs)):lq K H (.ref a) (.type "list")
 | yv {a:Addr} {o:Obj} {xs:List V} (e:H a=some (.yv o (.lst xs))):lq K H (.ref a) (.type "list")
 | tup {a:Addr} {xs:List V} (e:H a=some (.tup xs)):lq K H (.ref a) (.type "tuple")
 | dK {a:Addr} {Ρ:List (Key×V)} (e:H a=some (.dK Ρ)):lq K H (.ref a) (.type "dict")
 | dT {a:Addr} {Ρ:List (List Key×V)} (e:H a=some (.dT Ρ)):lq K H (.ref a) (.type "dict")
 | ins {a C dx:Addr} {fs:List (Str×V)} (e:H a=some (.ins C dx fs)) (cl:Ec K C) (ha:PySem.W.findIn K (.ref C) "__class__"=some (some (.builtin "object.__class__")))
   (hn:PySem.W.specialIn K (.builtin "object.__class__") "__get__"=some (some (.builtin "getset_descriptor.__get__"))) (Ru:PySem.W.takesIn K (.builtin "object.__class__")=some true)
   (hm:PySem.W.mroIn K C (.type "object")=some true):lq K H (.ref a) (.ref C)
theorem GB{x:V}{t:Value}(I:Inv X ζ σ H s)(rx:aH x u)(ty:lq X.K H x t)(e:PySem.W.kitOne X.K t c=some b)(h:∀tk,Q (.bool b) {s with toks:=tk}):
  wpAny (model X.prog X.w) A (call (.builtin "isinstance") [u,c]) Q E s:=by
 cases ty with
 | aU=>cases (show u=Value.none from rx);exact PySem.W.kia_one PySem.W.kitx_none I.pS True.intro e (λz=>nomatch z) h
 | bl y=>cases (show u=Value.bool y from rx);exact PySem.W.kia_one PySem.W.kitx_bool I.pS True.intro e (λz=>nomatch z) h
 | int i=>obtain ⟨t,q⟩:=(show∃t,u=Value.int i t from rx);cases q;exact PySem.W.kia_one PySem.W.kitx_int I.pS True.intro e (λz=>nomatch z) h
 | str y=>obtain ⟨t,q⟩:=(show∃t,u=Value.str y t from rx);cases q;exact PySem.W.kia_one PySem.W.kitx_str I.pS True.intro e (λz=>nomatch z) h
 | Pr y=>obtain ⟨t,q⟩:=(show∃t,u=Value.float y t from rx);cases q;exact PySem.W.kia_one PySem.W.kitx_float I.pS True.intro e (λz=>nomatch z) h
 | @lst a xs ea=>
  cases (show u=Value.ref a from rx);obtain ⟨_,_,n,_,h1⟩:=(show b_ X.prog X.w H s.heap a (.lst xs) from I.bc a _ ea);exact PySem.W.kia_one PySem.W.kitx_list I.pS ⟨_,h1,rfl⟩ e (λz=>nomatch z) h
 | @yv a ob xs ea=>
  cases (show u=Value.ref a from rx);obtain ⟨_,_,_,n,_,h1⟩:=(show b_ X.prog X.w H s.heap a (.yv ob (.lst xs)) from I.bc a _ ea);exact PySem.W.kia_one PySem.W.kitx_list I.pS ⟨_,h1,rfl⟩ e (λz=>nomatch z) h
 | @tup a xs ea=>
  cases (show u=Value.ref a from rx);obtain ⟨_,_,_,p⟩:=(show b_ X.prog X.w H s.heap a (.tup xs) from I.bc a _ ea);obtain ⟨o,h1,h2,_⟩:=p;exact PySem.W.kia_one PySem.W.kitx_tuple I.pS ⟨o,h1,h2⟩ e (λz=>nomatch z) h
 | @dK a Ρ ea=>
  cases (show u=Value.ref a from rx);obtain ⟨_,_,vs,_,p⟩:=(show b_ X.prog X.w H s.heap a (.dK Ρ) from I.bc a _ ea);obtain ⟨o,es,ep,h1,h2,_⟩:=p;exact PySem.W.kia_one PySem.W.kitx_dict I.pS ⟨o,h1,h2.1⟩ e (λz=>nomatch z) h
 | @dT a Ρ ea=>
  cases (show u=Value.ref a from rx);obtain ⟨_,_,xs,_,o,es,ep,h1,h2,_⟩:=(show b_ X.prog X.w H s.heap a (.dT Ρ) from I.bc a _ ea);exact PySem.W.kia_one PySem.W.kitx_dict I.pS ⟨o,h1,h2.1⟩ e (λz=>nomatch z) h
 | @ins a C dx fs ea cl ha hn Ru hm=>
  cases (show u=Value.ref a from rx);obtain ⟨mA,O,_⟩:=qC I.bc ea;obtain ⟨od,J,_⟩:=O.look;exact PySem.W.kia_one (PySem.W.kitx_own (cl.get _) cl.hd ha hn Ru hm) I.pS J e (λz=>nomatch z) h
end
structure bR(k:Nat)(A:Around):Prop where
 hd:A.handled=none
 dp:A.depth+3 * k+5 < recursionLimit
 un:A.units+16 * k+200 < cLine
theorem bR.mono{j k:Nat}(r:bR k A)(h:j<=k):bR j A:=⟨r.hd,by have:=r.dp;omega,by have:=r.un;omega⟩
theorem bR.deeper{k:Nat}(r:bR (k+1) A)(env:Env):bR k (A.deeper env):=
 ⟨r.hd,by have:=r.dp;show A.depth+1+3 * k+5 < _;omega,by have:=r.un;show A.units+3+16 * k+200 < _;omega⟩
theorem CA:(A.under (.builtin "type.__call__" ⟨.ref C::us,kw⟩)).depth=A.depth+1:=by
 first | rfl | simp [Around.under,Code.weight,Code.isCreation,Code.isGuard,Code.isCaller,Code.frames,Code.isFrame,guardIds]
theorem B8:(A.under (.builtin "type.__call__" ⟨.ref C::us,kw⟩)).units=A.units+1:=by
 first | rfl | simp [Around.under,Code.cUnits,Code.frames,Code.isFrame]
theorem bR.make{k:Nat}(r:bR (k+1) A)(C:Addr)(us:List Value)(kw:List (Str×Value)):bR k (A.under (.builtin "type.__call__" ⟨.ref C::us,kw⟩)):=
 ⟨r.hd,by have:=r.dp;rw [CA];omega,by have:=r.un;rw [B8];omega⟩
theorem bR.depth{k:Nat}(r:bR k A):A.depth < recursionLimit:=by have:=r.dp;omega
theorem bR.units{k:Nat}(r:bR k A):A.units+64 < cLine:=by have:=r.un;omega
theorem bR.Cd{k:Nat}(r:bR k A):A.units < cLine:=by have:=r.un;omega
def UN:TA:=λ_ H Q=>Q [] H
def RQ(ta:TE)(tr:TA):TA:=λσ H Q=>ta σ H λx H1=>tr σ H1 λxs H2=>Q (x::xs) H2
section
variable{t:TA}
theorem PD:PA X [] UN:=λ_ _ _ _ H Q I h=>Calls.spliced_nil ⟨[],H,I, .nil,h⟩
theorem MR(ha:PE X e te)(hr:PA X es t)(hs:starEach (e::es) X.env=(false,eval e X.env)::starEach es X.env:=by rfl):PA X (e::es) (RQ te t):=by intro pos ζ s σ H Q I h;rw [hs];show wpAny _ _ (spliced ((false,eval e X.env)::backTo pos (starEach es X.env))) _ _ s;refine Calls.spliced_cons (bF (ha ζ s σ H _ I h) λu s1 ⟨x,H1,I1,r1,q1⟩=> ?_);exact bF (hr pos ζ s1 σ H1 _ I1 q1) λus s2 ⟨xs,H2,I2,r2,q2⟩=>⟨x::xs,H2,I2, .cons r1 r2,q2⟩
def Wz(t:TA):TE:=λσ H Q=>t σ H λxs H1=>xs.length<=sizeLine/\∀p,H1 p=none->Q (.ref p) (upd H1 p (.tup xs))
def Y7(t:TA):TE:=λσ H Q=>t σ H λxs H1=>xs.length<=sizeLine/\∀p,H1 p=none->Q (.ref p) (upd H1 p (.lst xs))
theorem PL{x1}(h:PA X es t):PE X (.Tuple es x1 pos) (Wz t):=by intro ζ s σ H Q I hq;refine wpAny_Tuple_spliced (bF (h pos ζ s σ H _ I hq) λus s1 ⟨xs,H1,I1,r,z,q⟩=>⟨by rw [<-r.length];exact z, ?_⟩);have hf:H1 s1.heap.objs.size=none:=I1.bc.fresh (aai _);refine ⟨.ref s1.heap.objs.size,upd H1 s1.heap.objs.size (.tup xs),I1.laid (t':=s1.toks) (λb u e=>aal _ e) (aai _) ?_,rfl,q _ hf⟩;exact ⟨z,us,r,⟨_,aaR _ rfl,rfl,_,rfl⟩⟩
theorem Ji(h:PA X es t):PE X (.List es pos) (Y7 t):=by intro ζ s σ H Q I hq;refine wpAny_List_spliced (bF (h pos ζ s σ H _ I hq) λus s1 ⟨xs,H1,I1,r,z,q⟩=>⟨by rw [<-r.length];exact z, ?_⟩);have hf:H1 s1.heap.objs.size=none:=I1.bc.fresh (aai _);refine ⟨.ref s1.heap.objs.size,upd H1 s1.heap.objs.size (.lst xs),I1.laid (t':=s1.toks) (λb u e=>aal _ e) (aai _) ?_,rfl,q _ hf⟩;exact ⟨z,us,0,r,aaR _ rfl⟩
end
abbrev Sp:=List V->Hp->VK->XK->Prop
abbrev A7:=List Env->Hp->Shared->XK->Value->Shared->Prop
structure A_(P:Program)(w:World)(K:fI)(mg:Str->Option Value)(base:Heap)(A:Around)(outer:List Env)(s:Shared)(H:Hp):Prop where
 frames:A.frames=some outer
 mod:Mod K mg base
 bs:∀b o,base.get? b=some o->s.heap.get? b=some o/\H b=none
 lG:base.objs.size<=s.heap.objs.size
 uD:s.heap.FunFrames base outer
 Tq:∀b∈qe outer,H b=none
 bc:ly P w H s.heap
 bare:AllBare s.gens
def CE(outer:List Env)(P:Program)(w:World)(H:Hp)(s:Shared)(Q:VK)(u:Value)(s':Shared):Prop:=
 ∃v H',s'.os=s.os/\AllBare s'.gens/\Un (qe outer) [] H H' s.heap s'.heap/\ly P w H' s'.heap/\aH v u/\Q v H'
def CR(CX:A7)(outer:List Env)(P:Program)(w:World)(H:Hp)(s:Shared)(Q:VK)(E:XK)(r:Result)(s':Shared):Prop:=
 match r with
 | .ok (.ret u)=>CE outer P w H s Q u s'
 | .ok _=>False
 | .error e=>CX outer H s E e s'
structure aj(P:Program)(w:World)(K:fI)(mg:Str->Option Value)(base:Heap)(CX:A7)(k:Nat)(f:Addr)(fd:FuncData)(ps:List Str)(sp:Sp):Prop where
 len:∀vs H Q E,sp vs H Q E->vs.length=ps.length
 run:∀(A:Around) (outer:List Env) (s:Shared) (H:Hp) (args:Args) (us:List Value) (vs:List V) (Q:VK) (E:XK),bR k A->A_ P w K mg base A outer s H->BindsTo s fd args (ps.zip us)->aB vs us->sp vs H Q E->
  codeAny (model P w) A (.call (.ref f) args) (CR CX outer P w H s Q E) s
theorem A_.make{K:fI}{H:Hp}(e:A_ P w K mg base A outer s H)(C:Addr)(us:List Value)(kw:List (Str×Value)):
  A_ P w K mg base (A.under (.builtin "type.__call__" ⟨.ref C::us,kw⟩)) outer s H:=⟨by first | exact e.frames | (simpa [Around.under,Code.envs,Code.isFrame,pushEnvs] using e.frames),e.mod,e.bs,e.lG,e.uD,e.Tq,e.bc,e.bare⟩
section
variable{H:Hp}{s':Shared}
theorem Inv.UO(I:Inv X ζ σ H s):A_ X.prog X.w X.K X.mg X.base X.A X.stack s H:=
 ⟨I.ok.frames,I.ok.mod,I.bs,aax I.ok.lG I.sz,I.stack,I.wC,I.bc,I.bare⟩
theorem Inv.after{Q:VK}(I:Inv X ζ σ H s)(h:CE X.stack X.prog X.w H s Q u s'):EP X ζ σ Q u s':=by obtain ⟨v,H',os,bare,un,bc,r,q⟩:=h;obtain ⟨hh,g,d,t,Vm⟩:=s';obtain rfl:Vm=s.os:=os;exact ⟨v,H',I.call (h':=hh) (g':=g) (d':=d) (t':=t) (ch:=[]) un bc bare (λb z=>absurd z (by simp)),r,q⟩
end
def iw(K:fI)(fd:FuncData)(ps:List Str)(ds:List Value):Prop:=
 ∀(s:Shared) (us:List Value),K.In s.heap->(us++ds).length=ps.length->BindsTo s fd ⟨us,[]⟩ (ps.zip (us++ds))
theorem iw.all{K:fI}{fd:FuncData}(h:∀us:List Value,us.length=ps.length->bindArgs fd ⟨us,[]⟩=pure (ps.zip us)):iw K fd ps []:=λs us _ hl=>by rw [aa8] at hl⊢;exact .of_eq (h us hl)
section
variable{CX:A7}{k:Nat}{f:Addr}{fd:FuncData}{sp:Sp}{oa:List V}{ds:List Value}{E:XK}{m:Str}{p apos:Pos}{o:Expr}{t:TA}
structure Mk(K:fI)(C f:Addr):Prop where
 makes:PySem.W.makesIn K C=true
 init:PySem.W.findIn K (.ref C) "__init__"=some (some (.ref f))
 fn:PySem.W.isFn K (.ref f)=true
 kp:PySem.W.keepIn K (.ref C)=true
end
structure Ζ(N P:List Str)(sc:Scope):Prop where
 kind:sc.kind= .function
 co:sc.isCoroutine=false
 gen:sc.isGenerator=false
 nd:N.Nodup
 pre:N.take P.length=P
 par:∀x∈P,sc.names.lookup x=some .local\/sc.names.lookup x=some .cell
 QX:∀y∈sc.names,y.2≠ .free
theorem vh{kindOf:Str->Option NameKind}{x:Str}:∀{binds:List (Str×Value)} {m:Str->Option Value},(∀v,(x,v)∉binds)->bindL kindOf binds m x=m x
 | [],_,_=>rfl
 | (n,v)::r,m,h=>by
  unfold bindL;rw [vh λw hw=>h w (aac _ hw)];split
  ·have:x≠n:=by rintro rfl;exact h v aae
   simp [this]
  ·rfl
theorem vT{kindOf:Str->Option NameKind}{x:Str}:∀{binds:List (Str×Value)} {m:Str->Option Value},(∀v,(x,v)∉binds)->bindC kindOf binds m x=m x
 | [],_,_=>rfl
 | (n,v)::r,m,h=>by
  unfold bindC;rw [vT λw hw=>h w (aac _ hw)];split
  ·rfl
  ·have:x≠n:=by rintro rfl;exact h v aae
   simp [this]
theorem vN{kindOf:Str->Option NameKind}{x:Str}{v:Value}:∀{P:List Str} {vs:List Value} {i:Nat} {m:Str->Option Value},P.Nodup->P[i]? =some x->vs[i]? =some v->kindOf x=some .local->
  bindL kindOf (P.zip vs) m x=some v
 | [],_,_,_,_,h,_,_=>by simp at h
 | _::_,[],_,_,_,_,h,_=>by simp at h
 | p::P,w::vs,0,m,nd,h1,h2,hk=>by simp at h1 h2;subst h1;subst h2;show bindL kindOf ((p,w)::P.zip vs) m p=_;unfold bindL;rw [vh λv hv=>(abK.mp nd).1 (abD hv).1,aaw hk];simp
 | p::P,w::vs,i+1,m,nd,h1,h2,hk=>by show bindL kindOf ((p,w)::P.zip vs) m x=_;unfold bindL;exact vN (i:=i) (List.nodup_cons.mp nd).2 (by simpa using h1) (by simpa using h2) hk
theorem vK{kindOf:Str->Option NameKind}{x:Str}{v:Value}:∀{P:List Str} {vs:List Value} {i:Nat} {m:Str->Option Value},P.Nodup->P[i]? =some x->vs[i]? =some v->kindOf x≠some .local->
  bindC kindOf (P.zip vs) m x=some v
 | [],_,_,_,_,h,_,_=>by simp at h
 | _::_,[],_,_,_,_,h,_=>by simp at h
 | p::P,w::vs,0,m,nd,h1,h2,hk=>by simp at h1 h2;subst h1;subst h2;show bindC kindOf ((p,w)::P.zip vs) m p=_;unfold bindC;rw [vT λv hv=>(abK.mp nd).1 (abD hv).1,aav hk];simp
 | p::P,w::vs,i+1,m,nd,h1,h2,hk=>by show bindC kindOf ((p,w)::P.zip vs) m x=_;unfold bindC;exact vK (i:=i) (List.nodup_cons.mp nd).2 (by simpa using h1) (by simpa using h2) hk
def start(N:List Str)(vs:List V):St:=vs.map some++List.replicate (N.length - vs.length) none
def uG(CX:A7)(P:Program)(w:World)(K:fI)(mg:Str->Option Value)(base:Heap)(N:List Str)(qual:Str)(scope:Scope)(f:Addr)(cd:Value)(A:Around)(outer:List Env)(s:Shared)(H:Hp)(E:XK):Cx where
 prog:=P
 w:=w
 K:=K
 mg:=mg
 base:=base
 A:=A.deeper (envOfC qual scope s.heap.objs.size f cd)
 N:=N
 s₀:=s
 H₀:=H
 env:=envOfC qual scope s.heap.objs.size f cd
 outer:=outer
 stack:=envOfC qual scope s.heap.objs.size f cd::outer
 ex:=[]
 calm:=true
 fn:=λ_=>true
 pn:=[]
 xe:=λe s'=>wpAny (model P w) (A.deeper (envOfC qual scope s.heap.objs.size f cd)) (leaving (envOfC qual scope s.heap.objs.size f cd) e) (λ_ WI=>CX outer H s E e WI) (λe' WI=>CX outer H s E e' WI) s'
theorem Ag{sc:Scope}{n:Nat}(h:sc.names.lookup x=some .cell):∃c,(cellsFrom n sc.names []).lookup x=some c:=by have q:=PySem.W.cellsFrom_some sc.names n [] (.inl h);exact abG.mp q
theorem GY{CX:A7}{K:fI}{N:List Str}{qual:Str}{scope:Scope}{f:Addr}{cd:Value}{s1:Shared}{H:Hp}{E:XK}{vs:List V}
  (S:Ζ N ps scope) (hd:A.handled=none) (e0:A_ P w K mg base A outer s H) (hl:vs.length=ps.length) (r:aB vs us)
  (x:InCallC s s.heap.objs.size (bindL (envOfC qual scope s.heap.objs.size f cd).kindOf (ps.zip us) λ_=>none) (cellsFrom (s.heap.objs.size+1) scope.names []) (bindC (envOfC qual scope s.heap.objs.size f cd).kindOf (ps.zip us) λ_=>none) s1):
  Inv (uG CX P w K mg base N qual scope f cd A outer s H E) [] (start N vs) H s1:=by
 have gy:ps.length<=N.length:=by have:=aaZ List.length S.pre;rw [ace] at this;omega
 obtain ⟨h1,tk,rfl,hk⟩:=x.done;have T2:∀b:Addr,b∉(uG CX P w K mg base N qual scope f cd A outer s H E).ex:=λb z=>absurd (show b∈([]:List Addr) from z) (by simp)
 refine ⟨⟨e0.mod,S.kind,rfl,rfl,aai _,λy z c h1 h2=> ?_,λy hy=> ?_,λy c _ h=> ?_,λ_=>hd,Around.frames_deeper e0.frames, .inr ⟨rfl,rfl⟩,λb z=>aaK z (T2 b),e0.bs,e0.lG,λb _ _=>T2 b,λb z=>aaK z (T2 b),e0.uD,e0.Tq⟩,
  rfl,e0.bare,Un.kept hk,⟨_,x.toInCall.ns,λi y v h1 h2 h3=> ?_⟩,λy c h=>⟨_,x.cell y c h⟩,e0.bc.fresh (Nat.le_refl _),λy c h=> ?_,λp hp=>absurd (show p∈([]:List (Addr×Obj)) from hp) (by simp),e0.bc.kept hk, ?_⟩
 ·exact name_of_addr x.apart (PySem.mem_of_lookup h1) (PySem.mem_of_lookup h2)
 ·have hy:scope.names.lookup y=some .cell\/scope.names.lookup y=some .free:=hy;rcases hy with hy | hy
  ·exact Ag hy
  ·exact aaK rfl (S.QX _ (PySem.mem_of_lookup hy))
 ·exact Nat.le_of_lt (x.above y c (PySem.mem_of_lookup h))
 ·have hi:i < vs.length:=by
   unfold start at h2;by_cases hi:i < vs.length
   ·exact hi
   ·rw [List.getElem?_append_right (by simpa using hi)] at h2;rw [abX] at h2;split at h2 <;> cases h2
  have ha:vs[i]? =some v:=by
   unfold start at h2;rw [List.getElem?_append_left (by simpa using hi),List.getElem?_map] at h2;cases e:vs[i]? with
   | none=>rw [e] at h2;cases h2
   | some a=>rw [e] at h2;cases h2;rfl
  obtain ⟨u,hu,rv⟩:=r.get ha;have hp:ps[i]? =some y:=by rw [<-S.pre,aci (by omega)];exact h1
  have ndP:ps.Nodup:=by rw [<-S.pre];exact S.nd.sublist (List.take_sublist _ _)
  refine ⟨u,rv, ?_⟩;rcases S.par y (aam hp) with k | k
  ·exact .inl ⟨k,vN ndP hp hu k⟩
  ·obtain ⟨c,e⟩:=Ag (n:=s.heap.objs.size+1) k;refine .inr ⟨.inl k,c,e, ?_⟩;have q:=x.cell y c e;rw [vK ndP hp hu (by show scope.names.lookup y≠_;rw [k];decide)] at q;exact q
 ·exact e0.bc.fresh (Nat.le_of_lt (x.above y c (PySem.mem_of_lookup h)))
 ·unfold start;show _=N.length;rw [aag,aad,aa5];omega
theorem N8{CX:A7}{K:fI}{k:Nat}{f:Addr}{name qual:Str}{params:Arguments}{scope:Scope}{dV kV doc pm aY ct oc:Value}{an od:Option Addr}
  {A4:Array (Option Value)} {N:List Str} {sp:Sp} (lk:K.lookup f=some ⟨oc,od, .func (PySem.W.fnOf name qual params body scope dV kV doc pm an aY ct),A4⟩) (EJ:PySem.W.codeIn K aY qual=true) (S:Ζ N ps scope)
  (len:∀vs H Q E,sp vs H Q E->vs.length=ps.length)
  (qU:∀(A:Around) (outer:List Env) (s:Shared) (H:Hp) (vs:List V) (Q:VK) (E:XK),bR k (A.deeper (envOfC qual scope s.heap.objs.size f aY))->sp vs H Q E->
   ∃t,He (uG CX P w K mg base N qual scope f aY A outer s H E) body t/\t {nx:=λ_ H'=>Q .aU H',rt:=Q} (start N vs) H):
  aj P w K mg base CX (k+1) f (PySem.W.fnOf name qual params body scope dV kV doc pm an aY ct) ps sp:=by
 refine ⟨len,λA outer s H args us vs Q E hr e0 hb r OC=> ?_⟩;have hl:=len _ _ _ _ OC;have KX:K.In s.heap:=e0.mod.Sm.keeps λb o e=>(e0.bs b o e).1;have lim:s.heap.NoLimit:=e0.mod.nolimit.keeps λb o e=>(e0.bs b o e).1;have J':∀y∈ps.zip us,scope.names.lookup y.1=some .local\/(scope.names.lookup y.1=some .cell/\((cellsFrom (s.heap.objs.size+1) scope.names []).lookup y.1).isSome=true):=λ⟨n,v⟩ hy=>by
  rcases S.par n (abD hy).1 with q | q
  ·exact .inl q
  ·exact .inr ⟨q,PySem.W.cellsFrom_some _ _ _ (.inl q)⟩
 refine codeAny_call_function hr.depth (KX _ _ lk) rfl S.co S.gen rfl (PySem.W.codeRec_of KX EJ) (hb _ _ _ _ ?_);refine wpAny_newFunctionEnv_cells S.kind J' λenv he s1 x=> ?_;subst he;refine ⟨lim.keeps x.toInCall.keep,codeAny_func ?_⟩;obtain ⟨t,ht,hq⟩:=qU A outer s H vs Q E (hr.deeper _) OC;have I:Inv (uG CX P w K mg base N qual scope f aY A outer s H E) [] (start N vs) H s1:=GY S hr.hd e0 hl r x;refine ab8 (ht [] s1 (start N vs) H _ I hq) (λfl s' hs=> ?_) λe s' hs=>hs
 have fin:∀{σ':St} {H':Hp} {v:V} {u:Value},Inv (uG CX P w K mg base N qual scope f aY A outer s H E) [] σ' H' s'->aH v u->Q v H'->CE outer P w H s Q u s':=
  λ{σ' H' v u} J rv q=>⟨v,H',J.os,J.bare,J.base,J.bc,rv,q⟩
 cases fl with
 | ret u=>
  obtain ⟨v,σ',H',J,rv,q⟩:=hs;exact fin J rv q
 | next=>
  obtain ⟨σ',H',J,q⟩:=hs;exact fin (v:=V.aU) (u:=Value.none) J rfl q
 | brk=>
  obtain ⟨_,_,_,q⟩:=hs;exact False.elim q
 | cont=>
  obtain ⟨_,_,_,q⟩:=hs;exact False.elim q
section
variable{p:Pos}{t:TA}{id T:String}{r:List V->Hp->VK->Prop}
def Y'(r:List V->Hp->VK->Prop)(t:TA):TE:=λσ H Q=>t σ H λvs H1=>r vs H1 Q
theorem Hy(hc:dY X (.builtin id) r)(hg:Gl X x)(hm:X.mg x=none)(hv:bootBuiltins x=some (.builtin id))(ha:PA X (e::es) t)(hn:x≠"__name__":=by decide)(uH:(x==("__debug__":Str))=false:=by decide)
  (he:starEach (e::es) X.env=(false,eval e X.env)::starEach es X.env:=by rfl) (gy:(backTo pos (starEach es X.env)).any (·.1)=false:=by rfl):PE X (.Call (.Name x p) (e::es) [] pos) (Y' r t):=by
 intro ζ s σ H Q I h;refine wpAny_Call_Name_kw (lV I hg hm hv ?_ hn uH);exact PyProof.Rows.callWith_builtin1 (bF (ha pos ζ s σ H _ I h) λus s1 ⟨vs,H1,I1,r1,q1⟩=>hc ζ s1 σ H1 vs us Q I1 r1 q1) he gy
theorem G6(hc:dY X (.type T) r)(hg:Gl X x)(hm:X.mg x=none)(hv:bootBuiltins x=some (.type T))(ha:PA X (e::es) t)(hn:x≠"__name__":=by decide)(uH:(x==("__debug__":Str))=false:=by decide)
  (he:starEach (e::es) X.env=(false,eval e X.env)::starEach es X.env:=by rfl) (gy:(backTo pos (starEach es X.env)).any (·.1)=false:=by rfl):PE X (.Call (.Name x p) (e::es) [] pos) (Y' r t):=by
 intro ζ s σ H Q I h;refine wpAny_Call_Name_kw (lV I hg hm hv ?_ hn uH);exact PyProof.Rows.callWith_type1 (bF (ha pos ζ s σ H _ I h) λus s1 ⟨vs,H1,I1,r1,q1⟩=>hc ζ s1 σ H1 vs us Q I1 r1 q1) he gy
end
end L2
namespace HT
open PySem PyProof.Rows
section
variable{prog:Program}{w:World}{A:Around}{E:Value->Shared->Prop}{s:Shared}
theorem NC{t b:Addr}{vs ws:List Value}{Q:Value->Shared->Prop}(ht:IsTup s.heap t vs.toArray)(hb:IsTup s.heap b ws.toArray)(hv:vs≠[])
  (h1:ws=[]->Q (.ref t) s) (h2:ws≠[]->Q (.ref s.heap.objs.size) {s with heap:=s.heap.push {cls:= .type "tuple",data:= .seq (vs++ws).toArray}})
  (hsz:vs.length+ws.length<=sizeLine):wpAny (model prog w) A (binaryOp .Add (.ref t) (.ref b)) Q E s:=by
 obtain ⟨⟨cls,dd,data,sl⟩,ho,hc,n,hd⟩:=id ht;obtain ⟨⟨af4,Vf,data2,Vc⟩,VS,hc2,n2,hd2⟩:=id hb;simp only at hc hd hc2 hd2;subst hc hd hc2 hd2;have e:vs.toArray++ws.toArray=(vs++ws).toArray:=by simp
 by_cases hw:ws=[]
 ·exact concat_meets ⟨_,ho,rfl⟩ ⟨_,VS,rfl⟩ noFill_tuple_add seq_tuple_add PySem.F.slot_tuple_add PySem.F.entry_tuple_add (PySem.F.args_tuple_add_2 _ _)
   (tuple_addW1 t b vs.toArray ws.toArray n n2 dd Vf sl Vc (by simpa using hv) (by simp [hw])) ⟨ho,VS,h1 hw⟩
 ·refine concat_meets ⟨_,ho,rfl⟩ ⟨_,VS,rfl⟩ noFill_tuple_add seq_tuple_add PySem.F.slot_tuple_add PySem.F.entry_tuple_add (PySem.F.args_tuple_add_2 _ _)
   (tuple_addW2 t b vs.toArray ws.toArray n n2 dd Vf sl Vc (by simpa using hv) (by simpa using hw) (by rw [List.size_toArray,List.size_toArray];exact hsz)) ⟨ho,VS, ?_⟩
  rw [e];exact h2 hw
def yW(n d:Nat):Option Int->Nat
 | none=>d
 | some v=>if v < 0 then (v+(n:Int)).toNat else min v.toNat n
theorem zy(n d:Nat):yW n d none=d:=rfl
theorem qJ(n d k:Nat):yW n d (some (k:Int))=min k n:=by show (if (k:Int) < 0 then ((k:Int)+(n:Int)).toNat else min (k:Int).toNat n)=min k n;rw [aav (by omega),abA]
end
end HT
namespace L2
open PySem PySem.Spec PyProof.Rows
variable{X:Cx}{n:Nat}{ζ:List (Addr×Obj)}{s:Shared}{its:List Value}
abbrev TO:=St->Hp->(Option Int->Hp->Prop)->Prop
def PO(X:Cx)(e:Option Expr)(t:TO):Prop:=
 ∀(ζ:List (Addr×Obj)) (s:Shared) (σ:St) (H:Hp) (Q:Option Int->Hp->Prop),Inv X ζ σ H s->t σ H Q->
  wpAny (model X.prog X.w) X.A (evalPart e X.env) (λu s'=>∃o H',Inv X ζ σ H' s'/\IsPart u o/\Q o H') X.xe s
def MX:TO:=λ_ H Q=>Q none H
def S'(t:TE):TO:=λσ H Q=>t σ H λx H1=>∃i,x= .int i/\Q (some i) H1
section
variable{e:Expr}{te:TE}{lo hi:Option Expr}{tl th:TO}{pos p2:Pos}
theorem EA:PO X none MX:=by intro ζ s σ H Q I h;rw [evalPart_none];exact abe ⟨none,H,I, .none,h⟩
theorem kY(h:PE X e te):PO X (some e) (S' te):=by intro ζ s σ H Q I hw;rw [evalPart_some];refine bF (h ζ s σ H _ I hw) λu s1 ⟨x,H1,I1,r1,q1⟩=> ?_;obtain ⟨i,rfl,q⟩:=q1;obtain ⟨t,rfl⟩:=r1;exact ⟨some i,H1,I1, .int i t,q⟩
def SlR(X:Cx)(r:V->Option Int->Option Int->Hp->VK->Prop):Prop:=
 ∀(ζ:List (Addr×Obj)) (s:Shared) (σ:St) (H:Hp) (x:V) (v vl vu:Value) (lo hi:Option Int) (sl:Addr) (Q:VK),Inv X ζ σ H s->aH x v->s.heap.IsSliceOf sl vl vu .none->IsPart vl lo->IsPart vu hi->r x lo hi H Q->
  ∃T id,typeLookup (.type T) "__getitem__"=pure (some (.builtin id))/\s.TypeIs v T/\wpAny (model X.prog X.w) X.A (getItem v (.ref sl)) (EP X ζ σ Q) X.xe s
def tSl(r:V->Option Int->Option Int->Hp->VK->Prop)(te:TE)(tl th:TO):TE:=λσ H Q=>te σ H λx H1=>tl σ H1 λl H2=>th σ H2 λu H3=>r x l u H3 Q
theorem sj{r:V->Option Int->Option Int->Hp->VK->Prop}(hr:SlR X r)(he:PE X e te)(hl:PO X lo tl)(hu:PO X hi th):PE X (.Subscript e (.Slice lo hi none p2) pos) (tSl r te tl th):=by intro ζ s σ H Q I h;refine Subscript_ (bF (he ζ s σ H _ I h) λv s1 ⟨x,H1,I1,r1,q1⟩=> ?_);refine wpAny_Slice (bF (hl ζ s1 σ H1 _ I1 q1) λvl s2 ⟨l,H2,I2,pl,q2⟩=>bF (hu ζ s2 σ H2 _ I2 q2) λvu s3 ⟨u,H3,I3,pu,q3⟩=> ?_);rw [evalPart_none];refine abe ?_;have I4:Inv X ζ σ H3 {s3 with heap:=s3.heap.push {cls:= .type "slice",data:= .fields #[vl,vu, .none]}}:=I3.kept (t':=s3.toks) λb ob q=>aal _ q;obtain ⟨T,id,hT,ht,hg⟩:=hr ζ {s3 with heap:=s3.heap.push {cls:= .type "slice",data:= .fields #[vl,vu, .none]}} σ H3 x v vl vu l u s3.heap.objs.size Q I4 r1 (Heap.IsSliceOf.new ..) pl pu q3;show wpAny (model X.prog X.w) X.A (subscriptTail e (.Slice lo hi none p2) v (.ref s3.heap.objs.size)) (EP X ζ σ Q) X.xe {s3 with heap:=s3.heap.push {cls:= .type "slice",data:= .fields #[vl,vu, .none]}};exact tail_any (ops:=[.ref s3.heap.objs.size,v]) ht hT hg (by with_unfolding_all rfl)
def uu(xs:List V)(lo hi:Option Int):List V:=(xs.drop (HT.yW xs.length 0 lo)).take (HT.yW xs.length xs.length hi - HT.yW xs.length 0 lo)
theorem ze(xs:List V)(lo hi:Option Int):(uu xs lo hi).length<=xs.length:=by unfold uu;rw [ace,abH];omega
def Ox(K:fI):R2:=λx y H Q=>∃a b xs ys,x= .ref a/\y= .ref b/\nR K H a xs/\nR K H b ys/\xs≠[]/\xs.length+ys.length<=sizeLine/\
 (ys=[]->Q (.ref a) H)/\(ys≠[]->∀p,H p=none->Q (.ref p) (upd H p (.tup (xs++ys))))
theorem aB.wV{xs:List V}{us:List Value}(r:aB xs us):us=[]↔xs=[]:=by
 cases r with
 | nil=>simp
 | cons _ _=>simp
theorem LC:jL X (binaryOp .Add) (Ox X.K):=by intro ζ s σ H x y v u Q I rx ry h;obtain ⟨a,b,xs,ys,rfl,rfl,ha,hb,hx,hz,q1,q2⟩:=h;cases rx;cases ry;obtain ⟨its,r1,p1,_⟩:=I.tuple ha;obtain ⟨KI,r2,p2,_⟩:=I.tuple hb;refine HT.NC p1 p2 (λz=>hx (r1.wV.mp z)) (λz=>⟨.ref a,H,I,rfl,q1 (r2.wV.mp z)⟩) (λz=> ?_) (by rw [<-r1.length,<-r2.length];exact hz);refine ⟨.ref s.heap.objs.size,_,I.laid (t':=s.toks) (o:= .tup (xs++ys)) (λb ob q=>aal _ q) (aai _) ?_,rfl,q2 (λw=>z (r2.wV.mpr w)) _ (I.bc.fresh (aai _))⟩;exact ⟨by rw [aag];exact hz,_,r1.append r2,IsTup.new _ _⟩
end
def Hu(n:Nat)(i:Int):Option Nat:=if 0<=i then (if i < n then some i.toNat else none) else if -(n:Int)<=i then some (i+n).toNat else none
def mw{α:Type}(xs:List α)(i:Int):Option α:=(Hu xs.length i).bind λj=>xs[j]?
theorem ED{i:Int}{j:Nat}(h:Hu n i=some j):seqIndex? i n=some j/\j < n/\ -(n:Int)<=i/\i < n:=by
 unfold Hu at h;by_cases h0:0<=i
 ·rw [aaw h0] at h;by_cases h1:i < n
  ·rw [aaw h1] at h;have e:i.toNat=j:=aaz h;exact ⟨by rw [seqIndex_of h0 h1,e],by omega,by omega,h1⟩
  ·rw [aav h1] at h;cases h
 ·rw [aav h0] at h;by_cases h1: -(n:Int)<=i
  ·rw [aaw h1] at h;have e:(i+n).toNat=j:=aaz h;exact ⟨by rw [seqIndex_neg (by omega) h1,e],by omega,h1,by omega⟩
  ·rw [aav h1] at h;cases h
theorem xv{α:Type}{xs:List α}{i:Int}{v:α}(h:mw xs i=some v):∃j,seqIndex? i xs.length=some j/\xs[j]? =some v/\j < xs.length/\ -(xs.length:Int)<=i/\i < xs.length:=by
 unfold mw at h;cases e:Hu xs.length i with
 | none=>rw [e] at h;cases h
 | some j=>
  rw [e] at h;obtain ⟨h1,h2,h3,h4⟩:=ED e;exact ⟨j,h1,h,h2,h3,h4⟩
theorem Κ{α:Type}{xs:List α}{j:Nat}{v:α}(h:xs[j]? =some v):mw xs (j:Int)=some v:=by
 have hj:j < xs.length:=(aaf.mp h).1;have e:Hu xs.length (j:Int)=some j:=by unfold Hu;rw [if_pos (by omega),if_pos (by omega)];simp
 unfold mw;rw [e];exact h
def v8(b:Expr):Prop:=∀o i,subscripted b false o i=operate [o,i] (getItem o i)
def K6(X:Cx)(r:R2):Prop:=
 ∀(value slice:Expr) (ζ:List (Addr×Obj)) (s:Shared) (σ:St) (H:Hp) (x y:V) (v u:Value) (Q:VK),Inv X ζ σ H s->aH x v->aH y u->r x y H Q->
  subscripted slice false v u=operate [v,u] (getItem v u)->wpAny (model X.prog X.w) X.A (subscriptTail value slice v u) (EP X ζ σ Q) X.xe s
def Z1(X:Cx)(id:String)(r:V->List V->Hp->VK->Prop):Prop:=
 ∀(ζ:List (Addr×Obj)) (s:Shared) (σ:St) (H:Hp) (x:V) (xs:List V) (v:Value) (us:List Value) (Q:VK),Inv X ζ σ H s->aH x v->aB xs us->r x xs H Q->
  wpAny (model X.prog X.w) X.A (call (.builtin id) (v::us)) (EP X ζ σ Q) X.xe s
section
variable{a b:Expr}{ta tb:TE}{pos:Pos}
theorem K6.or{r r':R2}(h:K6 X r)(h':K6 X r'):K6 X (λx y H Q=>r x y H Q\/r' x y H Q):=by
 intro value slice ζ s σ H x y v u Q I rx ry q hs;rcases q with q | q
 ·exact h value slice ζ s σ H x y v u Q I rx ry q hs
 ·exact h' value slice ζ s σ H x y v u Q I rx ry q hs
theorem UE{r:R2}(hr:K6 X r)(ha:PE X a ta)(hb:PE X b tb)(hs:v8 b):PE X (.Subscript a b pos) (Si r ta tb):=by intro ζ s σ H Q I h;exact Subscript_ (Qb ha hb I h λv u s2 x y H2 I2 rx ry q=>hr a b ζ s2 σ H2 x y v u Q I2 rx ry q (hs _ _))
def Uv(K:fI):R2:=λx y H Q=>∃p xs i v,x= .ref p/\y= .int i/\gF K H p xs/\mw xs i=some v/\Q v H
def T8(K:fI):R2:=λx y H Q=>∃p xs i v,x= .ref p/\y= .int i/\nR K H p xs/\mw xs i=some v/\Q v H
def Uz:R2:=λx y H Q=>∃z i c,x= .str z/\y= .int i/\z.length<=sizeLine/\mw z.cps.toList i=some c/\Q (.str ⟨#[c]⟩) H
theorem LZ:K6 X (Uv X.K):=by
 intro value slice ζ s σ H x y v u Q I rx ry h hs;obtain ⟨p,xs,i,z,rfl,rfl,hq,he,q⟩:=h;cases rx;obtain ⟨t,rfl⟩:=ry;obtain ⟨its,r,pl,hz⟩:=I.list hq;obtain ⟨j,h1,h2,h3,h4,h5⟩:=xv he;obtain ⟨w,ew,Fe⟩:=r.get h2;have hl:=r.length;have hn:=pI;have fin:EP X ζ σ Q w s:=⟨z,H,I,Fe,q⟩;by_cases h0:0<=i
 ·have hj:i.toNat=j:=by rw [seqIndex_of h0 h5] at h1;exact aaz h1
  exact item_listR pl.isList h0 (by omega) (by rw [hj];simpa using ew) fin hs
 ·have hj:(i+(its.toArray.size:Int)).toNat=j:=by rw [seqIndex_neg (by omega) h4] at h1;rw [aay,<-hl];exact aaz h1
  exact subscriptTail_builtinR (x:=w) pl.isList.typeIs slot_list_getitem.lookup
   (wpAny_getItem_list_neg (Q:=λr s'=>r=w/\EP X ζ σ Q r s') pl.isList (by omega) (by rw [List.size_toArray] <;> omega) (by omega) (by rw [hj];simpa using ew) ⟨rfl,fin⟩) hs
theorem PR:K6 X (T8 X.K):=by
 intro value slice ζ s σ H x y v u Q I rx ry h hs;obtain ⟨p,xs,i,z,rfl,rfl,hq,he,q⟩:=h;cases rx;obtain ⟨t,rfl⟩:=ry;obtain ⟨its,r,pl,hz⟩:=I.tuple hq;obtain ⟨j,h1,h2,h3,h4,h5⟩:=xv he;obtain ⟨w,ew,Fe⟩:=r.get h2;have hl:=r.length;have hn:=pI;have fin:EP X ζ σ Q w s:=⟨z,H,I,Fe,q⟩
 exact subscriptTail_builtinR (x:=w) pl.typeIs slot_tuple_getitem.lookup
  (getItem_tuple (j:=j) (Q:=λr s'=>r=w/\EP X ζ σ Q r s') pl (by omega) (by omega) (by rw [List.size_toArray,<-hl];exact h1) (by simpa using ew) ⟨rfl,fin⟩) hs
theorem Q9:K6 X Uz:=by
 intro value slice ζ s σ H x y v u Q I rx ry h hs;obtain ⟨z,i,c,rfl,rfl,hz,he,q⟩:=h;obtain ⟨t,rfl⟩:=rx;obtain ⟨t',rfl⟩:=ry;obtain ⟨j,h1,h2,h3,h4,h5⟩:=xv he;have hl:z.cps.toList.length=z.length:=by simp [Str.length]
 rw [hl] at h1 h4 h5;have hn:=pI
 exact tail_any (typeIs_str s z t) slot_str_getitem.lookup (getItem_str (c:=c) (by
  have e1:decide (i < -(2 ^ 63:Int))=false:=aaI (by omega);have e2:decide (i ≥ 2 ^ 63)=false:=aaI (by omega)
  rw [e1,e2,Bool.or_false]) (by rw [h1];simpa using h2) ⟨.str ⟨#[c]⟩,H,I.tok _,⟨_,rfl⟩,q⟩) hs
def rIx(K:fI):R2:=λx y H Q=>Uv K x y H Q\/T8 K x y H Q\/Uz x y H Q
theorem OI:K6 X (rIx X.K):=LZ.or (PR.or Q9)
theorem CI(its:List Value)(n j:Nat)(u:Value):Obj.mapSeq (·.setIfInBounds j u) {cls:= .type "list",data:= .seq its.toArray n}={cls:= .type "list",data:= .seq (its.set j u).toArray n}:=by simp [Obj.mapSeq]
theorem Inv.lst{ζ:List (Addr×Obj)}{σ:St}{H:Hp}{s:Shared}{p:Addr}{xs:List V}(I:Inv X ζ σ H s)(h:H p=some (.lst xs)):
  ∃(its:List Value) (n:Nat),aB xs its/\s.heap.get? p=some {cls:= .type "list",data:= .seq its.toArray n}/\xs.length<=sizeLine:=by
 obtain ⟨z,its,n,r,e⟩:=I.bc p _ h;exact ⟨its,n,r,e,z⟩
theorem Inv.Qr{σ:St}{H:Hp}{p:Addr}{xs ys:List V}{its':List Value}{n':Nat}{f:Obj->Obj}(I:Inv X ζ σ H s)(h:H p=some (.lst xs))
  (ho:s.heap.get? p=some {cls:= .type "list",data:= .seq its.toArray n}) (hf:f {cls:= .type "list",data:= .seq its.toArray n}={cls:= .type "list",data:= .seq its'.toArray n'}) (r:aB ys its') (hz:ys.length<=sizeLine) (t:Nat):
  Inv X ζ σ (upd H p (.lst ys)) {s with heap:=s.heap.update p f,toks:=t}:=by
 have e:(s.heap.update p f).get? p=some {cls:= .type "list",data:= .seq its'.toArray n'}:=by rw [Heap.get?_update_self f ho (by rw [hf] <;> rfl),hf]
 refine I.write (x:=p) (e:=p) (by rw [h];trivial) (.inl rfl) (λb u hb q=>(Heap.get?_update_other _ _ (Ne.symm hb)).trans q) ⟨_,e⟩ ?_;exact ⟨hz,its',n',r,e⟩
def OD:V->V->V->Hp->(Hp->Prop)->Prop:=λo i v H Q=>∃p xs k j,o= .ref p/\i= .int k/\H p=some (.lst xs)/\Hu xs.length k=some j/\Q (upd H p (.lst (xs.set j v)))
theorem K2:Ur X OD:=by
 intro ζ s σ H o i v ov iv u Q I ro ri rv h;obtain ⟨p,xs,k,j,rfl,rfl,hp,hj,q⟩:=h;cases ro;obtain ⟨t,rfl⟩:=ri;obtain ⟨its,n,r,ho,hz⟩:=I.lst hp;obtain ⟨h1,h2,h3,h4⟩:=ED hj;have hl:=r.length;have hn:=pI
 have I':Inv X ζ σ (upd H p (.lst (xs.set j v))) {s with heap:=s.heap.update p (Obj.mapSeq (·.setIfInBounds j u))}:=
  I.Qr hp ho (CI its n j u) (r.set rv j) (by rw [abg];exact hz) s.toks
 by_cases h0:0<=k
 ·have hk:k.toNat=j:=by rw [seqIndex_of h0 h4] at h1;exact aaz h1
  exact PySem.W.ki_setAt ho h0 (by omega) (by rw [aay,<-hl];exact h4) (by rw [hk];exact ⟨_,I',q⟩)
 ·have hk:(k+(its.toArray.size:Int)).toNat=j:=by rw [seqIndex_neg (by omega) h3] at h1;rw [aay,<-hl];exact aaz h1
  exact PySem.W.ki_setBack ho (by omega) (by rw [aay,<-hl];exact h3) (by omega) (by rw [hk];exact ⟨_,I',q⟩)
theorem wu(lo hi:Option Int)(n:Nat):(sliceBounds lo hi none n).1=((HT.yW n 0 lo:Nat):Int)/\(sliceBounds lo hi none n).2.1=((HT.yW n n hi:Nat):Int)/\(sliceBounds lo hi none n).2.2=1:=by
 refine ⟨?_, ?_,rfl⟩
 ·cases lo with
  | none=>simp [sliceBounds,HT.yW]
  | some i=>
   simp only [sliceBounds,HT.yW,Option.getD_none,show (1:Int) > 0 by decide,if_true];by_cases h:i < 0
   ·simp only [h,if_true] <;> omega
   ·simp only [h,if_false] <;> omega
 ·cases hi with
  | none=>simp [sliceBounds,HT.yW]
  | some i=>
   simp only [sliceBounds,HT.yW,Option.getD_none,show (1:Int) > 0 by decide,if_true];by_cases h:i < 0
   ·simp only [h,if_true] <;> omega
   ·simp only [h,if_false] <;> omega
theorem uC(its:List Value)(lo hi:Option Int):slicePick its.toArray lo hi none=((its.drop (HT.yW its.length 0 lo)).take (HT.yW its.length its.length hi - HT.yW its.length 0 lo)).toArray:=by obtain ⟨h1,h2,h3⟩:=wu lo hi its.toArray.size;unfold slicePick;rw [h1,h2,h3];simp only [sliceRange_one,pick_run,List.size_toArray] <;> rfl
def YG(K:fI):V->Option Int->Option Int->Hp->VK->Prop:=λx lo hi H Q=>∃a xs,x= .ref a/\gF K H a xs/\∀p,H p=none->Q (.ref p) (upd H p (.lst (uu xs lo hi)))
theorem w4:SlR X (YG X.K):=by intro ζ s σ H x v vl vu lo hi sl Q I rx hs pl pu h;obtain ⟨a,xs,rfl,hx,q⟩:=h;cases rx;obtain ⟨its,r,ht,hz⟩:=I.list hx;have hlen:=r.length;refine ⟨"list",_,slot_list_getitem.lookup,ht.isList.typeIs, ?_⟩;refine wpAny_getItem_list_slice ht.isList hs pl pu .none (by simp) ?_ (by rw [List.size_toArray] <;> omega);rw [uC,<-hlen];refine ⟨.ref s.heap.objs.size,_,I.laid (t':=s.toks) (o:= .lst (uu xs lo hi)) (λb ob q=>aal _ q) (aai _) ?_,rfl,q _ (I.bc.fresh (aai _))⟩;exact ⟨aax (ze xs lo hi) hz,_,0,(r.drop (HT.yW xs.length 0 lo)).take (HT.yW xs.length xs.length hi - HT.yW xs.length 0 lo),aaR _ rfl⟩
def eR:V->Bool
 | .aU=>true
 | .bl _=>true
 | .int _=>true
 | .str _=>true
 | _=>false
def sU:V->V->Bool
 | .aU, .aU=>true
 | .bl a, .bl b=>a==b
 | .bl a, .int b=>(if a then 1 else 0)==b
 | .int a, .bl b=>a==(if b then 1 else 0)
 | .int a, .int b=>a==b
 | .str a, .str b=>a==b
 | _,_=>false
theorem xh{A:Around}{y x:V}{u v:Value}(ry:aH y u)(rx:aH x v)(fy:eR y=true)(fx:eR x=true):SeqAt.EqAt A s u v (sU y x):=by
 cases y with
 | aU=>
  cases ry;cases x with
  | aU=>cases rx;exact SeqAt.EqAt.same _
  | bl b=>cases rx;exact SeqAt.EqAt.none_bool b
  | int b=>obtain ⟨t,rfl⟩:=rx;exact SeqAt.EqAt.none_int b t
  | str b=>obtain ⟨t,rfl⟩:=rx;exact SeqAt.EqAt.none_str b t
  | _=>exact aaK (show false=true from fx) aaA
 | bl a=>
  cases ry;cases x with
  | aU=>cases rx;exact SeqAt.EqAt.bool_none a
  | bl b=>cases rx;exact SeqAt.EqAt.bool_bool a b
  | int b=>obtain ⟨t,rfl⟩:=rx;exact SeqAt.EqAt.bool_int a b t
  | str b=>obtain ⟨t,rfl⟩:=rx;exact SeqAt.EqAt.bool_str a b t
  | _=>exact aaK (show false=true from fx) aaA
 | int a=>
  obtain ⟨t',rfl⟩:=ry;cases x with
  | aU=>cases rx;exact SeqAt.EqAt.int_none a t'
  | bl b=>cases rx;exact SeqAt.EqAt.int_bool a t' b
  | int b=>obtain ⟨t,rfl⟩:=rx;exact SeqAt.EqAt.int_int a t' b t
  | str b=>obtain ⟨t,rfl⟩:=rx;exact SeqAt.EqAt.int_str a t' b t
  | _=>exact aaK (show false=true from fx) aaA
 | str a=>
  obtain ⟨t',rfl⟩:=ry;cases x with
  | aU=>cases rx;exact SeqAt.EqAt.str_none a t'
  | bl b=>cases rx;exact SeqAt.EqAt.str_bool a t' b
  | int b=>obtain ⟨t,rfl⟩:=rx;exact SeqAt.EqAt.str_int a t' b t
  | str b=>obtain ⟨t,rfl⟩:=rx;exact SeqAt.EqAt.str_str a t' b t
  | _=>exact aaK (show false=true from fx) aaA
 | _=>exact aaK (show false=true from fy) aaA
def CW(x:V)(u:Value):Bool:=match u with
 | .none=>sU .aU x
 | .bool b=>sU (.bl b) x
 | .int i _=>sU (.int i) x
 | .str z _=>sU (.str z) x
 | _=>false
theorem HB{x y:V}{u:Value}(r:aH y u)(f:eR y=true):CW x u=sU y x:=by
 cases y with
 | aU=>cases r;rfl
 | bl b=>cases r;rfl
 | int i=>obtain ⟨t,rfl⟩:=r;rfl
 | str z=>obtain ⟨t,rfl⟩:=r;rfl
 | _=>exact aaK (show false=true from f) aaA
theorem nO{x:V}:∀{xs:List V} {us:List Value},aB xs us->xs.all eR=true->us.any (CW x)=xs.any λy=>sU y x
 | _,_, .nil,_=>rfl
 | y::xs,u::us, .cons r t,f=>by rw [abY,aaq] at f;rw [abZ,abZ,HB r f.1,nO t f.2]
theorem j7{A:Around}{s:Shared}{x:V}{v:Value}(rx:aH x v)(fx:eR x=true):∀{xs:List V} {us:List Value},aB xs us->xs.all eR=true->∀u∈us,SeqAt.EqAt A s u v (CW x u)
 | _,_, .nil,_=>λu hu=>by cases hu
 | y::xs,u::us, .cons r t,f=>λu' hu=>by
  rw [abY,aaq] at f;rcases aaF.mp hu with rfl | hu
  ·rw [HB r f.1];exact xh r rx f.1 fx
  ·exact j7 rx fx t f.2 u' hu
def Rh(x:V)(xs:List V):Bool:=xs.any λy=>sU y x
def VG(K:fI)(neg:Bool):R2:=λx y H Q=>∃p xs,y= .ref p/\(gF K H p xs\/nR K H p xs)/\eR x=true/\xs.all eR=true/\Q (.bl (if neg then !Rh x xs else Rh x xs)) H
theorem FA:jL X (compareOp .In) (VG X.K false):=by
 intro ζ s σ H x y v u Q I rx ry h;obtain ⟨p,xs,rfl,hq,fx,fs,q⟩:=h;cases ry;rcases hq with hq | hq
 ·obtain ⟨its,r,pl,hz⟩:=I.list hq;refine SeqAt.in_listAt (CW x) pl.isList (λw hw=>j7 rx fx r fs w (by simpa using hw)) ⟨.bl _,H,I,rfl, ?_⟩;rw [show its.toArray.any (CW x)=its.any (CW x) by simp,nO r fs];exact q
 ·obtain ⟨its,r,pl,hz⟩:=I.tuple hq;refine SeqAt.in_tupleAt (CW x) pl (λw hw=>j7 rx fx r fs w (by simpa using hw)) ⟨.bl _,H,I,rfl, ?_⟩;rw [show its.toArray.any (CW x)=its.any (CW x) by simp,nO r fs];exact q
theorem wz:jL X (compareOp .NotIn) (VG X.K true):=by
 intro ζ s σ H x y v u Q I rx ry h;obtain ⟨p,xs,rfl,hq,fx,fs,q⟩:=h;cases ry;rcases hq with hq | hq
 ·obtain ⟨its,r,pl,hz⟩:=I.list hq;refine SeqAt.notIn_listAt (CW x) pl.isList (λw hw=>j7 rx fx r fs w (by simpa using hw)) ⟨.bl _,H,I,rfl, ?_⟩;rw [show its.toArray.any (CW x)=its.any (CW x) by simp,nO r fs];exact q
 ·obtain ⟨its,r,pl,hz⟩:=I.tuple hq;refine SeqAt.notIn_tupleAt (CW x) pl (λw hw=>j7 rx fx r fs w (by simpa using hw)) ⟨.bl _,H,I,rfl, ?_⟩;rw [show its.toArray.any (CW x)=its.any (CW x) by simp,nO r fs];exact q
theorem xZ:dY X (.builtin "len") (λxs H Q=>∃p ys,xs=[.ref p]/\(gF X.K H p ys\/nR X.K H p ys)/\Q (.int ys.length) H):=by
 intro ζ s σ H xs us Q I r h;obtain ⟨p,ys,rfl,hq,q⟩:=h;obtain ⟨u,rfl,rx⟩:=kO r;cases rx;have hn:=pI;rcases hq with hq | hq
 ·obtain ⟨its,r',pl,hz⟩:=I.list hq;have hlen:=r'.length;exact Calls.call_len_list pl.isList (by simp only [List.size_toArray] <;> omega) ⟨.int ys.length,H,I.tok _,⟨s.toks+1,by rw [List.size_toArray,hlen]⟩,q⟩
 ·obtain ⟨its,r',pl,hz⟩:=I.tuple hq;have hlen:=r'.length;exact len_tuple pl (by simp only [List.size_toArray] <;> omega) ⟨.int ys.length,H,I.tok _,⟨s.toks+1,by rw [List.size_toArray,hlen]⟩,q⟩
theorem v_:dY X (.builtin "len") (λxs H Q=>∃z,xs=[.str z]/\z.length<=sizeLine/\Q (.int z.length) H):=by intro ζ s σ H xs us Q I r h;obtain ⟨z,rfl,hz,q⟩:=h;obtain ⟨u,rfl,t,rfl⟩:=kO r;have hn:=pI;exact len_str (by omega) ⟨.int z.length,H,I.tok _,⟨_,rfl⟩,q⟩
theorem dY.or{f:Value}{r r':List V->Hp->VK->Prop}(h:dY X f r)(h':dY X f r'):dY X f (λxs H Q=>r xs H Q\/r' xs H Q):=by
 intro ζ s σ H xs us Q I rs q;rcases q with q | q
 ·exact h ζ s σ H xs us Q I rs q
 ·exact h' ζ s σ H xs us Q I rs q
theorem v7:dY X (.type "list") (λxs H Q=>∃p ys,xs=[.ref p]/\(gF X.K H p ys\/nR X.K H p ys)/\∀l,H l=none->Q (.ref l) (upd H l (.lst ys))):=by
 intro ζ s σ H xs us Q I r h;obtain ⟨p,ys,rfl,hq,q⟩:=h;obtain ⟨u,rfl,rx⟩:=kO r;cases rx
 have fin:∀(its:List Value),aB ys its->ys.length<=sizeLine->∀(h':Heap) (c':Nat),(∀b o',s.heap.get? b=some o'->h'.get? b=some o')->
   h'.get? s.heap.objs.size=some {cls:= .type "list",dict:=none,data:= .seq its.toArray c',slots:= #[]}->EP X ζ σ Q (.ref s.heap.objs.size) {s with heap:=h'}:=λits r' hz h' c' kp e=>
  ⟨.ref s.heap.objs.size,_,I.laid (t':=s.toks) kp (aai _) (show b_ X.prog X.w _ h' _ (.lst ys) from ⟨hz,its,c',r',e⟩),rfl,q _ (I.bc.fresh (aai _))⟩
 rcases hq with hq | hq
 ·obtain ⟨its,r',pl,hz⟩:=I.list hq;have hlen:=r'.length;obtain ⟨o,ho,hc,n,hd⟩:=pl.isList;exact call_list_seq p (.inl rfl) ho hc hd (λh' c' kp e=>fin its r' hz h' c' kp e) (by simp only [List.size_toArray] <;> omega)
 ·obtain ⟨its,r',pl,hz⟩:=I.tuple hq;have hlen:=r'.length;obtain ⟨o,ho,hc,n,hd⟩:=pl;exact call_list_seq p (.inr rfl) ho hc hd (λh' c' kp e=>fin its r' hz h' c' kp e) (by simp only [List.size_toArray] <;> omega)
def tyV(K:fI)(T:String)(x:V)(H:Hp):Prop:=match x with
 | .str _=>T="str"
 | .int _=>T="int"
 | .ref p=>(T="list"/\∃xs,gF K H p xs)\/(T="tuple"/\∃o,K.lookup p=some o/\o.cls= .type "tuple"/\o.dict=none)\/
   (T="dict"/\((∃Ρ,H p=some (.dK Ρ))\/∃Ρ,H p=some (.dT Ρ)))\/(T="set"/\∃S n,H p=some (.set S n))
 | _=>False
theorem Q8{σ:St}{H:Hp}{T:String}{x:V}{v:Value}(I:Inv X ζ σ H s)(r:aH x v)(ty:tyV X.K T x H):
  s.TypeIs v T/\∀a,v= .ref a->∃ob,s.heap.get? a=some ob/\ob.dict=none:=by
 cases x with
 | str z=>
  obtain ⟨t,rfl⟩:=r;cases (show T="str" from ty);exact ⟨typeIs_str s z t,λ_ e=>nomatch e⟩
 | int i=>
  obtain ⟨t,rfl⟩:=r;cases (show T="int" from ty);exact ⟨typeIs_int s i t,λ_ e=>nomatch e⟩
 | ref p=>
  cases r;rcases ty with ⟨rfl,xs,hq⟩ | ⟨rfl,o,hk,hc,hd⟩ | ⟨rfl,hk⟩ | ⟨rfl,S,n,hk⟩
  ·obtain ⟨its,_,pl,_⟩:=I.list hq;refine ⟨pl.isList.typeIs,λa e=> ?_⟩;cases e;obtain ⟨o,n,e,c,hd,_⟩:=pl;exact ⟨o,e,hd⟩
  ·refine ⟨⟨o,I.pS p o hk,hc⟩,λa e=> ?_⟩;cases e;exact ⟨o,I.pS _ o hk,hd⟩
  ·have z:∃o,s.heap.get? p=some o/\o.ExactDict:=by
    rcases hk with ⟨Ρ,hk⟩ | ⟨Ρ,hk⟩
    ·obtain ⟨_,_,_,_,o,_,_,e,ex,_⟩:=I.bc p _ hk;exact ⟨o,e,ex⟩
    ·obtain ⟨_,_,_,_,o,_,_,e,ex,_⟩:=I.bc p _ hk;exact ⟨o,e,ex⟩
   obtain ⟨o,e,ex⟩:=z;refine ⟨⟨o,e,ex.1⟩,λa e2=> ?_⟩;cases e2;exact ⟨o,e,ex.2.1⟩
  ·obtain ⟨o,_,_,_,e,ex,_⟩:=I.bc p _ hk;refine ⟨⟨o,e,ex.1⟩,λa e2=> ?_⟩;cases e2;exact ⟨o,e,ex.2.1⟩
 | _=>exact False.elim ty
def tBM(K:fI)(T:String)(r:V->List V->Hp->VK->Prop)(to:TE)(t:TA):TE:=λσ H Q=>to σ H λx H1=>tyV K T x H1/\t σ H1 λxs H2=>r x xs H2 Q
variable{o e:Expr}{es:List Expr}{to:TE}{t:TA}{name:Str}{apos c8:Pos}{T id:String}{r:V->List V->Hp->VK->Prop}
theorem UJ(pa:PlainAttrs T)(slot:Slot T name id)(hty:typeOf (.builtin id)=pure (.type "method_descriptor"))(hm:Z1 X id r)(ho:PE X o to)(ha:PA X (e::es) t)
  (JO:attributeBase o name X.env (eval o X.env)=eval o X.env:=by rfl)
  (P8:((backTo c8 (starEach (e::es) X.env)).all (λx=> !x.1)&&(backToKw c8 (keywordEach [] X.env)).all (λx=>x.1.isSome)
   &&decide ((e::es).length+([]:List Keyword).length+(if ([]:List Keyword).isEmpty then 0 else 1) < 30))=true:=by rfl)
  (HA:(apos.endLine==c8.line)=true:=by rfl) (hs:starEach (e::es) X.env=(false,eval e X.env)::starEach es X.env:=by rfl) (Ct:(backTo c8 (starEach es X.env)).any (·.1)=false:=by rfl):
  PE X (.Call (.Attribute o name apos) (e::es) [] c8) (tBM X.K T r to t):=by
 intro ζ s σ H Q I h;refine wpAny_Call_method_late JO P8 HA rfl (bF (ho ζ s σ H _ I h) λv s1 ⟨x,H1,I1,r1,ty,q1⟩=> ?_);obtain ⟨h1,h2⟩:=Q8 I1 r1 ty;refine ⟨T,id,pa,slot,hty,h1,h2, ?_⟩;have hA:=ha c8 ζ s1 σ H1 _ I1 q1;rw [hs] at hA⊢;refine Calls.callWith_builtin (by show (false || (backTo c8 (starEach es X.env)).any (·.1))=false;rw [Ct] <;> rfl) (Calls.evalArgs_plain ?_);exact bF hA λus s2 ⟨vs,H2,I2,r2,q2⟩=>hm ζ s2 σ H2 x vs v us Q I2 r1 r2 q2
end
def MtM(X:Cx)(id:String)(r:V->List V->Hp->VK->Prop):Prop:=
 ∀(ζ:List (Addr×Obj)) (s:Shared) (σ:St) (H:Hp) (x:V) (xs:List V) (v:Value) (us:List Value) (Q:VK),Inv X ζ σ H s->aH x v->aB xs us->r x xs H Q->
  wpAny (model X.prog X.w) X.A (call (.builtin id) (v::us)) (EP X ζ σ Q) X.xe s
theorem aB.one:∀{x:V} {us:List Value},aB [x] us->∃u,us=[u]/\aH x u
 | _,_, .cons r .nil=>⟨_,rfl,r⟩
theorem aB.rep{xs:List V}{us:List Value}(h:aB xs us):∀k:Nat,aB (List.replicate k xs).flatten (List.replicate k us).flatten
 | 0=> .nil
 | k+1=>by rw [abk,abk,abB,abB];exact aB.append h (aB.rep h k)
theorem vV(its:List Value):∀(k:Nat) (Ι:List Value),
  List.foldl (λx1 x2=>x1++x2) Ι.toArray (List.replicate k its.toArray)=(Ι++(List.replicate k its).flatten).toArray
 | 0,Ι=>by simp
 | k+1,Ι=>by
  have e:Ι.toArray++its.toArray=(Ι++its).toArray:=by simp
  have e2:(Ι++its)++(List.replicate k its).flatten=Ι++(List.replicate (k+1) its).flatten:=by rw [abk,abB,aaP]
  rw [<-e2,<-vV its k (Ι++its),<-e,abk,abv]
section
variable{σ:St}{H:Hp}{l b:Addr}{xs ys zs:List V}
theorem Inv.YR{its':List Value}{f:Array Value->Array Value}{t':Nat}(I:Inv X ζ σ H s)(hH:H l=some (.lst xs))
  (e:s.heap.get? l=some {cls:= .type "list",data:= .seq its.toArray n}) (hf:f its.toArray=its'.toArray) (hv:aB ys its') (hz:ys.length<=sizeLine):
  Inv X ζ σ (upd H l (.lst ys)) {s with heap:=s.heap.update l (Obj.mapSeq f),toks:=t'}:=by
 have q:=PySem.IsL.update e f;rw [hf] at q;refine I.write (x:=l) (e:=l) (by rw [hH];exact trivial) (.inl rfl) (λb' u hb hu=>(Heap.get?_update_other s.heap (Obj.mapSeq f) (Ne.symm hb)).trans hu) ⟨_,q⟩ ?_;exact ⟨hz,its',_,hv,q⟩
theorem Inv.PZ{t':Nat}(I:Inv X ζ σ H s)(hv:aB ys its)(hz:ys.length<=sizeLine):
  Inv X ζ σ (upd H s.heap.objs.size (.lst ys)) {s with heap:=s.heap.push {cls:= .type "list",data:= .seq its.toArray},toks:=t'}:=
 I.laid (λ_ _ q=>aal _ q) (aai _) ⟨hz,its,0,hv,aaR _ rfl⟩
theorem Inv.fresh(I:Inv X ζ σ H s):H s.heap.objs.size=none:=I.bc.fresh (aai _)
theorem Inv.Nk(I:Inv X ζ σ H s)(hH:H l=some (.lst xs)):xs.length<=sizeLine/\∃(its:List Value) (n:Nat),aB xs its/\xs.length=its.length/\s.heap.get? l=some {cls:= .type "list",data:= .seq its.toArray n}:=by obtain ⟨z,its,n,r,e⟩:=I.bc l _ hH;exact ⟨z,its,n,r,r.length,e⟩
theorem Ib(h:n<=sizeLine):Builtin.List.listTooLong n=false:=by unfold Builtin.List.listTooLong;exact aaI (by omega)
end
section
def Dm:V->List V->Hp->VK->Prop:=λx vs H Q=>∃l xs y,x= .ref l/\vs=[y]/\H l=some (.lst xs)/\xs.length < sizeLine/\Q .aU (upd H l (.lst (xs++[y])))
theorem vm:MtM X "list.append" Dm:=by intro ζ s σ H x vs v us Q I rx rv h;obtain ⟨l,xs,y,rfl,rfl,hH,hz,q⟩:=h;cases rx;obtain ⟨u,rfl,ru⟩:=rv.one;obtain ⟨z,its,n,r,hl,e⟩:=I.Nk hH;refine call_meets F.slot_list_append ⟨_,e,rfl⟩ F.entry_list_append (F.args_list_append_2 _ _) (PySem.list_append l its.toArray n u (by rw [aay];omega)) ⟨e, ?_⟩;refine ⟨.aU,_,I.YR (its':=its++[u]) hH e (by simp) (r.append (.cons ru .nil)) ?_,rfl,q⟩;rw [aag,List.length_singleton];omega
def Qx:R2:=λx y H Q=>∃l b xs zs,x= .ref l/\y= .ref b/\H l=some (.lst xs)/\H b=some (.lst zs)/\xs.length+zs.length<=sizeLine/\∀p,H p=none->Q (.ref p) (upd H p (.lst (xs++zs)))
theorem Jg:jL X (binaryOp .Add) Qx:=by
 intro ζ s σ H x y v u Q I rx ry h;obtain ⟨l,b,xs,zs,rfl,rfl,hH,hB,hz,q⟩:=h;cases rx;cases ry;obtain ⟨z,its,n,r,hl,e⟩:=I.Nk hH;obtain ⟨z2,KI,n2,r2,Gk,e2⟩:=I.Nk hB;refine PySem.P.add_list e e2 ?_ (by rw [aay,aay];omega);have ea:its.toArray++KI.toArray=(its++KI).toArray:=by simp
 rw [ea];exact ⟨.ref _,_,I.PZ (t':=s.toks) (r.append r2) (by rw [aag];omega),rfl,q _ I.fresh⟩
def QB:R2:=λx y H Q=>∃l k xs,x= .ref l/\y= .int k/\H l=some (.lst xs)/\ -(2 ^ 63)<=k/\k < 2 ^ 63/\xs.length * k.toNat<=sizeLine/\
 ∀p,H p=none->Q (.ref p) (upd H p (.lst (List.replicate k.toNat xs).flatten))
theorem NH{α:Type}(xs:List α)(k:Nat):(List.replicate k xs).flatten.length=k * xs.length:=by
 induction k with
 | zero=>simp
 | succ k ih=>rw [abk,abB,aag,ih,Nat.succ_mul,Nat.add_comm]
theorem Kg:jL X (binaryOp .Mult) QB:=by
 intro ζ s σ H x y v u Q I rx ry h;obtain ⟨l,k,xs,rfl,rfl,hH,h1,h2,hz,q⟩:=h;cases rx;obtain ⟨t,rfl⟩:=ry;obtain ⟨z,its,n,r,hl,e⟩:=I.Nk hH;have hlen:its.toArray.size * k.toNat<=sizeLine:=by rw [aay,<-hl];exact hz
 have Yz:¬its.toArray.size * k.toNat > (2 ^ 63 - 1) / 8:=by
  have:(sizeLine:Nat)<=(2 ^ 63 - 1) / 8:=by decide
  omega
 have LB:¬(!Builtin.List.listFitsIndex k)=true:=by rw [fitsIndex_both h1 h2];exact aaA
 have T1:¬Builtin.List.listTooLong (its.toArray.size * k.toNat)=true:=by rw [Ib hlen];exact aaA
 have Y8:List.foldl (λx1 x2=>x1++x2) #[] (List.replicate (if its.toArray.isEmpty=true then 0 else k.toNat) its.toArray)=(List.replicate k.toNat its).flatten.toArray:=by
  have f0:∀m:Nat,List.foldl (λx1 x2=>x1++x2) #[] (List.replicate m its.toArray)=(List.replicate m its).flatten.toArray:=λm=>by have:=vV its m [];rw [aaX] at this;exact this
  rw [f0];cases its with
  | nil=>simp
  | cons a r'=>rw [if_neg (by simp)]
 refine wpAny_binaryOp_repeat_ref (T:="list") (U:="int") (by decide) ⟨_,e,rfl⟩ (λs'=>typeIs_int s' k t) noFill_list_mul F.fills_int_mul F.slot_int_rmul repeat_list F.slot_int_index.lookup
  (call_meets F.slot_int_rmul (typeIs_int s k t) F.entry_int_rmul (F.args_int_rmul_2 _ _) (int___rmul___int_list k t l its.toArray n)
   ⟨e,rfl,⟨_,e,rfl⟩,call_meets F.slot_list_mul ⟨_,e,rfl⟩ F.entry_list_mul (F.args_list_mul_2 _ _) (AutoListH.list___mul___list_int_3 l its.toArray n k t LB Yz T1) ⟨e, ?_⟩⟩)
 rw [Y8];exact ⟨.ref _,_,I.PZ (t':=s.toks) (r.rep k.toNat) (by rw [NH,Nat.mul_comm];exact hz),rfl,q _ I.fresh⟩
end
end L2
namespace Att
open PySem PySem.W PySem.Calls PyProof.Rows
theorem qg{P:Params}{h:Heap}:∀(ns:List Int) (vs:List Value),WellAll P h vs (ns.map WData.int)->IntsAre vs ns:=by
 intro ns
 induction ns with
 | nil=>
  intro vs w;rw [List.map_nil] at w;cases w;exact .nil
 | cons n ns ih=>
  intro vs w;rw [aaJ] at w;cases w with
  | cons a b=>
   cases a;exact .cons _ _ (ih _ b)
theorem F_{l:OpenLaw}{n:Nat}(hn:l.most=some n){P:Params}{h:Heap}{args:List WData}{vals:List Value}
  (M7:l.row.toRowW.claim.pre args=true) (XS:WellAll P h vals args):
  ∃a vs ns,vals=[Value.ref a]/\args=[WData.list (ns.map WData.int)]/\h.get? a=some {cls:= .type "list",data:= .seq vs.toArray}/\IntsAre vs ns/\ns.length<=n:=by
 have hsh:WShape.hasAll [] args [.list .int]=true:=(pre_splitW M7).1;have hc:l.pre.holds [] {args:=args}=true:=(pre_splitW M7).2;obtain ⟨d,r,rfl,h1,h2⟩:=hasAllW_cons hsh;obtain rfl:=hasAllW_nil h2;obtain ⟨xs,rfl,h3⟩:=hasW_list h1;obtain ⟨ns,rfl⟩:=items_int h3;have hlen:ns.length<=n:=by
  unfold OpenLaw.pre at hc;have h4:(WTm.not (.lt (.lit (.int (n:Int))) (.len (.arg 0)))).holds [] {args:=[.list (ns.map .int)]}=true:=by have h4:=(holds_andW hc).1;rw [hn] at h4;exact h4
  have h5:=condW_of h4 (w_not (w_lt w_lit (w_len_list (w_arg rfl))));rw [aad] at h5;refine Nat.le_of_not_lt λq=> ?_;have q':(n:Int) < ((ns.length:Nat):Int):=by omega
  first
   | (rw [aaB q'] at h5;exact aaK h5 (by decide))
   | (simp at h5;omega)
 cases XS with
 | cons w1 w2=>
  cases w2;cases w1 with
  | list ho OO=>exact ⟨_,_,ns,rfl,rfl,ho,qg ns _ OO,hlen⟩
theorem EU(l:OpenLaw)(args:List WData):l.row.toRowW.claim.post args (.bool true) args=true:=
 postW_of (r:=l.row.toRowW) (X:=(true==true))
  (show WShape.has [] (.bool true) .bool=true by first | rfl | decide | simp [WShape.has,WShape.arms,WShape.armsAll])
  (show (WTm.eq .res (.lit (.bool true))).value [] {args:=args,res:=some (.bool true),after:=args}=some (.bool (true==true)) from w_eq_bool (w_res rfl) w_lit) rfl
theorem y3{l:OpenLaw}{n:Nat}{q:Program}{loose:List Str}{XP:(Str->Option Value)->Heap->Prop}{YP:World->Heap->Prop}{d:DefRec}
  (hn:l.most=some n) (Su:d.params.defaults=[])
  (call:∀(w:World) (s₀ s₁:Shared) (mg mb:Str->Option Value) (fa:Addr) (o:Obj) (pm cd doc:Value) (a:Addr) (vs:List Value) (ns:List Int),
   Ground q loose [] XP w s₀ mg mb s₁.heap->YP w s₁.heap->
   s₁.heap.get? fa=some o->o.data= .func (docDef d.name d.params d.body d.scope pm cd doc)->s₁.heap.CodeRec cd d.name->mg d.name=some (.ref fa)->
   s₁.heap.get? a=some {cls:= .type "list",data:= .seq vs.toArray}->IntsAre vs ns->ns.length<=n->s₁.gens= #[]->
   codeAny (model l.prog w) callerA (.call (.ref fa) ⟨[.ref a],[]⟩) (λr s'=>r= .ok (.ret (.bool true))/\OldK s₁.heap s'.heap/\s'.os=s₁.os/\AllBare s'.gens) s₁):
  WalkO q loose XP YP l.row.toRowW d [] (λf vs=>PySem.call f vs):=by
 intro w s₀ s₁ mg mb G Y fa o pm cd doc dV kV ho hd EJ hD Ml hg args vals as M7 aco hrd XS hlo;obtain rfl:dV= .none:=Dflts.none hD Su;obtain rfl:kV= .none:=Dflts.noKw hD;obtain ⟨a,vs,ns,rfl,rfl,OK,hints,hlen⟩:=F_ hn M7 XS;refine enter_call (codeAny_mono (call w s₀ s₁ mg mb fa o pm cd doc a vs ns G Y ho (fd_plain hd) EJ Ml OK hints hlen hg) λr s' hq=> ?_);obtain ⟨rfl,h2,h3,h4⟩:=hq;exact ⟨.inl ⟨.bool true, .bool true,[],rfl,λ_=>rfl, .bool true,EU l _,λ_=>⟨List.Pairwise.nil,λ_ hm=>(nomatch hm)⟩⟩,h2,h3,h4⟩
end Att
namespace L2
open PySem PySem.Spec PyProof.Rows
theorem va:∀{vs:List Value} {ns:List Int},IntsAre vs ns->aB (ns.map V.int) vs
 | _,_, .nil=> .nil
 | _,_, .cons n t h=> .cons ⟨t,rfl⟩ (va h)
def P1(H:Hp):Prop:=∀b,H b=none\/∃o xs,H b=some (.yv o (.lst xs))
theorem Ko{P:Program}{w:World}{K:fI}{mg mb:Str->Option Value}{CX:A7}{k:Nat}{fa a:Addr}{fd:FuncData}{x:Str}{sp:Sp}{s₁:Shared}{vs:List Value}{ns:List Int}
  (KX:K.In s₁.heap) (hns:s₁.heap.Ns mainGlobals mg) (hb:s₁.heap.Ns builtinsNs mb) (hbb:∀x:Str,x≠"__name__"->mb x=bootBuiltins x) (Xv:s₁.heap.NoLimit) (hg:s₁.gens= #[])
  (ha:s₁.heap.get? a=some {cls:= .type "list",data:= .seq vs.toArray}) (hi:IntsAre vs ns) (hl:ns.length<=sizeLine) (hr:bR k callerA)
  (F:∀base:Heap,K.In base->base.Ns mainGlobals mg->aj P w K mg base CX k fa fd [x] sp) (SE:∀(s:Shared) (u:Value),BindsTo s fd ⟨[u],[]⟩ [(x,u)])
  (OC:∀H:Hp,P1 H->gF K H a (ns.map V.int)->sp [.ref a] H (λv _=>v= .bl true) λ_ _ _=>False)
  (XM:∀H e s',CX [] H s₁ (λ_ _ _=>False) e s'->False):
  codeAny (model P w) callerA (.call (.ref fa) ⟨[.ref a],[]⟩) (λr s'=>r= .ok (.ret (.bool true))/\OldK s₁.heap s'.heap/\s'.os=s₁.os/\AllBare s'.gens) s₁:=by
 have rv:=va hi;have Ym:=hi.length
 have core:∀H:Hp,P1 H->gF K H a (ns.map V.int)->ly P w H s₁.heap->(∀b,H b≠none->b=a)->(H a≠none->K.lookup a=none)->
   codeAny (model P w) callerA (.call (.ref fa) ⟨[.ref a],[]⟩) (λr s'=>r= .ok (.ret (.bool true))/\OldK s₁.heap s'.heap/\s'.os=s₁.os/\AllBare s'.gens) s₁:=by
  intro H hO hS bc hA hK;have D6:∀{b:Addr} {o:Obj},s₁.heap.get? b=some o->H b=none->(xH s₁.heap H).get? b=some o:=λe n=>Jo e n;have T2:∀{b:Addr} {o:Obj} {es:Array DictEntry} {ep:Nat},s₁.heap.get? b=some o->o.data= .dict es ep->H b=none:=λ{b o es ep} e d=>by
   cases q:H b with
   | none=>rfl
   | some u=>
    have e':b=a:=hA b (by rw [q];simp);subst e';rw [ha] at e;cases e;have d':Data.seq vs.toArray _=Data.dict es ep:=d;cases d'
  have VF:∀{b:Addr} {m:Str->Option Value},s₁.heap.Ns b m->(xH s₁.heap H).Ns b m:=λ{b m} ⟨o,es,ep,e,d,r⟩=>⟨o,es,ep,D6 e (T2 e d),d,r⟩
  have Z0:K.In (xH s₁.heap H):=λb o e=>D6 (KX b o e) (by
   cases q:H b with
   | none=>rfl
   | some u=>
    have e':b=a:=hA b (by rw [q];simp);subst e'
    rw [hK (by rw [q];simp)] at e;cases e)
  have hM:Mod K mg (xH s₁.heap H):=⟨Z0,VF hns,⟨mb,VF hb,hbb⟩,let ⟨mc,h1,h2⟩:=Xv;⟨mc,VF h1,h2⟩⟩;have e0:A_ P w K mg (xH s₁.heap H) callerA [] s₁ H:=⟨rfl,hM,λb o e=>ME e,Nat.le_of_eq (Ga _ _),trivial,λb hb=>absurd (show b∈([]:List Addr) from hb) (by simp),bc, .of_eq hg⟩;refine codeAny_mono ((F _ Z0 (VF hns)).run callerA [] s₁ H ⟨[.ref a],[]⟩ [.ref a] [.ref a] _ _ hr e0 (SE s₁ (.ref a)) (.cons rfl .nil) (OC H hO hS)) λr s' h=> ?_;cases r with
  | error e=>exact (XM H e s' h).elim
  | ok fl=>
   cases fl with
   | next=>exact False.elim h
   | brk=>exact False.elim h
   | cont=>exact False.elim h
   | ret u=>
    obtain ⟨v,H',os,bare,un,Yg,r',q⟩:=h;have q':v= .bl true:=q;subst q';obtain rfl:u=Value.bool true:=r';refine ⟨rfl,OldK.of_keep λb o e=> ?_,os,bare⟩;cases q:H b with
    | none=>exact un.keep b o e q (by intro z;exact absurd (show b∈([]:List Addr) from z) (by simp)) (by simp)
    | some u=>
     rcases hO b with z | ⟨ob,xs,z⟩
     ·rw [q] at z;cases z
     ·have z2:=un.og b ob _ z;obtain ⟨e1,_⟩:=bc b _ z;obtain ⟨e2,_⟩:=Yg b _ z2;rw [e] at e1;cases e1;exact e2
 cases hk:K.lookup a with
 | some o=>
  have e:=KX a o hk;rw [ha] at e;cases e;refine core (λ_=>none) (λ_=> .inl rfl) (.inr ⟨_,vs.toArray,_,hk,rfl,rfl,rfl,by rw [List.size_toArray,Ym];exact hl,by simpa using rv⟩) (λb u z=>by have z':(none:Option HO)=some u:=z;cases z') (λb z=>absurd rfl z) λz=>absurd rfl z
 | none=>
  refine core (λb=>if b=a then some (.yv {cls:= .type "list",data:= .seq vs.toArray} (.lst (ns.map V.int))) else none) (λb=> ?_) (.inl (.inr ⟨{cls:= .type "list",data:= .seq vs.toArray},aaw rfl⟩)) (λb u z=> ?_) (λb z=> ?_) λ_=>hk
  ·by_cases hb:b=a
   ·exact .inr ⟨_,_,aaw hb⟩
   ·exact .inl (aav hb)
  ·by_cases hb:b=a
   ·have z':=(aaw hb).symm.trans z;cases z';subst hb;exact ⟨ha,by rw [aad];exact hl,vs,_,rv,ha⟩
   ·have z':=(aav hb).symm.trans z;cases z'
  ·by_cases hb:b=a
   ·exact hb
   ·exact aaK (aav hb) z
theorem ya{l:PySem.W.OpenLaw}{n k:Nat}{q:Program}{loose:List Str}{XP:(Str->Option Value)->Heap->Prop}{YP:World->Heap->Prop}{d:DefRec}{K:Params->fI}{CX:World->A7}{sp:World->Sp}{x:Str}
  (hn:l.most=some n) (Rz:n<=sizeLine) (Su:d.params.defaults=[]) (hr:bR k callerA)
  (hY:∀(w:World) (h:Heap),YP w h->(K w.params).In h)
  (F:∀(w:World) (mg:Str->Option Value) (fa:Addr) (h:Heap),(K w.params).In h->h.Ns mainGlobals mg->mg d.name=some (.ref fa)->
   ∃fd:FuncData,(∀(s:Shared) (u:Value),BindsTo s fd ⟨[u],[]⟩ [(x,u)])/\
    ∀base:Heap,(K w.params).In base->base.Ns mainGlobals mg->aj l.prog w (K w.params) mg base (CX w) k fa fd [x] (sp w))
  (OC:∀(w:World) (H:Hp) (a:Addr) (ns:List Int),ns.length<=n->P1 H->gF (K w.params) H a (ns.map V.int)->sp w [.ref a] H (λv _=>v= .bl true) λ_ _ _=>False)
  (XM:∀(w:World) (H:Hp) (s:Shared) (e:Value) (s':Shared),CX w [] H s (λ_ _ _=>False) e s'->False):
  PySem.W.WalkO q loose XP YP l.row.toRowW d [] (λf vs=>PySem.call f vs):=by
 refine Att.y3 hn Su λw s₀ s₁ mg mb fa o pm cd doc a vs ns G Y ho hd EJ Ml OK hints hlen hg=> ?_;have KX:=hY w _ Y;obtain ⟨fd,hb,hF⟩:=F w mg fa _ KX G.T.g Ml;exact Ko KX G.T.g G.T.b G.T.builtins G.T.nolimit hg OK hints (aax hlen Rz) hr hF hb (λH hO hS=>OC w H a ns hlen hO hS) λH e s'=>XM w H s₁ e s'
end L2
/- THE Zp Mj (shape;LID,My.* are U5):
  My.Adr:a structure of Np addresses X5 Zl SO names (classes,GU);My.Txt K t:a structure (Prop) of Np equations qt K;
  My.CD:{K} {implicit addresses ..} (e1:nsIn K mainGlobals "law"=some (some (.ref f))) (e2:K.lookup f=some ⟨oc,od, .func (fnOf "law" "law" params body scope dV kV doc pm an aY ct),sl⟩) (e3:codeIn K aY "law"=true) .. :∃t,My.Txt K t
set_option maxRecDepth 100000 in
set_option maxHeartbeats 0 in
theorem PySem.Challenge.cw_LID_holds : PySem.Challenge.rw_LID.Holds := by
 w_on;o_law;k_head;(case hw=>w_witness2)
 k_fill
 refine L2.ya (l:=PySem.Challenge.rw_LID) (n:=63) (k:=40) (x:="script") (CX:=fun w=> ..) (sp:=fun _=>My.PM) rfl (by decide) rfl ⟨rfl,by decide,by decide⟩ (fun w h Y=>PySem.W.kIn_of Y) ?F ?S ?C
 case F=>
  intro w mg fa h KX G Ml;have T:∃t,My.Txt (L2.YL KX) t:=by
   dsimp only [L2.YL]
   refine' My.CD ?e1 ?e2 ?e3 ..
   (case e1=>PySem.W.k_is)
   (case e2=>PySem.W.k_is)
   ..
  obtain ⟨t,T⟩:=T;have e0:=Ml.symm.trans (PySem.W.mg_of KX G T.law);cases e0;exact ⟨_,λs u=> .of_eq rfl,λbase kb nb=>My.Cz T kb nb⟩
 case S=>exact λw H a ns hl hO hS=> ..
 case C=>exact ..
(Np tactic k_is has no namespace:write k_is) -/
namespace L2
open PySem PySem.Spec PyProof.Rows
variable{P:Program}{w:World}{mg:Str->Option Value}{base:Heap}{qual:Str}{st:Stmt}{f x:Addr}{fd:FuncData}{ps N xs ys:List Str}{A:Around}{s:Shared}{env:Env}{outer:List Env}{X:Cx}{ζ:List (Addr×Obj)}{scope:Scope}{ah:List Nat}
def gs(s:Stmt):Arguments:=match s with
 | .FunctionDef _ a _ _ _ _ _ _ _ _=>a
 | _=>{posonlyargs:=[],args:=[],vararg:=none,kwonlyargs:=[],kw_defaults:=[],kwarg:=none,defaults:=[]}
def d9(s:Stmt):List Stmt:=match s with
 | .FunctionDef _ _ b _ _ _ _ _ _ _=>b
 | _=>[]
def ψ(s:Stmt):Scope:=match s with
 | .FunctionDef _ _ _ _ _ _ sc _ _ _=>sc
 | _=>{kind:= .function,names:=[],isGenerator:=false,isCoroutine:=false}
abbrev VQ:A7:=λ_ _ _ _ _ _=>False
abbrev E0:XK:=λ_ _ _=>False
structure cX(K:fI)(x qual:Str)(st:Stmt)(f:Addr)(fd:FuncData):Prop where
 ex:∃(oc:Value) (od:Option Addr) (kV doc pm:Value) (an:Option Addr) (aY ct:Value) (A4:Array (Option Value)),
  fd=PySem.W.fnOf x qual (gs st) (d9 st) (ψ st) .none kV doc pm an aY ct/\K.lookup f=some ⟨oc,od, .func fd,A4⟩/\PySem.W.codeIn K aY qual=true
 kp:PySem.W.keepIn K (.ref f)=true
section
variable{K:fI}
theorem cX.binds{x:Str}(F:cX K x qual st f fd)
  (h:∀(kV doc pm:Value) (an:Option Addr) (aY ct:Value) (us:List Value),us.length=ps.length->bindArgs (PySem.W.fnOf x qual (gs st) (d9 st) (ψ st) .none kV doc pm an aY ct) ⟨us,[]⟩=pure (ps.zip us)):iw K fd ps []:=by
 obtain ⟨oc,od,kV,doc,pm,an,aY,ct,A4,rfl,lk,EJ⟩:=F.ex;exact .all (h kV doc pm an aY ct)
theorem Iz{x:Str}{oc:Value}{od an:Option Addr}{A4:Array (Option Value)}{kV doc pm aY ct:Value}(l:K.lookup f=some ⟨oc,od, .func (PySem.W.fnOf x qual (gs st) (d9 st) (ψ st) .none kV doc pm an aY ct),A4⟩)
  (c:PySem.W.codeIn K aY qual=true) (k:PySem.W.keepIn K (.ref f)=true):cX K x qual st f (PySem.W.fnOf x qual (gs st) (d9 st) (ψ st) .none kV doc pm an aY ct):=⟨⟨oc,od,kV,doc,pm,an,aY,ct,A4,rfl,l,c⟩,k⟩
end
theorem Dc{k:Nat}(hr:bR k A):A.units+1 < cLine:=aaT (Nat.add_le_add_left (by decide:1<=64) _) hr.units
theorem Gw{A B:Prop}(h:B):if false=true then A else B:=by rw [aav aaA];exact h
theorem GK{A B:Prop}(h:A):if true=true then A else B:=by rw [aaw rfl];exact h
def eC(H H':Hp):Prop:=∀b o,H b=some o->H' b=some o
theorem eC.refl(H:Hp):eC H H:=λ_ _ h=>h
theorem eC.trans{H H1 H2:Hp}(a:eC H H1)(b:eC H1 H2):eC H H2:=λc o h=>b c o (a c o h)
theorem eC.free{H H':Hp}(e:eC H H'){l:Addr}(h:H' l=Option.none):H l=Option.none:=by
 cases q:H l with
 | none=>rfl
 | some o=>
  rw [e l o q] at h;cases h
theorem eC.seq{K:fI}{H H':Hp}{a:Addr}{xs:List V}(e:eC H H')(h:gF K H a xs):gF K H' a xs:=by
 rcases h with (h | ⟨o,h⟩) | h
 ·exact .inl (.inl (e _ _ h))
 ·exact .inl (.inr ⟨o,e _ _ h⟩)
 ·exact .inr h
section
def LU(B:Heap)(l:List Env)(x:Addr)(o:Obj)(fl:Value)(h:Heap):Prop:=
 B.StaysIn h/\B.get? x=none/\h.FunFrames B l/\∃(vs:Array Value) (T:Addr) (oT:Obj) (ts:Array Value),h.get? x=some {o with data:= .fields vs}/\vs[2]? =some .none/\vs[1]? =some (.ref T)/\
  B.get? T=none/\T≠x/\h.get? T=some oT/\oT.data= .fields ts/\ts[3]? =some fl
section
variable{M:Model}{E:Value->Shared->Prop}{B:Heap}{l:List Env}{L:Addr}{o:Obj}{vs:Array Value}{Q:Unit->Shared->Prop}
theorem se{h h':Heap}{T:Addr}{oT:Obj}{ts:Array Value}(hT:h.get? T=some oT)(hd:oT.data= .fields ts)(k:∀b,b≠T->h'.get? b=h.get? b):h.UpToSlots h':=λb ob e hn=>
 ⟨ob.slots,(k b λz=>by rw [z,hT] at e;cases e;exact hn _ hd).trans e⟩
theorem vM{h h':Heap}(hl:h.FunFrames B l)(u:h.UpToSlots h'):h'.FunFrames B l:=hl.of_keeps λb ob e hn=>by obtain ⟨sl,q⟩:=u b ob e hn;exact ⟨_,q,rfl⟩
theorem Ky{head:Value}{Vr:Bool}(W6:A.frames=some (env::outer))(hf:env.frame=some L)(hB:B.StaysIn s.heap)(hn:B.get? x=none)(hl:s.heap.FunFrames B (env::outer))(hx:s.heap.get? x=some {o with data:= .fields vs})(h1:1 < vs.size)(h2:vs[2]? =some .none)
  (h:∀h',LU B (env::outer) x o (rawInt L) h'->s.heap.UpToSlots h'->Q () {s with heap:=h'}):
  wpAny M A (do let a<-frameOf env;let pl<-entryPlaceOf L Vr;let n<-EntryCells.newEntry head a .none (rawInt L) .none pl;setField (.ref x) 1 n) Q E s:=by
 refine aaG (wpAny_frameOf_fun W6 hl hf λg1 S1=>aaG (wpAny_entryPlaceOf λpl gy=> ?_));have nx:x∉(env::outer).filterMap (·.frame):=λz=>by obtain ⟨_,ob,e,d⟩:=hl.mem z;rw [hx] at e;cases e;exact d _ rfl
 have hx1:g1.get? x=some {o with data:= .fields vs}:=(S1.2.1 x nx).trans hx;unfold EntryCells.newEntry newFields;refine aaG (wpAny_newObj_type ?_ (gy.sizeOk5 _ _ _ _ _));have hx2:=aal (h:=g1) {cls:= .type "traceback",dict:=none,data:= .fields ([head, .ref L, .none,rawInt L, .none]++(if pl.isEmpty then List.replicate 6 Value.none else pl)).toArray} hx1;refine wpAny_setField hx2 rfl h1 (h _ ?_ ?_)
 ·have up1:∀b ob,b≠x->g1.get? b=some ob->((g1.push {cls:= .type "traceback",dict:=none,data:= .fields ([head, .ref L, .none,rawInt L, .none]++(if pl.isEmpty then List.replicate 6 Value.none else pl)).toArray}).update x (Obj.mapFields (·.setIfInBounds 1 (Value.ref g1.objs.size)))).get? b=some ob:=λb ob nb e=>
   (Heap.get?_update_other _ _ (Ne.symm nb)).trans (aal _ e)
  have neT:g1.objs.size≠x:=acx (aas hx1)
  refine ⟨λb ob e=>up1 b ob (λz=>by rw [z,hn] at e;cases e) ((S1.2.1 b λz=>by rw [(hl.mem z).1] at e;cases e).trans (hB b ob e)),hn,hl.of_keeps λb ob e d=> ?_,vs.setIfInBounds 1 (.ref g1.objs.size),g1.objs.size,_,_,Heap.get?_update_self _ hx2 rfl,by rw [Array.getElem?_setIfInBounds_ne (by decide)];exact h2,by simp [h1], ?_,neT,
   (Heap.get?_update_other _ _ (Ne.symm neT)).trans (aaR g1 rfl),rfl, ?_⟩
  ·obtain ⟨sl,q⟩:=S1.2.2 b ob e;exact ⟨_,up1 b _ (λz=>by rw [z,hx] at e;cases e;exact d _ rfl) q,rfl⟩
  ·cases q:B.get? g1.objs.size with
   | none=>rfl
   | some ob=>
    have:=aas (hB _ _ q);rw [<-S1.1] at this;exact aaK this (abu _)
  ·first
    | (simp;done)
    | (rcases gy with rfl | ⟨_,_,_,_,_,_,_,rfl⟩ <;> simp)
 ·intro b ob e d;obtain ⟨sl,q⟩:=S1.2.2 b ob e;refine ⟨sl, ?_⟩;rw [Heap.get?_update_other _ _ (λz:x=b=>by rw [<-z,hx] at e;cases e;exact d _ rfl)];exact aal _ q
theorem Sw(W6:A.frames=some (env::outer))(hf:env.frame=some L)(R:LU B (env::outer) x o .none s.heap)
  (h:∀h',LU B (env::outer) x o (rawInt L) h'->s.heap.UpToSlots h'->Q () {s with heap:=h'}):wpAny M A (noteFrame (.ref x) env) Q E s:=by
 obtain ⟨hB,hn,hl,vs,T,oT,ts,hx,h2,h1,nT,Vt,hT,dT,h3⟩:=R;unfold noteFrame;simp only [hf];refine aaG (wpAny_field hx rfl h1 ?_);rw [if_pos (show (Value.ref T != Value.none)=true by simp)];refine aaG (wpAny_field hT dT h3 ?_);rw [if_neg (show¬((Value.none==rawInt L)=true) by simp [rawInt])];refine aaG (wpAny_setField hT dT (ab9.mp h3).1 ?_);have JU:∀b,b≠T->(s.heap.update T (Obj.mapFields (·.setIfInBounds 3 Value.none))).get? b=s.heap.get? b:=λb nb=>Heap.get?_update_other _ _ (Ne.symm nb);have u:=se hT dT JU;exact Ky W6 hf (λb ob e=>(JU b λz=>by rw [z,nT] at e;cases e).trans (hB b ob e)) hn (vM hl u) ((JU x (Ne.symm Vt)).trans hx) (ab9.mp h1).1 h2 λh' F' u'=>h h' F' (u.trans u')
theorem LY{fl:Value}(R:LU B l x o fl s.heap)(h:∀h',LU B l x o .none h'->s.heap.UpToSlots h'->Q () {s with heap:=h'}):wpAny M A (setFlight (.ref x) none) Q E s:=by obtain ⟨hB,hn,hl,vs,T,oT,ts,hx,h2,h1,nT,Vt,hT,dT,h3⟩:=R;unfold setFlight;refine aaG (wpAny_field hx rfl h1 ?_);rw [if_pos (show (Value.ref T != Value.none)=true by simp)];have z3:=(ab9.mp h3).1;have JU:∀b,b≠T->(s.heap.update T (Obj.mapFields (·.setIfInBounds 3 ((none:Option Addr).elim Value.none λf=>rawInt f)))).get? b=s.heap.get? b:=λb nb=>Heap.get?_update_other _ _ (Ne.symm nb);have u:=se hT dT JU;refine wpAny_setField hT dT z3 (h _ ⟨λb ob e=>(JU b λz=>by rw [z,nT] at e;cases e).trans (hB b ob e),hn,vM hl u,vs,T,_,_,(JU x (Ne.symm Vt)).trans hx,h2,h1,nT,Vt,Heap.get?_update_self _ hT (Obj.isFreed_of_fields (Obj.data_mapFields dT _)),Obj.data_mapFields dT _,by simp [z3]⟩ u)
theorem Qz{fl:Value}{h:Heap}(R:LU B (env::outer) x o fl h):LU B outer x o fl h:=by obtain ⟨hB,hn,⟨_,_,hl⟩,r⟩:=R;exact ⟨hB,hn,hl,r⟩
end
structure Vd(P:Program)(w:World)(l:List Env)(H H':Hp)(h h' B:Heap)(x:Addr)(o:Obj):Prop where
 un:Un (qe l) [] H H' h h'
 ok:ly P w H' B
 Ti:LU B l x o .none h'
 A3:∀b u,h.get? b=some u->H b=none->b∉qe l->B.get? b=some u
 S5:∀b u,h.get? b=some u->b∉qe l->∃u',B.get? b=some u'
variable{l:List Env}{H H':Hp}{h h' Vs B:Heap}{o:Obj}
end
def b9(P:Program)(w:World):A7:=λouter H s E e s'=>
 ∃x o H' B,e= .ref x/\s'.os=s.os/\AllBare s'.gens/\Vd P w outer H H' s.heap s'.heap B x o/\E o.cls o.dict H'
section
variable{σ:St}{H H':Hp}{Vs B:Heap}{ox:Obj}
theorem Vd.leave(I:Inv X ζ σ H s)(hex:X.ex=[])(MY:∀b∈qe X.outer,b∈qe X.stack)(ok:ly X.prog X.w H' B)(f:LU B X.outer x ox .none Vs)(nx0:X.s₀.heap.get? x=none)
  (A3:∀b o,b≠x->s.heap.get? b=some o->H b=none->b∉qe X.stack->B.get? b=some o)
  (S5:∀b o,b≠x->s.heap.get? b=some o->b∉qe X.stack->∃o',B.get? b=some o')
  (sl:∀b o,s.heap.get? b=some o->b∈qe X.stack->∃sl,Vs.get? b=some {o with slots:=sl})
  (free:∀b o,s.heap.get? b=some o->H b=none->H' b=none)
  (qb:∀b xs,H b=some (.tup xs)->H' b=some (.tup xs)) (og:∀b o u,H b=some (.yv o u)->H' b=some (.yv o u))
  (qf:∀b ps,H b=some (.Mg ps)->∃more,H' b=some (.Mg (ps++more))):Vd X.prog X.w X.outer X.H₀ H' X.s₀.heap Vs B x ox:=by
 have nX:∀b o,X.s₀.heap.get? b=some o->b≠x:=λb o e z=>by rw [z,nx0] at e;cases e
 have lD:∀b:Addr,b∉X.ex:=λb z=>by rw [hex] at z;cases z
 have nS:∀b o,X.s₀.heap.get? b=some o->b∉qe X.outer->b∉qe X.stack:=λb o e hb z=>
  (aaF.mp (I.yh b z)).elim (λq=>aaU (aat (aas e) I.ok.above) q) hb
 refine ⟨⟨λb o e n hb _=> ?_,λb o e n hb _=> ?_,λb o e n _=> ?_,λb o e _=> ?_,λb xs e=>qb b xs (I.base.qb b xs e),λb o u e=>og b o u (I.base.og b o u e),λb ps e=> ?_⟩,ok,f,λb o e n hb=> ?_,λb o e hb=> ?_⟩
 ·exact f.1 b o (A3 b o (nX b o e) (I.base.keep b o e n hb (lD b)) (I.base.free b o e n (lD b)) (nS b o e hb))
 ·obtain ⟨s1,e1⟩:=I.base.slot b o e n hb (lD b);obtain ⟨s2,e2⟩:=sl b _ e1 (MY b hb);exact ⟨s2,e2⟩
 ·obtain ⟨o',e1⟩:=I.base.there b o e (lD b);exact free b o' e1 (I.base.free b o e n (lD b))
 ·obtain ⟨o',e1⟩:=I.base.there b o e (lD b);by_cases hb:b∈qe X.stack
  ·obtain ⟨s2,e2⟩:=sl b _ e1 hb;exact ⟨_,e2⟩
  ·obtain ⟨o2,q⟩:=S5 b o' (nX b o e) e1 hb;exact ⟨o2,f.1 _ _ q⟩
 ·obtain ⟨m1,e1⟩:=I.base.qf b ps e;obtain ⟨m2,e2⟩:=qf b _ e1;exact ⟨m1++m2,by rw [e2,Array.append_assoc]⟩
 ·exact A3 b o (nX b o e) (I.base.keep b o e n hb (lD b)) (I.base.free b o e n (lD b)) (nS b o e hb)
 ·obtain ⟨o',e1⟩:=I.base.there b o e (lD b);exact S5 b o' (nX b o e) e1 (nS b o e hb)
end
def dI(CX:A7)(X:Cx)(R:St->XK):Prop:=∀(ζ:List (Addr×Obj)) (σ:St) (H:Hp) (s:Shared) (e:Value) (s':Shared),Inv X ζ σ H s->CX X.stack H s (R σ) e s'->X.xe e s'
section
variable{K:fI}{cd:Value}{s₀:Shared}{H₀:Hp}{E:XK}
theorem Ls:∀b∈qe outer,b∈qe (env::outer):=λb hb=>by obtain ⟨en,he,hf⟩:=acn.mp hb;exact acn.mpr ⟨en,aac _ he,hf⟩
theorem ξ:dI (b9 P w) (uG (b9 P w) P w K mg base N qual scope f cd A outer s₀ H₀ E) (λ_=>E):=by
 intro ζ σ H s e s' I hx;obtain ⟨x,o,H',B,rfl,os,bare,F,hE⟩:=hx;show wpAny _ _ (do noteFrame (.ref x) _;setFlight (.ref x) none) _ _ s';refine aaG (Sw (B:=B) I.ok.frames rfl F.Ti λh4 f4 u4=>LY f4 λh5 f5 u5=> ?_);refine ⟨x,o,H',B,rfl,os.trans I.os,bare,Vd.leave I rfl Ls F.ok (Qz f5) ?_ (λb o _=>F.A3 b o) (λb o _=>F.S5 b o) (λb o q hb=> ?_) (λb o q n=>F.un.free b o q n (by simp)) F.un.qb F.un.og F.un.qf,hE⟩
 ·show s₀.heap.get? x=none;cases q:s₀.heap.get? x with
  | none=>rfl
  | some u=>
   obtain ⟨u',e1⟩:=I.base.there x u q (λz=>nomatch z);by_cases hb:x∈qe (uG (b9 P w) P w K mg base N qual scope f cd A outer s₀ H₀ E).stack
   ·obtain ⟨vs,_,_,_,hxx,_⟩:=F.Ti.2.2.2;obtain ⟨_,o',EW,hd⟩:=F.Ti.2.2.1.mem hb;rw [hxx] at EW;cases EW;exact aaK rfl (hd _)
   ·obtain ⟨u2,e2⟩:=F.S5 x u' e1 hb;rw [F.Ti.2.1] at e2;cases e2
 ·obtain ⟨sl,e1⟩:=F.un.slot b o q (I.wC b hb) hb (by simp);obtain ⟨_,o',EW,hd⟩:=F.Ti.2.2.1.mem hb;rw [e1] at EW;cases EW;obtain ⟨Vc,e2⟩:=(u4.trans u5) b _ e1 hd;exact ⟨Vc,e2⟩
end
def Q3(sp:Sp)(oa:List V)(R:St->XK)(t:TA):TE:=λσ H Q=>t σ H λvs H1=>sp (vs++oa) H1 Q (R σ)
section
variable{CX:A7}{k:Nat}{sp:Sp}{oa:List V}{ds:List Value}{R:St->XK}{x:Str}{p pos:Pos}{e:Expr}{es:List Expr}{t:TA}
theorem xj{σ:St}{H:Hp}{Q:VK}{us:List Value}{vs:List V}(F:aj X.prog X.w X.K X.mg X.base CX k f fd ps sp)(hr:bR k X.A)(hb:iw X.K fd ps ds)(hd:aB oa ds)(hx:dI CX X R)
  (I:Inv X ζ σ H s) (r:aB vs us) (h:sp (vs++oa) H Q (R σ)):wpAny (model X.prog X.w) X.A (call (.ref f) us) (EP X ζ σ Q) X.xe s:=by
 have r2:aB (vs++oa) (us++ds):=r.append hd;have hl:(us++ds).length=ps.length:=by rw [<-r2.length];exact F.len _ _ _ _ h
 refine wpAny_call (codeAny_mono (F.run X.A X.stack s H ⟨us,[]⟩ (us++ds) (vs++oa) Q (R σ) hr I.UO (hb s us I.pS hl) r2 h) λr s' hq=> ?_);cases r with
 | error e=>exact hx ζ σ H s e s' I hq
 | ok fl=>
  cases fl with
  | ret u=>exact I.after hq
  | next=>exact False.elim hq
  | brk=>exact False.elim hq
  | cont=>exact False.elim hq
theorem zo(F:aj X.prog X.w X.K X.mg X.base CX k f fd ps sp)(hr:bR k X.A)(hg:Gl X x)(hm:X.mg x=some (.ref f))(hk:PySem.W.keepIn X.K (.ref f)=true)(hb:iw X.K fd ps ds)(hd:aB oa ds)(hx:dI CX X R)
  (ha:PA X (e::es) t) (uH:(x==("__debug__":Str))=false:=by decide) (he:starEach (e::es) X.env=(false,eval e X.env)::starEach es X.env:=by rfl) (gy:(backTo pos (starEach es X.env)).any (·.1)=false:=by rfl):
  PE X (.Call (.Name x p) (e::es) [] pos) (Q3 sp oa R t):=by
 intro ζ s σ H Q I h;refine wpAny_Call_Name_kw (qu I hg hm ?_ uH);refine PySem.W.callWith_K (h₀:=X.base) I.ok.mod.Sm hk (bF (ha pos ζ s σ H _ I h) λus s1 ⟨vs,H1,I1,r,q⟩=>⟨I1.pS, ?_⟩) he gy;exact xj F hr hb hd hx I1 r q
end
def mj(env:Env):List (Str×NameKind)->List (Str×Addr)->List (Str×Addr)
 | [],Ι=>Ι
 | p::r,Ι=>mj env r (if p.2== .free then (p.1,(env.cells.lookup p.1).getD 0)::Ι else Ι)
theorem rL(h:∀p∈scope.names,p.2= .free->(env.cells.lookup p.1).isSome=true):closureFor scope env=pure (mj env scope.names []):=by
 have key:∀(l:List (Str×NameKind)) (Ι:List (Str×Addr)),(∀p∈l,p.2= .free->(env.cells.lookup p.1).isSome=true)->
   (forIn l Ι (λ(p:Str×NameKind) (r:List (Str×Addr))=>(if p.2== .free then (do let c<-cellOf env p.1;pure (ForInStep.yield ((p.1,c)::r))) else pure (ForInStep.yield r):Sem (ForInStep (List (Str×Addr))))))=(pure (mj env l Ι):Sem (List (Str×Addr))):=by
  intro l
  induction l with
  | nil=>intro Ι _;rfl
  | cons p r ih=>
   intro Ι hp;rw [List.forIn_cons];have ZU:=λa=>ih a λq hq=>hp q (aac _ hq);obtain ⟨n,k⟩:=p;by_cases hk:k= .free
   ·subst hk;have hs:=hp (n, .free) aae rfl;cases hl:env.cells.lookup n with
    | none=>rw [show env.cells.lookup (n,NameKind.free).1=none from hl] at hs;cases hs
    | some c=>
     have e1:mj env ((n, .free)::r) Ι=mj env r ((n,c)::Ι):=by show mj env r (if (NameKind.free==NameKind.free)=true then (n,(env.cells.lookup n).getD 0)::Ι else Ι)=_;rw [aaw (by decide),hl];rfl
     have e2:cellOf env n=pure c:=by unfold cellOf;rw [hl]
     rw [e1];have e3:(NameKind.free==NameKind.free)=true:=by decide
     simp only [e3,if_true,e2,pure_bind];exact ZU _
   ·have hb:(k==NameKind.free)=false:=by simpa using hk
    have e1:mj env ((n,k)::r) Ι=mj env r Ι:=by show mj env r (if (k==NameKind.free)=true then (n,(env.cells.lookup n).getD 0)::Ι else Ι)=_;rw [hb,aav (by decide)]
    rw [e1];simp only [hb,Bool.false_eq_true,if_false,pure_bind];exact ZU _
 have:=key scope.names [] h;unfold closureFor
 first
  | exact this
  | (simp only [bind_pure];exact this)
  | (rw [bind_pure];exact this)
theorem vD{env:Env}{y:Str}{c:Addr}:∀(l:List (Str×NameKind)) (Ι:List (Str×Addr)),(∀p∈l,p.2= .free->(env.cells.lookup p.1).isSome=true)->
  (Ι.lookup y=some c->env.cells.lookup y=some c)->(mj env l Ι).lookup y=some c->env.cells.lookup y=some c
 | [],Ι,_,ha,h=>ha h
 | (n,k)::r,Ι,hp,ha,h=>by
  refine vD r _ (λq hq=>hp q (aac _ hq)) (λe=> ?_) h;split at e
  ·rename_i hk;rw [abr] at e;cases q:(y==n) with
   | true=>
    rw [q] at e;have e':(env.cells.lookup n).getD 0=c:=aaz e;have hn:y=n:=by simpa using q
    subst hn;have hs:=hp (y,k) List.mem_cons_self (by simpa using hk);cases z:env.cells.lookup y with
    | none=>rw [show env.cells.lookup (y,k).1=none from z] at hs;cases hs
    | some d=>rw [z] at e';rw [<-e'];rfl
   | false=>rw [q] at e;exact ha e
  ·exact ha e
theorem qV{env:Env}{y:Str}:∀(l:List (Str×NameKind)) (Ι:List (Str×Addr)),((y,NameKind.free)∈l\/(Ι.lookup y).isSome=true)->((mj env l Ι).lookup y).isSome=true
 | [],Ι,h=>by
  rcases h with h | h
  ·cases h
  ·exact h
 | (n,k)::r,Ι,h=>by
  refine qV r _ ?_;by_cases hy:y=n
  ·subst hy;by_cases hk:k= .free
   ·subst hk;right;show (List.lookup y (if (NameKind.free==NameKind.free)=true then (y,(env.cells.lookup y).getD 0)::Ι else Ι)).isSome=true;rw [aaw (by decide),abr,beq_self_eq_true];rfl
   ·rcases h with h | h
    ·rcases aaF.mp h with z | z
     ·exact aaK (Prod.mk.inj z).2.symm hk
     ·exact .inl z
    ·right;rw [if_neg (by simpa using hk)];exact h
  ·rcases h with h | h
   ·rcases aaF.mp h with z | z
    ·exact aaK (Prod.mk.inj z).1 hy
    ·exact .inl z
   ·right;split
    ·rw [List.lookup_cons,show (y==n)=false by simpa using hy];exact h
    ·exact h
def Cx.comp(X:Cx)(Nc:List Str)(scope:Scope)(C:Addr)(s:Shared)(H:Hp)(fp:List Addr):Cx:={X with
 N:=Nc
 s₀:=s
 H₀:=H
 env:=compEnvC scope (mj X.env scope.names []) C X.env
 outer:=X.stack
 ex:=fp
 fn:=λ_=>false
 pn:=[]
 xe:=λ_ _=>False}
theorem Ζ.of{P:List Str}{sc:Scope}(h:(sc.kind,sc.isCoroutine,sc.isGenerator)=(.function,false,false))(h2:N.Nodup/\N.take P.length=P/\(∀x∈P,sc.names.lookup x=some .local\/sc.names.lookup x=some .cell)/\(∀y∈sc.names,y.2≠ .free):=by decide+kernel):Ζ N P sc:=by obtain ⟨a,b,c,d⟩:=h2;exact ⟨aaZ (·.1) h,aaZ (·.2.1) h,aaZ (·.2.2) h,a,b,c,d⟩
structure aK(X:Cx)(scope:Scope)(xs ys:List Str)(ah:List Nat):Prop where
 kind:scope.kind= .function
 Kd:∀p∈scope.names,p.2≠ .cell
 names:∀p∈scope.names,p.2= .local->scope.names.lookup p.1=some .local
 own:∀x∈xs,scope.names.lookup x=some .local
 free:∀p∈scope.names,p.2= .free->X.env.scope.names.lookup p.1=some .cell
 nd:(xs++ys).Nodup
 cap:∀q∈ys.zip ah,X.N[q.2]? =some q.1/\X.env.scope.names.lookup q.1=some .cell/\scope.names.lookup q.1=some .free
 len:ys.length=ah.length
theorem aK.of{sc:Scope}(_:Ζ N ps sc)(hN:X.N=N)(hs:X.env.scope=sc)(k:scope.kind= .function)(h:(∀p∈scope.names,p.2≠ .cell)/\(∀p∈scope.names,p.2= .local->scope.names.lookup p.1=some .local)/\(∀x∈xs,scope.names.lookup x=some .local)/\(∀p∈scope.names,p.2= .free->sc.names.lookup p.1=some .cell)/\(xs++ys).Nodup/\(∀q∈ys.zip ah,N[q.2]? =some q.1/\sc.names.lookup q.1=some .cell/\scope.names.lookup q.1=some .free)/\ys.length=ah.length:=by decide+kernel):aK X scope xs ys ah:=by subst hN hs;obtain ⟨a,b,c,d,e,f,g⟩:=h;exact ⟨k,a,b,c,d,e,f,g⟩
theorem Kt{env:Env}{y:Str}:∀{l:List (Str×NameKind)},(∀p∈l,p.2≠ .cell)->
  ((l.map λ(n,k)=>if (k==NameKind.free&&env.scope.kind== .function&&env.kindOf n==some .cell) then (n,NameKind.cell) else (n,k)).lookup y=some .cell\/
   (l.map λ(n,k)=>if (k==NameKind.free&&env.scope.kind== .function&&env.kindOf n==some .cell) then (n,NameKind.cell) else (n,k)).lookup y=some .free)->(y,NameKind.free)∈l
 | [],_,h=>by rcases h with h | h <;> cases h
 | (n,k)::r,hc,h=>by
  have ih:= @Kt env y r (λp hp=>hc p (aac _ hp));rw [aaJ] at h;by_cases q:(k==NameKind.free&&env.scope.kind== .function&&env.kindOf n==some .cell)=true
  ·have hk:k= .free:=by rw [aaq,aaq] at q;simpa using q.1.1
   subst hk;by_cases hy:y=n
   ·subst hy;exact aae
   ·refine aac _ (ih ?_);have hb:(y==n)=false:=by simpa using hy
    simp only [q,if_true,List.lookup_cons,hb] at h;exact h
  ·by_cases hy:y=n
   ·subst hy;have hb:(y==y)=true:=by simp
    simp only [q,Bool.false_eq_true,if_false,List.lookup_cons,hb] at h;rcases h with h | h
    ·exact aaK (aaz h) (hc (y,k) aae)
    ·rw [<-aaz h];exact aae
   ·refine aac _ (ih ?_);have hb:(y==n)=false:=by simpa using hy
    simp only [q,Bool.false_eq_true,if_false,List.lookup_cons,hb] at h;exact h
theorem zt{env:Env}{y:Str}(hk:env.scope.kind= .function)(hy:env.kindOf y=some .cell):∀{l:List (Str×NameKind)},l.lookup y=some .free->
  (l.map λ(n,k)=>if (k==NameKind.free&&env.scope.kind== .function&&env.kindOf n==some .cell) then (n,NameKind.cell) else (n,k)).lookup y=some .cell
 | [],h=>by cases h
 | (n,k)::r,h=>by
  have ih:= @zt env y hk hy r;rw [aaJ];rw [abr] at h;by_cases e:y=n
  ·subst e;have hb:(y==y)=true:=by simp
   rw [hb] at h;have:k= .free:=aaz h;subst this;have q:(NameKind.free==NameKind.free&&env.scope.kind== .function&&env.kindOf y==some .cell)=true:=by rw [hk,hy];rfl
   simp only [q,if_true,List.lookup_cons,hb]
  ·have hb:(y==n)=false:=by simpa using e
   rw [hb] at h;by_cases q:(k==NameKind.free&&env.scope.kind== .function&&env.kindOf n==some .cell)=true
   ·simp only [q,if_true,List.lookup_cons,hb];exact ih h
   ·simp only [q,Bool.false_eq_true,if_false,List.lookup_cons,hb];exact ih h
theorem aK.has(S:aK X scope xs ys ah)(ok:X.Ok):∀p∈scope.names,p.2= .free->(X.env.cells.lookup p.1).isSome=true:=λp hp hf=>by obtain ⟨c,e⟩:=ok.has p.1 (.inl (S.free p hp hf));rw [e];rfl
theorem Jc{α β:Type}:∀{xs:List α} {ys:List β} {j:Nat} {x:α} {y:β},xs[j]? =some x->ys[j]? =some y->(x,y)∈xs.zip ys
 | x::xs,y::ys,0,_,_,h1,h2=>by cases h1;cases h2;exact aae
 | x::xs,y::ys,j+1,_,_,h1,h2=>aac _ (Jc (xs:=xs) (ys:=ys) (j:=j) h1 h2)
 | [],_,_,_,_,h1,_=>by simp at h1
 | _::_,[],_,_,_,_,h2=>by simp at h2
def pG(ah:List Nat)(σ:St):St:=ah.map λi=>(σ[i]?).join
def vX(n:Nat)(gg:TG):Prop:=∀v (os cs:St) H (Q:St->Hp->Prop),os.length=n->gg v (os++cs) H Q->gg v (os++cs) H λσ' H'=>(∃Vm:St,Vm.length=n/\σ'=Vm++cs)/\Q σ' H'
def BX(J:It)(n:Nat)(gg:TG)(tc:TT)(te:TE)(cs:St)(Q:VK)(H1:Hp)(D:Addr):Prop:=
 ∃ W:Nat->Nat->List V->Hp->Prop,(∃m,W 0 m [] (upd H1 D (.lst [])))/\∀i m ys H2,W i m ys H2->H2 D=some (.lst ys)/\
  ((J.stop i H2/\Q (.ref D) H2)\/(J.go i H2/\∀x H3,J.RS i H2 x H3->∀os:St,os.length=n->gg x (os++cs) H3 λσ' H3'=>tc σ' H3' λb H4=>match b with
   | true=>te σ' H4 λy H5=>H5 D=some (.lst ys)/\ys.length < sizeLine/\∃m',m' < m/\W (i+1) m' (ys++[y]) (upd H5 D (.lst (ys++[y])))
   | false=>∃m',m' < m/\W (i+1) m' ys H4))
def Ig(wi:TI)(n:Nat)(gg:TG)(tc:TT)(te:TE)(ah:List Nat):TE:=λσ H Q=>wi σ H λJ H1=>∀D,H1 D=none->BX J n gg tc te (pG ah σ) Q H1 D
def Za(cs:List Expr)(env:Env):Sem Bool:=match cs with
 | []=>pure true
 | c::_=>isTrue c env (eval c env)
def Vq(X:Cx)(cs:List Expr)(t:TT):Prop:=
 (cs=[]\/∃c,cs=[c])/\∀(ζ:List (Addr×Obj)) (s:Shared) (σ:St) (H:Hp) (Q:Bool->Hp->Prop),Inv X ζ σ H s->t σ H Q->wpAny (model X.prog X.w) X.A (Za cs X.env) (TP X ζ σ Q) X.xe s
theorem uO{elt target iter:Expr}{cs:List Expr}{scope:Scope}{pos:Pos}{it Ι:Value}{env:Env}(h:cs=[]\/∃c,cs=[c]):
  compTurn (.ListComp elt [⟨target,iter,cs,0⟩] scope pos) 0 it Ι env=(standAt iter.pos >>= λ_=>pyNext it >>= λr=>match r with
   | none=>pure (.done .next)
   | some v=>letOwnedTupleGo target it v >>= λ_=>assign target env v >>= λ_=>Za cs env >>= λok=>
    (if ok=true then (eval elt env >>= λx=>call (.builtin "list.append") [Ι,x] >>= λ_=>pure ()) >>= λ_=>again (.compLoop (.ListComp elt [⟨target,iter,cs,0⟩] scope pos) 0 it Ι env)
     else again (.compLoop (.ListComp elt [⟨target,iter,cs,0⟩] scope pos) 0 it Ι env))):=by
 rcases h with rfl | ⟨c,rfl⟩ <;> (unfold compTurn Za;dsimp only [List.getElem?_cons_zero,List.getElem?_cons_succ,List.getElem?_nil];simp only [List.forIn_cons,List.forIn_nil,bind_assoc,pure_bind,if_true];rfl)
section
variable{elt iter tg:Expr}{cs:List Expr}{pos:Pos}{wi:TI}{gg:TG}{tc:TT}{te:TE}
theorem uR(S:aK X scope xs ys ah)(hc:X.calm=true)(hg:∀C s H fp,PG (Cx.comp X (xs++ys) scope C s H fp) tg gg)(hk:vX xs.length gg)(ht:∀C s H fp,Vq (Cx.comp X (xs++ys) scope C s H fp) cs tc)(he:∀C s H fp,PE (Cx.comp X (xs++ys) scope C s H fp) elt te)
   {σ:St} {H2:Hp} {s2:Shared} {it:Addr} {fp:List Addr} {tn:Nat->Heap->Prop} {J:It} {Q:V->Hp->Prop} {PQ:Value->Addr->Result->Shared->Prop} (I:Inv X ζ σ H2 s2) (T:Turn X.prog X.w X.K tg J fp it tn) (t0:tn 0 s2.heap) (f2:∀b∈fp,rq X ζ H2 b)
  (h:∀D,H2 D=none->BX J xs.length gg tc te (pG ah σ) Q H2 D)
  (hPQ:∀D C s' H',Inv X ζ σ H' s'->Q (.ref D) H'->(∃m,s'.heap.Ns C m)->H' C=none->X.s₀.heap.objs.size<=C->C≠X.env.locals->(∀z c,X.env.cells.lookup z=some c->c≠C)->(∀p∈X.pn++ζ,p.1≠C)->PQ (.ref D) C (.ok .next) s'):
  wpAny (model X.prog X.w) X.A (newList []) (λΙ s3=>wpAny (model X.prog X.w) X.A (newFunctionEnv scope X.env.globals (mj X.env scope.names []) [] X.env.qual none .none (some X.env)) (λR3 s4=>
   codeAny (model X.prog X.w) X.A (.compStart (.ListComp elt [⟨tg,iter,cs,0⟩] scope pos) 0 (.ref it) Ι {R3 with scope:=relabel scope X.env}) (PQ Ι R3.locals) s4) X.xe s3) X.xe s2:=by
 have hD:H2 s2.heap.objs.size=none:=I.fresh;obtain ⟨W,⟨m0,w0⟩,step⟩:=h _ hD;refine wpAny_newObj_type ?_;have I3:Inv X ζ σ (upd H2 s2.heap.objs.size (.lst [])) {s2 with heap:=s2.heap.push {cls:= .type "list",data:= .seq ([]:List Value).toArray}}:=Inv.PZ (t':=s2.toks) I (ys:=[]) (its:=[]) .nil (ab5 _);generalize hH3:upd H2 s2.heap.objs.size (.lst [])=H3 at I3 w0;generalize hs3:({s2 with heap:=s2.heap.push {cls:= .type "list",data:= .seq ([]:List Value).toArray}}:Shared)=s3 at I3;have Zh:∀b∈fp,H3 b=none:=λb hb=>by obtain ⟨o,e,_⟩:=T.obj _ _ t0 b hb;rw [<-hH3,Ξ (aaU (aas e))];exact (f2 b hb).1
 have t3:tn 0 s3.heap:=T.keep _ _ _ t0 λb hb o e=>by rw [<-hs3];exact aal _ e
 refine wpAny_newFunctionEnv S.Kd (λy hy=>nomatch hy) (λh4 ns4 sb4=> ?_) S.kind;have hC:H3 s3.heap.objs.size=none:=I3.fresh
 have kp:∀b o,s3.heap.get? b=some o->h4.get? b=some o:=λb o e=>
  (sb4.2 b (aaU (aas e))).trans (aal _ e)
 generalize Zu:({s3 with heap:=h4,toks:=s3.toks+([]:List (Str×Value)).length}:Shared)=s4;have e4:s4.heap=h4:=by rw [<-Zu]
 have Lm:∀z c,X.env.cells.lookup z=some c->c≠s3.heap.objs.size:=λz c e q=>by obtain ⟨v,w⟩:=I3.cell z c e;exact abu _ (q▸w.lt)
 have uW:∀z c,(mj X.env scope.names []).lookup z=some c->X.env.cells.lookup z=some c:=λz c e=>vD scope.names [] (S.has I.ok) (λq=>nomatch q) e;have Lne:s3.heap.objs.size≠X.env.locals:=acx I3.lt;have ok:(Cx.comp X (xs++ys) scope s3.heap.objs.size s3 H3 fp).Ok:=by
  refine ⟨I3.ok.mod,S.kind,I3.ok.glob,I3.ok.blt,aai _,λz z' c e1 e2=>I3.ok.inj z z' c (uW z c e1) (uW z' c e2),λz hz=> ?_,λz c hz=>(by cases hz),I3.ok.hd,I3.ok.frames, .inl rfl,λb hb=>⟨?_,λz c e=> ?_⟩,I3.bs, ?_,λb o e hb=> ?_,λb hb hf=> ?_,I3.stack,I3.wC⟩
  ·have:=qV (env:=X.env) scope.names [] (.inl (Kt S.Kd hz));exact abG.mp this
  ·obtain ⟨o,e,_⟩:=T.obj _ _ t3 b hb;exact aaU (aas e)
  ·exact (f2 b hb).2.2.2.2.1 z c (uW z c e)
  ·exact aax I3.ok.lG I3.sz
  ·obtain ⟨_,_,_,hy,_⟩:=f2 b hb;have e0:=(I3.ok.bs b o e).1;rcases hy with hy | hy
   ·exact I3.ok.Pb b o e hy
   ·exact aaK (aat (aas e0) hy) (abu _)
  ·obtain ⟨_,hl,hfs,_⟩:=f2 b hb;exact (aaF.mp (I3.yh b hf)).elim hl hfs
 have hlen:((List.replicate xs.length (none:Option V))++pG ah σ).length=(xs++ys).length:=by rw [aag,aag,aa5,S.len];unfold pG;rw [aad]
 have I4:Inv X ζ σ H3 s4:=by rw [<-Zu];exact I3.kept kp
 have Ic:Inv (Cx.comp X (xs++ys) scope s3.heap.objs.size s3 H3 fp) [] ((List.replicate xs.length (none:Option V))++pG ah σ) H3 s4:=by
  refine ⟨ok,by rw [<-Zu];rfl,I4.bare,Un.kept (by rw [e4];exact kp),⟨_,by rw [e4];exact ns4,λi z v e1 e2 e3=> ?_⟩,λz c e=>I4.cell z c (uW z c e),hC,λz c e=>I4.pY z c (uW z c e),(λp hp=>nomatch hp),I4.bc,hlen⟩;have e1:(xs++ys)[i]? =some z:=e1;by_cases hi:i < xs.length
  ·rw [aau (by rw [aa5];exact hi),abX,aaw hi] at e2;cases e2
  ·obtain ⟨j,rfl⟩:∃j,i=xs.length+j:=⟨i - xs.length,by omega⟩;have e1:ys[j]? =some z:=by rw [aak (by omega),ab0] at e1;exact e1
   have e2:(pG ah σ)[j]? =some (some v):=by rw [aak (by rw [aa5];omega),aa5,ab0] at e2;exact e2
   unfold pG at e2;rw [aao] at e2;cases hi:ah[j]? with
   | none=>rw [hi] at e2;cases e2
   | some i=>
    rw [hi] at e2;have e2:(σ[i]?).join=some v:=aaz e2;have e2:σ[i]? =some (some v):=by
     cases q:σ[i]? with
     | none=>rw [q] at e2;cases e2
     | some o=>rw [q] at e2;exact aaZ some e2
    obtain ⟨c1,c2,c3⟩:=S.cap (z,i) (Jc e1 hi);have c4:=zt (env:=X.env) I.ok.kind c2 c3;have c3:(z,NameKind.free)∈scope.names:=PySem.mem_of_lookup c3;obtain ⟨m,hn,hl⟩:=I4.loc;obtain ⟨u,r,lk⟩:=hl i z v c1 e2 (.inr (.inl c2));refine ⟨u,r, .inr ⟨.inl c4, ?_⟩⟩;rcases lk with ⟨k,_⟩ | ⟨_,c,AM,z'⟩
    ·exact aaK ((show X.env.scope.names.lookup z=some .local from k).symm.trans c2) (by decide)
    ·obtain ⟨d,hd⟩:=abG.mp (qV (env:=X.env) scope.names [] (.inl c3));have:=uW z d hd;rw [AM] at this;cases this;exact ⟨c,hd,z'⟩
 have loop:codeAny (model X.prog X.w) X.A (.compLoop (.ListComp elt [⟨tg,iter,cs,0⟩] scope pos) 0 (.ref it) (.ref s2.heap.objs.size) (compEnvC scope (mj X.env scope.names []) s3.heap.objs.size X.env)) (PQ (.ref s2.heap.objs.size) s3.heap.objs.size) s4:=by
  have YF:∀{H':Hp},(∀b∈fp,H' b=none)->∀b∈fp,rq (Cx.comp X (xs++ys) scope s3.heap.objs.size s3 H3 fp) [] H' b:=λhn b hb=>
   ⟨hn b hb,(ok.ZY b hb).1,ok.Py b hb, .inl hb,(ok.ZY b hb).2,(λp hp=>nomatch hp)⟩
  refine codeAny_loop rfl (λn s'=>∃(i:Nat) (zs:List V) (os:St) (H':Hp),os.length=xs.length/\Inv (Cx.comp X (xs++ys) scope s3.heap.objs.size s3 H3 fp) [] (os++pG ah σ) H' s'/\tn i s'.heap/\(∀b∈fp,H' b=none)/\W i n zs H') (λn s5 z=> ?_) m0 ⟨0,[],List.replicate xs.length none,H3,by rw [aa5],Ic,T.keep _ _ _ t3 (λb hb o e=>by rw [e4];exact kp b o e),Zh,w0⟩;obtain ⟨i,zs,os,H5,l5,I5,t5,VA,w5⟩:=z;show wpAny _ _ ((compTurn _ 0 (.ref it) _ _).onRaise _) _ _ s5;refine wpAny_noted ?_;rw [uO (ht s3.heap.objs.size s3 H3 fp).1];refine aaG (wpAny_standAt (aaG ?_));obtain ⟨KW,stop | go⟩:=step i n zs H5 w5
  ·obtain ⟨stop,q⟩:=stop;refine bF (T.done (Cx.comp X (xs++ys) scope s3.heap.objs.size s3 H3 fp) rfl rfl rfl hc i [] s5 _ H5 _ I5 (YF VA) t5 stop) λr s6 ⟨hr,I6⟩=> ?_;subst hr;refine abe (hPQ _ _ s6 H5 ?_ q ?_ I6.free ?_ Lne Lm λp hp z=> ?_)
   ·refine I3.UP I6.os I6.base I6.bc I6.bare λb hb=> ?_;obtain ⟨_,g1,_,g3,g4,g5⟩:=f2 b hb;exact ⟨g3,g1,g4,g5⟩
   ·obtain ⟨m,hn,_⟩:=I6.loc;exact ⟨m,hn⟩
   ·exact I3.sz
   ·exact aaU (aas (I3.pin p hp).1) z
  ·obtain ⟨go,turn⟩:=go;refine bF (T.item (Cx.comp X (xs++ys) scope s3.heap.objs.size s3 H3 fp) rfl rfl rfl hc i [] s5 _ H5 _ I5 (YF VA) t5 go) λr s6 ⟨u,hr,h6⟩=> ?_;subst hr;refine aaG (bF h6 λ_ s7 ⟨y,H7,I7,r7,y7,t7,fr7⟩=> ?_);have I7':=I7.pinned (YF fr7) (T.obj _ _ t7);refine aaG (ab8 (hg _ _ _ _ _ s7 _ H7 y u _ I7' r7 (hk y os _ H7 _ l5 (turn y _ y7 os l5))) (λ_ s8 z8=> ?_) λ_ _ f=>f.elim);obtain ⟨σ8,H8,I8,⟨os8,l8,e8⟩,q8⟩:=z8;subst e8;refine aaG (ab8 ((ht _ _ _ _).2 _ s8 _ _ _ I8 q8) (λb s9 z9=> ?_) λ_ _ f=>f.elim);obtain ⟨H9,I9,q9⟩:=z9;cases b with
   | false=>
    obtain ⟨m9,hm9,w9⟩:=q9;refine abe ⟨rfl,m9,hm9,i+1,zs,os8,_,l8,I9.j3,T.keep _ _ _ t7 λb hb o e=>(I9.pin (b,o) (aaD _ (aaD _ (fm hb e)))).1,λb hb=> ?_,w9⟩;obtain ⟨o,e,_⟩:=T.obj _ _ t7 b hb;exact (I9.pin (b,o) (aaD _ (aaD _ (fm hb e)))).2.1
   | true=>
    refine aaG (aaG (ab8 (he _ _ _ _ _ s9 _ _ _ I9 q9) (λu10 s10 z10=> ?_) λ_ _ f=>f.elim));obtain ⟨v10,ZP,I10,r10,Yq,l10,m10,Xf,w10⟩:=z10;refine aaG (ab8 (vm (X:=Cx.comp X (xs++ys) scope s3.heap.objs.size s3 H3 fp) _ s10 _ ZP (.ref s2.heap.objs.size) [v10] _ [u10] (λ_ H'=>H'=upd ZP s2.heap.objs.size (.lst (zs++[v10]))) I10 rfl (.cons r10 .nil) ⟨_,zs,v10,rfl,rfl,Yq,l10,rfl⟩) (λ_ s11 z11=> ?_) λ_ _ f=>f.elim);obtain ⟨_,H11,Yh,_,e11⟩:=z11;subst e11;refine abe (abe ⟨rfl,m10,Xf,i+1,zs++[v10],os8,_,l8,Yh.j3,T.keep _ _ _ t7 λb hb o e=>(Yh.pin (b,o) (aaD _ (aaD _ (fm hb e)))).1,λb hb=> ?_,w10⟩);obtain ⟨o,e,_⟩:=T.obj _ _ t7 b hb;exact (Yh.pin (b,o) (aaD _ (aaD _ (fm hb e)))).2.1
 exact codeAny_compStart_list loop (T.self X.A 0 _ _ _ (T.keep _ _ _ t3 (λb hb o e=>by rw [e4];exact kp b o e)) loop)
theorem KN(S:aK X scope xs ys ah)(hc:X.calm=true)(hi:PI X tg iter wi)(hg:∀C s H fp,PG (Cx.comp X (xs++ys) scope C s H fp) tg gg)(hk:vX xs.length gg)(ht:∀C s H fp,Vq (Cx.comp X (xs++ys) scope C s H fp) cs tc)(he:∀C s H fp,PE (Cx.comp X (xs++ys) scope C s H fp) elt te)(hs:∀x,foldedSetIterable iter X.env x=pure x:=by intro _;rfl):
  PE X (.ListComp elt [⟨tg,iter,cs,0⟩] scope pos) (Ig wi xs.length gg tc te ah):=by
 intro ζ s σ H Q I h;rw [eval_ListComp];refine wpAny_comprehension_free (use:=none) rfl hs (rL (S.has I.ok)) S.kind S.names (bF (hi ζ s σ H _ I h) λv s1 h1=>bF h1 λVx s2 h2=> ?_);obtain ⟨it,fp,tn,J,H2,rfl,I2,T,t0,f2,q⟩:=h2;refine uR S hc hg hk ht he (Q:=Q) I2 T t0 f2 q λD C s' H' I' q' n' hC hz hL Qp hp=> ?_;obtain ⟨m,n'⟩:=n';exact ⟨m,n',λh' sb=>⟨.ref D,H',I'.turned (it:=C) (t':=s'.toks) (λb o hb e=>(sb.2 b hb).trans e) hC hL (.inr hz) Qp hp,rfl,q'⟩⟩
theorem AO{i:Nat}{y:Str}{py zm:Pos}(hN:X.N.Nodup)(UY:X.N[i]? =some y)(hy:Loc X.env.scope y)(S:aK X scope xs ys ah)(hc:X.calm=true)(hi:PI X tg iter wi)(hg:∀C s H fp,PG (Cx.comp X (xs++ys) scope C s H fp) tg gg)(hk:vX xs.length gg)(ht:∀C s H fp,Vq (Cx.comp X (xs++ys) scope C s H fp) cs tc)(he:∀C s H fp,PE (Cx.comp X (xs++ys) scope C s H fp) elt te)
  (Tv:swapsWith (.ListComp elt [⟨tg,iter,cs,0⟩] scope pos) (some (.Name y py)) zm.line X.env=pure true) (hs:∀x,foldedSetIterable iter X.env x=pure x)
  (hf:X.fn y=true\/X.env.scope.names.lookup y=some .local):
  PS X (.Assign [.Name y py] (.ListComp elt [⟨tg,iter,cs,0⟩] scope pos) zm) (λD σ H=>Ig wi xs.length gg tc te ah σ H λv H1=>D.nx (σ.set i (some v)) H1):=by
 intro ζ s σ H D I h;rw [exec_Assign_Name_used _ _ _ _ Tv];refine aaG (wpAny_standAt (aaG ?_));show wpAny _ _ (do let _<-comprehension (.ListComp elt [⟨tg,iter,cs,0⟩] scope pos) scope X.env _ (newList []) false (eval iter X.env) (some (assign (.Name y py) X.env))) _ _ s;refine aaG (ab8 (wpAny_comprehension_free (use:=some (assign (.Name y py) X.env)) (Q:=λ_ s'=>SP X ζ D .next s') rfl hs (rL (S.has I.ok)) S.kind S.names (bF (hi ζ s σ H _ I h) λv s1 h1=>bF h1 λVx s2 h2=> ?_)) (λ_ s' hq=>abe (abe hq)) λ_ _ e=>e);obtain ⟨it,fp,tn,J,H2,rfl,I2,T,t0,f2,q⟩:=h2;refine uR S hc hg hk ht he (Q:=λv H1=>D.nx (σ.set i (some v)) H1) I2 T t0 f2 q λDl C s' H' I' q' n' hC hz hL Qp hp=> ?_;obtain ⟨m,n'⟩:=n';show wpAny _ _ (assign (.Name y py) X.env (.ref Dl)) _ _ s';refine wpAny_assign_Name (uV I' hN UY hy (v:= .ref Dl) rfl (λs3 I3 Xg=> ?_) hf);obtain ⟨a,Xg,ha⟩:=Xg;have hCa:C≠a:=by
  rcases ha with rfl | ha
  ·exact hL
  ·exact (Qp _ _ ha).symm
 exact ⟨m,n'.sameBut Xg hCa,λh' sb=>⟨_,H',I3.turned (it:=C) (t':=s3.toks) (λb o hb e=>(sb.2 b hb).trans e) hC hL (.inr hz) Qp hp,q'⟩⟩
end
section
variable{K:fI}
theorem cX.okX{x:Str}{k:Nat}{sp:Sp}(F:cX K x qual st f fd)(S:Ζ N ps (ψ st))(len:∀vs H Q E,sp vs H Q E->vs.length=ps.length)
  (qU:∀(aY:Value) (A:Around) (outer:List Env) (s:Shared) (H:Hp) (vs:List V) (Q:VK) (E:XK),bR k (A.deeper (envOfC qual (ψ st) s.heap.objs.size f aY))->sp vs H Q E->
   ∃t,He (uG (b9 P w) P w K mg base N qual (ψ st) f aY A outer s H E) (d9 st) t/\t {nx:=λ_ H'=>Q .aU H',rt:=Q} (start N vs) H):aj P w K mg base (b9 P w) (k+1) f fd ps sp:=by
 obtain ⟨oc,od,kV,doc,pm,an,aY,ct,A4,rfl,lk,EJ⟩:=F.ex;exact N8 lk EJ S len λA outer s H vs Q E hr OC=>qU aY A outer s H vs Q E hr OC
end
theorem ia:dI (b9 P w) X (λ_=>E0):=by intro ζ σ H s e s' _ hx;obtain ⟨_,_,_,_,_,_,_,_,hE⟩:=hx;exact hE.elim
theorem log2_lt{n:Nat}{k:Nat}(h:n < 2 ^ k)(hk:0 < k):n.log2 < k:=by
 by_cases h0:n=0
 ·rw [h0,show Nat.log2 0=0 from rfl];exact hk
 ·exact (Nat.log2_lt h0).mpr h
def eP(i:Int):Prop:=i.natAbs < 2 ^ 8000
theorem Fs{i j:Int}(hi:eP i)(hj:eP j):IntMulOk i j:=by
 have b:∀{i:Int},eP i->Builtin.Int.intBits i<=8000:=λ{i} h=>by
  unfold Builtin.Int.intBits;split
  ·exact ab5 _
  ·have:=log2_lt (k:=8000) h (by decide);omega
 have b1:=b hi;have b2:=b hj;have h3:Builtin.Int.intTooBig (Builtin.Int.intBits i+Builtin.Int.intBits j)=false:=by
  unfold Builtin.Int.intTooBig;refine aaI ?_;have:(bitsLine:Int)=134217728:=by decide
  omega
 unfold IntMulOk;rw [h3,Bool.and_false];exact aaA
section
theorem Mp:jL X (binaryOp .Mult) (rI (λi j=>eP i/\eP j) λi j=> .int (i * j)):=Vp λ_ _ _ _ _ _ _ hc q=>mul_int q (Fs hc.1 hc.2)
theorem zB:jL X (binaryOp .FloorDiv) (rI (λ_ j=>j≠0/\eP j) λi j=> .int (i.fdiv j)):=Vp λ_ _ _ _ _ _ _ hc q=>
 floordiv_int hc.1 q (.inl (PyProof.noPylong_of_log2 (aat (log2_lt (k:=8000) hc.2 (by decide)) (by decide))))
end
def LK:V->Option Value
 | .ty T=>some (.type T)
 | .ref C=>some (.ref C)
 | _=>none
theorem M9{c:V}{u t:Value}(r:aH c u)(h:LK c=some t):u=t:=by
 cases c with
 | ty T=>cases r;exact aaz h
 | ref C=>cases r;exact aaz h
 | _=>cases h
section
theorem AN:dY X (.builtin "isinstance") (λxs H Q=>∃x c t t' b,xs=[x,c]/\lq X.K H x t/\LK c=some t'/\PySem.W.kitOne X.K t t'=some b/\Q (.bl b) H):=by intro ζ s σ H xs us Q I r h;obtain ⟨x,c,t,t',b,rfl,ty,hc,hk,q⟩:=h;obtain ⟨u,u',rfl,r1,r2⟩:=OE r;cases M9 r2 hc;exact GB I r1 ty hk λtk=>⟨.bl b,H,I.tok tk,rfl,q⟩
end
def nF:List V->List V->Bool
 | [],[]=>true
 | x::xs,y::ys=>sU x y&&nF xs ys
 | _,_=>false
theorem mG:∀(xs ys:List V) (e:Nat->Bool),(∀j x y,xs[j]? =some x->ys[j]? =some y->e j=sU x y)->((List.range (min xs.length ys.length)).all e&&xs.length==ys.length)=nF xs ys
 | [],[],e,_=>rfl
 | [],_::_,e,_=>by simp [nF]
 | _::_,[],e,_=>by simp [nF]
 | x::xs,y::ys,e,h=>by
  have ih:=mG xs ys (λj=>e (j+1)) λj x y h1 h2=>h (j+1) x y h1 h2;have h0:e 0=sU x y:=h 0 x y rfl rfl;show _=(sU x y&&nF xs ys);rw [<-ih,<-h0];have e1:min (x::xs).length (y::ys).length=min xs.length ys.length+1:=by simp only [List.length_cons];omega
  rw [e1,abM,abY,List.all_map];have e2:((x::xs).length==(y::ys).length)=(xs.length==ys.length):=by simp only [List.length_cons];rw [Bool.eq_iff_iff];simp
  rw [e2,Bool.and_assoc];rfl
def Ut(K:fI):R2:=λx y H Q=>∃a b xs ys,x= .ref a/\y= .ref b/\nR K H a xs/\nR K H b ys/\xs.all eR=true/\ys.all eR=true/\Q (.bl (nF xs ys)) H
def SH(K:fI):R2:=λx y H Q=>∃a b xs ys,x= .ref a/\y= .ref b/\nR K H a xs/\nR K H b ys/\xs.all eR=true/\ys.all eR=true/\Q (.bl (!nF xs ys)) H
theorem nY:∀{xs:List V} {j:Nat} {x:V},xs.all eR=true->xs[j]? =some x->eR x=true
 | _::_,0,_,h,e=>by rw [abY,aaq] at h;cases e;exact h.1
 | _::_,j+1,_,h,e=>by rw [abY,aaq] at h;exact nY h.2 e
section
theorem PU(hu:X.A.units < cLine):jL X (compareOp .NotEq) (SH X.K):=by
 intro ζ s σ H x y v u Q I rx ry h;obtain ⟨a,b,xs,ys,rfl,rfl,h1,h2,f1,f2,q⟩:=h;cases rx;cases ry;obtain ⟨i1,v1,t1,_⟩:=I.tuple h1;obtain ⟨i2,v2,t2,_⟩:=I.tuple h2;have l1:=v1.length;have l2:=v2.length;refine SeqAt.RcNeAt.tuples (e:=λj=>match xs[j]?,ys[j]? with | some x,some y=>sU x y | _,_=>true) (show s.heap.IsTuple a i1.toArray from t1) (show s.heap.IsTuple b i2.toArray from t2) hu (λj h1 h2=> ?_) _ _ _ _ ?_
 ·have b1:j < i1.length:=by simpa using h1
  have b2:j < i2.length:=by simpa using h2
  have e1:xs[j]? =some (xs[j]'(by omega)):=aaa _;have e2:ys[j]? =some (ys[j]'(by omega)):=aaa _;obtain ⟨u1,g1,r1⟩:=v1.get e1;obtain ⟨u2,g2,r2⟩:=v2.get e2;rw [aaa b1] at g1;rw [aaa b2] at g2;have w1:i1.toArray[j]=u1:=by simpa using Option.some.inj g1
  have w2:i2.toArray[j]=u2:=by simpa using Option.some.inj g2
  rw [w1,w2];simp only [e1,e2];exact xh r1 r2 (nY f1 e1) (nY f2 e2)
 ·rw [List.size_toArray,List.size_toArray,<-l1,<-l2,mG xs ys _ (λj x y h1 h2=>by simp only [h1,h2])];exact ⟨.bl (!nF xs ys),H,I,rfl,q⟩
theorem Hr(hu:X.A.units < cLine):jL X (compareOp .Eq) (Ut X.K):=by
 intro ζ s σ H x y v u Q I rx ry h;obtain ⟨a,b,xs,ys,rfl,rfl,h1,h2,f1,f2,q⟩:=h;cases rx;cases ry;obtain ⟨i1,v1,t1,_⟩:=I.tuple h1;obtain ⟨i2,v2,t2,_⟩:=I.tuple h2;have l1:=v1.length;have l2:=v2.length;refine SeqAt.eq_tupleAt (e:=λj=>match xs[j]?,ys[j]? with | some x,some y=>sU x y | _,_=>true) (show s.heap.IsTuple a i1.toArray from t1) (show s.heap.IsTuple b i2.toArray from t2) hu (λj h1 h2=> ?_) ?_
 ·have b1:j < i1.length:=by simpa using h1
  have b2:j < i2.length:=by simpa using h2
  have e1:xs[j]? =some (xs[j]'(by omega)):=aaa _;have e2:ys[j]? =some (ys[j]'(by omega)):=aaa _;obtain ⟨u1,g1,r1⟩:=v1.get e1;obtain ⟨u2,g2,r2⟩:=v2.get e2;rw [aaa b1] at g1;rw [aaa b2] at g2;have w1:i1.toArray[j]=u1:=by simpa using Option.some.inj g1
  have w2:i2.toArray[j]=u2:=by simpa using Option.some.inj g2
  rw [w1,w2];simp only [e1,e2];exact xh r1 r2 (nY f1 e1) (nY f2 e2)
 ·rw [List.size_toArray,List.size_toArray,<-l1,<-l2,mG xs ys _ (λj x y h1 h2=>by simp only [h1,h2])];exact ⟨.bl (nF xs ys),H,I,rfl,q⟩
end
theorem G_(bs:List Bool):(List.range bs.length).any (λi=>bs.getD i false)=bs.any id:=by
 induction bs with
 | nil=>rfl
 | cons b bs ih=>
  rw [aaC,abM,abZ,List.any_map,abZ,<-ih];rfl
theorem yi:∀{bs:List Bool} {us:List Value},aB (bs.map V.bl) us->us=bs.map Value.bool
 | [],_,r=>by cases r;rfl
 | b::bs,_,r=>by
  cases r with
  | cons h t=>
   cases h;rw [yi t];rfl
theorem zu{prog:Program}{bs:List Bool}:TruthOf prog w A (λi v=>(bs.map Value.bool).toArray[i]? =some v) (λi=>bs.getD i false):=by
 intro i v s Q E h q;have h':(bs.map Value.bool)[i]? =some v:=by simpa using h
 rw [aao] at h';cases e:bs[i]? with
 | none=>rw [e] at h';cases h'
 | some b=>
  rw [e] at h';cases h';have q':Q b s:=by
   have eb:bs.getD i false=b:=by rw [aab,e];rfl
   exact eb▸q
  exact wpAny_truthy_bool q'
def Sh(K:fI):List V->Hp->VK->Prop:=λxs H Q=>∃(p:Addr) (bs:List Bool),xs=[.ref p]/\gF K H p (bs.map V.bl)/\Q (.bl (bs.any id)) H
section
theorem J4 (hc : X.calm = true) : dY X (.builtin "any") (Sh X.K) := by
  intro ζ s σ H xs us Q I r h;obtain ⟨p, bs, rfl, hq, q⟩ := h;obtain ⟨u, rfl, r1⟩ := kO r;cases r1;obtain ⟨its, rv, pl, hz⟩ := I.list hq;have Rc := yi rv;subst Rc;refine call_any_walk (wpAny_pyIter_list pl.isList ?_);have lp : p < s.heap.objs.size := by obtain ⟨o, e, _⟩ := pl.isList; exact aas e
  refine ⟨s.heap.objs.size, _, _, _, _, _, λi => bs.getD i false, rfl, Walks.list (show X.A.in1.handled = none from I.ok.hd hc) s.heap.objs.size p (aaU lp) (bs.map Value.bool).toArray, ⟨⟨_, aaR _ rfl, rfl, rfl⟩, pl.isList.at λo e => aal _ e⟩, zu, λh' tk hk => ?_⟩;refine ⟨.bl (bs.any id), H, I.kept λb o e => hk b o (λz => by have : b = s.heap.objs.size := (by simpa using z); exact Nat.lt_irrefl _ (this ▸ Heap.lt_size e)) (Heap.get?_push_of_some _ e), ?_, q⟩;rw [aay, aad, G_];rfl
end
end L2
namespace PySem
open Sem (wp)
end PySem
namespace PySem.W
open PySem PySem.Builtin PySem.Builtin.ObjectAttr
end PySem.W
namespace PySem
open Sem (wp)
end PySem
namespace L2
open PySem PySem.Spec PyProof.Rows
def xO(a C:Addr)(od:Option Addr):HO:= .ext λh=>∃ob vs,h.get? a=some ob/\ob.cls= .ref C/\ob.dict=od/\ob.data= .fields vs
inductive Dt where
 | aU
 | bl (b:Bool)
 | int (i:Int)
 | str (x:Str)
 | tup (xs:List Dt)
 | lst (xs:List Dt)
 | obj (C:Addr) (ns:List Str) (xs:List Dt)
 | loc (k:Nat)
 | ref (a:Addr)
 | ty (n:String)
 | h_ (ns:List Int)
 | kt (xs:List Dt)
 | exc (C:Addr) (ns:List Str) (xs:List Dt)
 | Ro (x C:Addr) (od:Option Addr) (ns:List Str) (xs:List Dt)
inductive MO where
 | lst (xs:List Dt)
 | ins (C:Addr) (ns:List Str) (xs:List Dt)
 | eO (ks:List Key) (xs:List Dt)
 | raw (u:Addr->HO)
abbrev Ms:=List MO
abbrev En:=List (Option Dt)
mutual
def Den(K:fI)(G:Hp)(L:List Addr):Dt->V->Prop
 | .aU,v=>v= .aU
 | .bl b,v=>v= .bl b
 | .int i,v=>v= .int i
 | .str x,v=>v= .str x
 | .tup ds,v=>∃a vs,v= .ref a/\G a=some (.tup vs)/\Ψ K G L ds vs
 | .lst ds,v=>∃a vs,v= .ref a/\G a=some (.lst vs)/\Ψ K G L ds vs
 | .obj C ns ds,v=>∃a dx vs,v= .ref a/\G a=some (.ins C dx (ns.zip vs))/\ns.length=ds.length/\Ψ K G L ds vs
 | .loc k,v=>∃a,v= .ref a/\L[k]? =some a
 | .ref a,v=>v= .ref a
 | .ty n,v=>v= .ty n
 | .h_ ns,v=>∃a,v= .ref a/\gF K G a (ns.map V.int)
 | .kt ds,v=>∃a vs,v= .ref a/\nR K G a vs/\Ψ K G L ds vs
 | .exc C ns ds,v=>∃a od vs,v= .ref a/\G a=some (xO a C od)/\((ns=[]/\od=none)\/∃dx,od=some dx/\G dx=some (.xd (ns.zip vs)))/\ns.length=ds.length/\Ψ K G L ds vs
 | .Ro x _ od ns ds,v=>∃vs,v= .ref x/\((ns=[]/\od=none)\/∃dx,od=some dx/\G dx=some (.xd (ns.zip vs)))/\ns.length=ds.length/\Ψ K G L ds vs
def Ψ(K:fI)(G:Hp)(L:List Addr):List Dt->List V->Prop
 | [],vs=>vs=[]
 | d::ds,vs=>∃v r,vs=v::r/\Den K G L d v/\Ψ K G L ds r
end
def Pre(L L':List Addr):Prop:=∃t,L'=L++t
theorem Pre.refl(L:List Addr):Pre L L:=⟨[],by simp⟩
theorem Pre.trans{a b c:List Addr}(h:Pre a b)(h':Pre b c):Pre a c:=by obtain ⟨t,rfl⟩:=h;obtain ⟨u,rfl⟩:=h';exact ⟨t++u,by simp⟩
theorem Pre.get{a b:List Addr}(h:Pre a b){k:Nat}{x:Addr}(e:a[k]? =some x):b[k]? =some x:=by obtain ⟨t,rfl⟩:=h;have hk:k < a.length:=(aaf.mp e).1;rw [aau hk];exact e
theorem eC.rd{H H':Hp}{a:Addr}{u:HO}(e:eC H H')(h:Rd H a u):Rd H' a u:=by
 rcases h with h | ⟨o,h⟩
 ·exact .inl (e _ _ h)
 ·exact .inr ⟨o,e _ _ h⟩
theorem eC.SA{K:fI}{H H':Hp}{a:Addr}{xs:List V}(e:eC H H')(h:nR K H a xs):nR K H' a xs:=by
 rcases h with h | h
 ·exact .inl (e.rd h)
 ·exact .inr h
section
variable{K:fI}{G G':Hp}{L L':List Addr}
mutual
theorem Den.mono(g:eC G G')(l:Pre L L'):∀(d:Dt) (v:V),Den K G L d v->Den K G' L' d v
 | .aU,_,h=>h
 | .bl _,_,h=>h
 | .int _,_,h=>h
 | .str _,_,h=>h
 | .tup ds,_,⟨a,vs,e,h1,h2⟩=>⟨a,vs,e,g _ _ h1,Ψ.mono g l ds vs h2⟩
 | .lst ds,_,⟨a,vs,e,h1,h2⟩=>⟨a,vs,e,g _ _ h1,Ψ.mono g l ds vs h2⟩
 | .obj C ns ds,_,⟨a,dx,vs,e,h1,hn,h2⟩=>⟨a,dx,vs,e,g _ _ h1,hn,Ψ.mono g l ds vs h2⟩
 | .loc k,_,⟨a,e,h1⟩=>⟨a,e,l.get h1⟩
 | .ref _,_,h=>h
 | .ty _,_,h=>h
 | .h_ _,_,⟨a,e,h1⟩=>⟨a,e,g.seq h1⟩
 | .kt ds,_,⟨a,vs,e,h1,h2⟩=>⟨a,vs,e,g.SA h1,Ψ.mono g l ds vs h2⟩
 | .exc _ _ ds,_,⟨a,od,vs,e,h1,h2,h3,h4⟩=>⟨a,od,vs,e,g _ _ h1,h2.imp (λz=>z) (λ⟨dx,z1,z2⟩=>⟨dx,z1,g _ _ z2⟩),h3,Ψ.mono g l ds vs h4⟩
 | .Ro _ _ _ _ ds,_,⟨vs,e,h2,h3,h4⟩=>⟨vs,e,h2.imp (λz=>z) (λ⟨dx,z1,z2⟩=>⟨dx,z1,g _ _ z2⟩),h3,Ψ.mono g l ds vs h4⟩
theorem Ψ.mono(g:eC G G')(l:Pre L L'):∀(ds:List Dt) (vs:List V),Ψ K G L ds vs->Ψ K G' L' ds vs
 | [],_,h=>h
 | d::ds,_,⟨v,r,e,h1,h2⟩=>⟨v,r,e,Den.mono g l d v h1,Ψ.mono g l ds r h2⟩
end
theorem Ψ.pair:∀{ds:List Dt} {vs:List V},Ψ K G L ds vs->Paired (Den K G L) ds vs
 | [],_,h=>by have h:_=_:=h;subst h;exact .nil
 | d::ds,_,⟨v,r,e,h1,h2⟩=>by subst e;exact .cons h1 (Ψ.pair h2)
theorem Ψ.of:∀{ds:List Dt} {vs:List V},Paired (Den K G L) ds vs->Ψ K G L ds vs
 | _,_, .nil=>rfl
 | _,_, .cons h t=>⟨_,_,rfl,h,Ψ.of t⟩
end
section
variable{α β:Type}{F:α->β->Prop}
theorem EF:∀{xs:List α} {us:List β} {i:Nat} {x:α},Paired F xs us->xs[i]? =some x->∃u,us[i]? =some u/\F x u
 | _,_,_,_, .nil,e=>by simp at e
 | _,_,0,_, .cons r _,e=>by simp at e;subst e;exact ⟨_,rfl,r⟩
 | _,_,i+1,x, .cons _ t,e=>by obtain ⟨u,h1,h2⟩:=EF (i:=i) (x:=x) t (by simpa using e);exact ⟨u,by simpa using h1,h2⟩
theorem Du{x:α}{u:β}(r:F x u):∀{xs:List α} {us:List β} (i:Nat),Paired F xs us->Paired F (xs.set i x) (us.set i u)
 | _,_,_, .nil=> .nil
 | _,_,0, .cons _ t=> .cons r t
 | _,_,i+1, .cons q t=> .cons q (Du r i t)
theorem xV:∀{xs ys:List α} {us ws:List β},Paired F xs us->Paired F ys ws->Paired F (xs++ys) (us++ws)
 | _,_,_,_, .nil,s=>s
 | _,_,_,_, .cons r t,s=> .cons r (xV t s)
theorem sN:∀{xs:List α} {us:List β} (n:Nat),Paired F xs us->Paired F (xs.take n) (us.take n)
 | _,_,0,_=> .nil
 | _,_,_+1, .nil=> .nil
 | _,_,n+1, .cons r t=> .cons r (sN n t)
theorem qP:∀{xs:List α} {us:List β} (n:Nat),Paired F xs us->Paired F (xs.drop n) (us.drop n)
 | _,_,0,r=>r
 | _,_,_+1, .nil=> .nil
 | _,_,n+1, .cons _ t=>qP n t
theorem xK{xs:List α}{us:List β}(h:Paired F xs us):∀k:Nat,Paired F (List.replicate k xs).flatten (List.replicate k us).flatten
 | 0=> .nil
 | k+1=>by rw [abk,abk,abB,abB];exact xV h (xK h k)
end
section
variable{K:fI}{G:Hp}{L:List Addr}
theorem Ψ.length{ds:List Dt}{vs:List V}(h:Ψ K G L ds vs):ds.length=vs.length:=Paired.length h.pair
theorem Ψ.get{ds:List Dt}{vs:List V}{i:Nat}{d:Dt}(h:Ψ K G L ds vs)(e:ds[i]? =some d):∃v,vs[i]? =some v/\Den K G L d v:=EF h.pair e
theorem Ψ.app{ds es:List Dt}{vs us:List V}(h:Ψ K G L ds vs)(h':Ψ K G L es us):Ψ K G L (ds++es) (vs++us):= .of (xV h.pair h'.pair)
theorem iW:∀{ns:List Int},Ψ K G L (ns.map Dt.int) (ns.map V.int)
 | []=>rfl
 | n::ns=>⟨_,_,rfl,rfl,iW⟩
theorem bu{d:Dt}{vs:List V}(h:Ψ K G L [d] vs):∃v,vs=[v]/\Den K G L d v:=by obtain ⟨v,r,rfl,h1,h2⟩:=h;have h2:r=[]:=h2;subst h2;exact ⟨v,rfl,h1⟩
theorem gK{d e:Dt}{vs:List V}(h:Ψ K G L [d,e] vs):∃v u,vs=[v,u]/\Den K G L d v/\Den K G L e u:=by obtain ⟨v,r,rfl,h1,h2⟩:=h;obtain ⟨u,rfl,h3⟩:=bu h2;exact ⟨v,u,rfl,h1,h3⟩
end
def Hi(K:fI)(G:Hp)(L:List Addr)(H:Hp)(a:Addr):MO->Prop
 | .lst ds=>∃vs,H a=some (.lst vs)/\Ψ K G L ds vs
 | .ins C ns ds=>∃dx vs,H a=some (.ins C dx (ns.zip vs))/\ns.length=ds.length/\Ψ K G L ds vs
 | .eO ks ds=>∃vs,H a=some (.dK (ks.zip vs))/\ks.length=ds.length/\Ψ K G L ds vs
 | .raw u=>H a=some (u a)
structure Rl(K:fI)(G:Hp)(L:List Addr)(M:Ms)(H:Hp):Prop where
 sub:eC G H
 len:L.length=M.length
 nd:L.Nodup
 gJ:∀(k:Nat) (a:Addr) (m:MO),L[k]? =some a->M[k]? =some m->G a=none/\Hi K G L H a m
structure Ex(G:Hp)(L:List Addr)(H:Hp)(G':Hp)(L':List Addr)(H':Hp):Prop where
 g:eC G G'
 l:Pre L L'
 fr:∀b,G b=none->H b≠none->G' b=none
 out:∀b o,H b=some o->b∉L->H' b=some o
 new:∀b∈L',b∈L\/H b=none
 EG:∀b,H b≠none->H' b≠none
theorem Ex.refl(G:Hp)(L:List Addr)(H:Hp):Ex G L H G L H:=⟨.refl _, .refl _,λ_ h _=>h,λ_ _ h _=>h,λ_ h=> .inl h,λ_ h=>h⟩
theorem Ex.trans{G:Hp}{L:List Addr}{H G1:Hp}{L1:List Addr}{H1 G2:Hp}{L2:List Addr}{H2:Hp}(a:Ex G L H G1 L1 H1)(b:Ex G1 L1 H1 G2 L2 H2):Ex G L H G2 L2 H2 where
 g:=a.g.trans b.g
 l:=a.l.trans b.l
 fr:=λx h1 h2=>b.fr x (a.fr x h1 h2) (a.EG x h2)
 out:=λx o h1 h2=>b.out x o (a.out x o h1 h2) λz=>(a.new x z).elim h2 λq=>by rw [h1] at q;cases q
 new:=λx h=>by
  rcases b.new x h with z | z
  ·exact a.new x z
  ·right;cases q:H x with
   | none=>rfl
   | some o=>exact absurd z (a.EG x (by rw [q];simp))
 EG:=λx h=>b.EG x (a.EG x h)
theorem Hi.there{K:fI}{G:Hp}{L:List Addr}{H:Hp}{a:Addr}{m:MO}(h:Hi K G L H a m):H a≠none:=by
 cases m with
 | lst ds=>obtain ⟨vs,e,_⟩:=h;rw [e];simp
 | ins C ns ds=>obtain ⟨dx,vs,e,_⟩:=h;rw [e];simp
 | eO ks ds=>obtain ⟨vs,e,_⟩:=h;rw [e];simp
 | raw u=>have h:H a=some (u a):=h;rw [h];simp
theorem Hi.mono{K:fI}{G G':Hp}{L L':List Addr}{H H':Hp}{a:Addr}{m:MO}(g:eC G G')(l:Pre L L')(e:H' a=H a)(h:Hi K G L H a m):Hi K G' L' H' a m:=by
 cases m with
 | lst ds=>obtain ⟨vs,e1,h⟩:=h;exact ⟨vs,e.trans e1,Ψ.mono g l _ _ h⟩
 | ins C ns ds=>obtain ⟨dx,vs,e1,h0,h⟩:=h;exact ⟨dx,vs,e.trans e1,h0,Ψ.mono g l _ _ h⟩
 | eO ks ds=>obtain ⟨vs,e1,h0,h⟩:=h;exact ⟨vs,e.trans e1,h0,Ψ.mono g l _ _ h⟩
 | raw u=>exact e.trans h
section
variable{K:fI}{G:Hp}{L:List Addr}{M:Ms}{H:Hp}{p:Addr}{o:HO}
theorem Rl.wQ(r:Rl K G L M H){a:Addr}(h:a∈L):∃(k:Nat) (m:MO),L[k]? =some a/\M[k]? =some m/\G a=none/\Hi K G L H a m:=by
 obtain ⟨k,hk,e⟩:=abf h;have e1:L[k]? =some a:=by rw [aaa hk,e]
 have e2:M[k]? =some (M[k]'(by rw [<-r.len];exact hk)):=aaa _;exact ⟨k,_,e1,e2,r.gJ k a _ e1 e2⟩
theorem Rl.PJ(r:Rl K G L M H)(hp:H p=none):p∉L:=λz=>by obtain ⟨k,m,_,_,_,h⟩:=r.wQ z;exact h.there hp
theorem Rl.NB(r:Rl K G L M H)(hp:H p=none):Rl K (upd G p o) L M (upd H p o) where
 sub:=λb u e=>by
  by_cases hb:b=p
  ·subst hb;rw [au] at e⊢;exact e
  ·rw [Ξ hb] at e⊢;exact r.sub b u e
 len:=r.len
 nd:=r.nd
 gJ:=λk a m h1 h2=>by obtain ⟨q1,q2⟩:=r.gJ k a m h1 h2;have hb:a≠p:=λz=>q2.there (by rw [z];exact hp);exact ⟨by rw [Ξ hb];exact q1,q2.mono (λb u e=>by rw [Ξ (λz=>by rw [z,r.sub.free hp] at e;cases e)];exact e) (.refl _) (Ξ hb)⟩
theorem Rl.Rm(r:Rl K G L M H)(hp:H p=none):Ex G L H (upd G p o) L (upd H p o) where
 g:=λb u e=>by rw [Ξ (λz=>by rw [z,r.sub.free hp] at e;cases e)];exact e
 l:= .refl _
 fr:=λb h1 h2=>by rw [Ξ (λz=>h2 (by rw [z];exact hp))];exact h1
 out:=λb u h1 _=>by rw [Ξ (λz=>by rw [z,hp] at h1;cases h1)];exact h1
 new:=λb h=> .inl h
 EG:=λb h=>by rw [Ξ (λz=>h (by rw [z];exact hp))];exact h
theorem Rl.Mr{m:MO}(r:Rl K G L M H)(hp:H p=none)(hm:Hi K G (L++[p]) (upd H p o) p m):Rl K G (L++[p]) (M++[m]) (upd H p o) where
 sub:=λb u e=>by rw [Ξ (λz=>by rw [z,r.sub.free hp] at e;cases e)];exact r.sub b u e
 len:=by rw [aag,aag,r.len];rfl
 nd:=List.nodup_append.mpr ⟨r.nd,by simp,λa ha b hb=>by
  have e:b=p:=by simpa using hb
  rw [e];exact λz=>r.PJ hp (z▸ha)⟩
 gJ:=λk a m' h1 h2=>by
  by_cases hk:k < L.length
  ·rw [aau hk] at h1;rw [aau (by rw [<-r.len];exact hk)] at h2;obtain ⟨q1,q2⟩:=r.gJ k a m' h1 h2;exact ⟨q1,q2.mono (.refl _) ⟨[p],rfl⟩ (Ξ λz=>q2.there (by rw [z];exact hp))⟩
  ·have e:k=L.length:=by have:=(aaf.mp h1).1;rw [aag] at this;simp at this;omega
   rw [e,aak (aai _)] at h1;rw [e,r.len,aak (aai _)] at h2;simp at h1 h2;subst h1 h2;exact ⟨r.sub.free hp,hm⟩
theorem Rl.Vl(r:Rl K G L M H)(hp:H p=none):Ex G L H G (L++[p]) (upd H p o) where
 g:= .refl _
 l:=⟨[p],rfl⟩
 fr:=λb h1 _=>h1
 out:=λb u h1 _=>by rw [Ξ (λz=>by rw [z,hp] at h1;cases h1)];exact h1
 new:=λb h=>by
  rcases aaQ.mp h with z | z
  ·exact .inl z
  ·have e:b=p:=by simpa using z
   right;rw [e];exact hp
 EG:=λb h=>by rw [Ξ (λz=>h (by rw [z];exact hp))];exact h
theorem Rl.setM{k:Nat}{a:Addr}{m:MO}(r:Rl K G L M H)(hk:L[k]? =some a)(hm:Hi K G L (upd H a o) a m):Rl K G L (M.set k m) (upd H a o) where
 sub:=λb u e=>by obtain ⟨k',m',e1,e2,q1,_⟩:=r.wQ (aam hk);rw [Ξ (λz=>by rw [z,q1] at e;cases e)];exact r.sub b u e
 len:=by rw [abg];exact r.len
 nd:=r.nd
 gJ:=λk' a' m' h1 h2=>by
  by_cases e:k'=k
  ·subst e;rw [hk] at h1;cases h1;have hl:k' < M.length:=by rw [<-r.len];exact (aaf.mp hk).1
   rw [aa9 hl] at h2;cases h2;obtain ⟨_,_,_,_,q1,_⟩:=r.wQ (aam hk);exact ⟨q1,hm⟩
  ·rw [abi (λz=>e z.symm)] at h2;obtain ⟨q1,q2⟩:=r.gJ k' a' m' h1 h2;have ne:a'≠a:=λz=>by subst z;exact e ((List.getElem?_inj (aaf.mp h1).1 r.nd).mp (h1.trans hk.symm))
   exact ⟨q1,q2.mono (.refl _) (.refl _) (Ξ ne)⟩
theorem Rl.HC{k:Nat}{a:Addr}(r:Rl K G L M H)(hk:L[k]? =some a):Ex G L H G L (upd H a o) where
 g:= .refl _
 l:= .refl _
 fr:=λb h1 _=>h1
 out:=λb u h1 h2=>by rw [Ξ (λz=>h2 (by rw [z];exact aam hk))];exact h1
 new:=λb h=> .inl h
 EG:=λb h=>by
  by_cases e:b=a
  ·rw [e,au];simp
  ·rw [Ξ e];exact h
end
structure lK(K:fI)(G:Hp)(L:List Addr)(ρ:En)(σ:St):Prop where
 len:ρ.length=σ.length
 gJ:∀(i:Nat) (d:Dt),ρ[i]? =some (some d)->∃v,σ[i]? =some (some v)/\Den K G L d v
section
variable{K:fI}{G G':Hp}{L L':List Addr}{H H':Hp}{ρ:En}{σ:St}
theorem lK.mono(h:lK K G L ρ σ)(e:Ex G L H G' L' H'):lK K G' L' ρ σ:=⟨h.len,λi d q=>let ⟨v,a,b⟩:=h.gJ i d q;⟨v,a,Den.mono e.g e.l d v b⟩⟩
theorem lK.set(h:lK K G L ρ σ)(i:Nat){d:Dt}{v:V}(q:Den K G L d v):lK K G L (ρ.set i (some d)) (σ.set i (some v)):=by
 refine ⟨by rw [abg,abg];exact h.len,λj d' e=> ?_⟩;by_cases hj:i=j
 ·subst hj;have hl:i < ρ.length:=by have:=(aaf.mp e).1;rwa [abg] at this
  rw [aa9 hl] at e;cases e;exact ⟨v,aa9 (by rw [<-h.len];exact hl),q⟩
 ·rw [abi hj] at e;obtain ⟨u,a,b⟩:=h.gJ j d' e;exact ⟨u,by rw [abi hj];exact a,b⟩
end
abbrev DQ:=Dt->Ms->Prop
abbrev DX:=En->Addr->List (Str×Dt)->Ms->Prop
def TF(K:fI)(G:Hp)(L:List Addr)(H:Hp)(fs:List (Str×Dt))(od:Option Addr):Prop:=
 (fs=[]/\od=none)\/fs≠[]/\∃dx vs,od=some dx/\G dx=some (.xd ((fs.map (·.1)).zip vs))/\Ψ K G L (fs.map (·.2)) vs
def uz(K:fI)(G:Hp)(L:List Addr)(H:Hp)(R:St->XK)(x:DX):Prop:=
 ∀σ ρ C fs M' G' L' H' od,x ρ C fs M'->Ex G L H G' L' H'->Rl K G' L' M' H'->lK K G' L' ρ σ->TF K G' L' H' fs od->R σ (.ref C) od H'
theorem uz.on{K:fI}{G:Hp}{L:List Addr}{H G1:Hp}{L1:List Addr}{H1:Hp}{R:St->XK}{x:DX}(h:uz K G L H R x)(e:Ex G L H G1 L1 H1):uz K G1 L1 H1 R x:=
 λσ ρ C fs M' G' L' H' od q e' r n y=>h σ ρ C fs M' G' L' H' od q (e.trans e') r n y
def lD:DX:=λ_ _ _ _=>False
theorem Ke{K:fI}{G:Hp}{L:List Addr}{H:Hp}{R:St->XK}:uz K G L H R lD:=λ_ _ _ _ _ _ _ _ _ q=>q.elim
abbrev DE:=En->Ms->DQ->DX->Prop
abbrev DT:=En->Ms->(Bool->Ms->Prop)->DX->Prop
abbrev DA:=En->Ms->(List Dt->Ms->Prop)->DX->Prop
structure lI where
 nx:En->Ms->Prop
 rt:DQ
 bk:En->Ms->Prop:=λ_ _=>False
 ct:En->Ms->Prop:=λ_ _=>False
 x:DX:=lD
abbrev DS:=lI->En->Ms->Prop
inductive Fin(K:fI)(G0:Hp)(L0:List Addr)(H0:Hp)(q:DQ)(v:V)(H:Hp):Prop
 | mk (d:Dt) (G:Hp) (L:List Addr) (M:Ms) (e:Ex G0 L0 H0 G L H) (r:Rl K G L M H) (n:Den K G L d v) (h:q d M)
inductive uL(K:fI)(G0:Hp)(L0:List Addr)(H0:Hp)(q:Bool->Ms->Prop)(b:Bool)(H:Hp):Prop
 | mk (G:Hp) (L:List Addr) (M:Ms) (e:Ex G0 L0 H0 G L H) (r:Rl K G L M H) (h:q b M)
inductive NI(K:fI)(G0:Hp)(L0:List Addr)(H0:Hp)(q:List Dt->Ms->Prop)(vs:List V)(H:Hp):Prop
 | mk (ds:List Dt) (G:Hp) (L:List Addr) (M:Ms) (e:Ex G0 L0 H0 G L H) (r:Rl K G L M H) (n:Ψ K G L ds vs) (h:q ds M)
inductive fb(K:fI)(G0:Hp)(L0:List Addr)(H0:Hp)(q:En->Ms->Prop)(σ:St)(H:Hp):Prop
 | mk (ρ:En) (G:Hp) (L:List Addr) (M:Ms) (e:Ex G0 L0 H0 G L H) (r:Rl K G L M H) (n:lK K G L ρ σ) (h:q ρ M)
def um(K:fI)(G0:Hp)(L0:List Addr)(H0:Hp)(Dn:lI):yq:=⟨fb K G0 L0 H0 Dn.nx,Fin K G0 L0 H0 Dn.rt,fb K G0 L0 H0 Dn.bk,fb K G0 L0 H0 Dn.ct⟩
inductive zU(K:fI)(R:St->XK)(t:DE)(σ:St)(H:Hp)(Q:VK):Prop
 | mk (G:Hp) (L:List Addr) (ρ:En) (M:Ms) (q:DQ) (x:DX) (r:Rl K G L M H) (n:lK K G L ρ σ) (h:t ρ M q x) (hx:uz K G L H R x) (hQ:∀v H1,Fin K G L H q v H1->Q v H1)
inductive Fg(K:fI)(R:St->XK)(t:DT)(σ:St)(H:Hp)(Q:Bool->Hp->Prop):Prop
 | mk (G:Hp) (L:List Addr) (ρ:En) (M:Ms) (q:Bool->Ms->Prop) (x:DX) (r:Rl K G L M H) (n:lK K G L ρ σ) (h:t ρ M q x) (hx:uz K G L H R x) (hQ:∀b H1,uL K G L H q b H1->Q b H1)
inductive TY(K:fI)(R:St->XK)(t:DA)(σ:St)(H:Hp)(Q:List V->Hp->Prop):Prop
 | mk (G:Hp) (L:List Addr) (ρ:En) (M:Ms) (q:List Dt->Ms->Prop) (x:DX) (r:Rl K G L M H) (n:lK K G L ρ σ) (h:t ρ M q x) (hx:uz K G L H R x) (hQ:∀vs H1,NI K G L H q vs H1->Q vs H1)
structure PC(A B:yq):Prop where
 nx:∀σ H,A.nx σ H->B.nx σ H
 rt:∀v H,A.rt v H->B.rt v H
 bk:∀σ H,A.bk σ H->B.bk σ H
 ct:∀σ H,A.ct σ H->B.ct σ H
inductive TX(K:fI)(R:St->XK)(t:DS)(De:yq)(σ:St)(H:Hp):Prop
 | mk (G:Hp) (L:List Addr) (ρ:En) (M:Ms) (Dn:lI) (r:Rl K G L M H) (n:lK K G L ρ σ) (h:t Dn ρ M) (hx:uz K G L H R Dn.x) (hQ:PC (um K G L H Dn) De)
def JE(X:Cx)(R:St->XK)(e:Expr)(t:DE):Prop:=PE X e (zU X.K R t)
def JT(X:Cx)(R:St->XK)(e:Expr)(t:DT):Prop:=PT X e (Fg X.K R t)
def JW(X:Cx)(R:St->XK)(e:Expr)(t:DT):Prop:=PW X e (Fg X.K R t)
def JA(X:Cx)(R:St->XK)(es:List Expr)(t:DA):Prop:=PA X es (TY X.K R t)
def JS(X:Cx)(R:St->XK)(st:Stmt)(t:DS):Prop:=PS X st (TX X.K R t)
def Bk(X:Cx)(R:St->XK)(st:List Stmt)(t:DS):Prop:=He X st (TX X.K R t)
section
variable{K:fI}{G0:Hp}{L0:List Addr}{H0 G1:Hp}{L1:List Addr}{H1:Hp}
theorem Fin.back{q:DQ}(e:Ex G0 L0 H0 G1 L1 H1){v:V}{H:Hp}(h:Fin K G1 L1 H1 q v H):Fin K G0 L0 H0 q v H:=let ⟨d,G,L,M,a,b,c,f⟩:=h;⟨d,G,L,M,e.trans a,b,c,f⟩
theorem fb.back{q:En->Ms->Prop}(e:Ex G0 L0 H0 G1 L1 H1){v:St}{H:Hp}(h:fb K G1 L1 H1 q v H):fb K G0 L0 H0 q v H:=let ⟨d,G,L,M,a,b,c,f⟩:=h;⟨d,G,L,M,e.trans a,b,c,f⟩
theorem uL.back{q:Bool->Ms->Prop}(e:Ex G0 L0 H0 G1 L1 H1){v:Bool}{H:Hp}(h:uL K G1 L1 H1 q v H):uL K G0 L0 H0 q v H:=let ⟨G,L,M,a,b,f⟩:=h;⟨G,L,M,e.trans a,b,f⟩
theorem um.back{Dn:lI}(e:Ex G0 L0 H0 G1 L1 H1):PC (um K G1 L1 H1 Dn) (um K G0 L0 H0 Dn):=⟨λ_ _ h=>fb.back e h,λ_ _ h=>Fin.back e h,λ_ _ h=>fb.back e h,λ_ _ h=>fb.back e h⟩
theorem SP.imp{X:Cx}{ζ:List (Addr×Obj)}{A B:yq}(e:PC A B){f:Flow}{s:Shared}(h:SP X ζ A f s):SP X ζ B f s:=by
 cases f with
 | next=>obtain ⟨a,b,I,q⟩:=h;exact ⟨a,b,I,e.nx _ _ q⟩
 | brk=>obtain ⟨a,b,I,q⟩:=h;exact ⟨a,b,I,e.bk _ _ q⟩
 | cont=>obtain ⟨a,b,I,q⟩:=h;exact ⟨a,b,I,e.ct _ _ q⟩
 | ret u=>obtain ⟨v,a,b,I,r,q⟩:=h;exact ⟨v,a,b,I,r,e.rt _ _ q⟩
end
section
variable{X:Cx}{R:St->XK}{e:Expr}
theorem JE.of{te:TE}{t:DE}(h:PE X e te)(hw:∀σ H G L ρ M q x,Rl X.K G L M H->lK X.K G L ρ σ->t ρ M q x->uz X.K G L H R x->te σ H (Fin X.K G L H q)):JE X R e t:=by intro ζ s σ H Q I ⟨G,L,ρ,M,q,x,r,n,ht,hx,hQ⟩;refine bF (h ζ s σ H _ I (hw σ H G L ρ M q x r n ht hx)) λu s1 ⟨v,H1,I1,rv,f⟩=>⟨v,H1,I1,rv,hQ v H1 f⟩
theorem JT.of{te:TT}{t:DT}(h:PT X e te)(hw:∀σ H G L ρ M q x,Rl X.K G L M H->lK X.K G L ρ σ->t ρ M q x->uz X.K G L H R x->te σ H (uL X.K G L H q)):JT X R e t:=by intro ζ s σ H Q I ⟨G,L,ρ,M,q,x,r,n,ht,hx,hQ⟩;refine bF (h ζ s σ H _ I (hw σ H G L ρ M q x r n ht hx)) λu s1 ⟨H1,I1,f⟩=>⟨H1,I1,hQ u H1 f⟩
theorem JW.of{te:TT}{t:DT}(h:PW X e te)(hw:∀σ H G L ρ M q x,Rl X.K G L M H->lK X.K G L ρ σ->t ρ M q x->uz X.K G L H R x->te σ H (uL X.K G L H q)):JW X R e t:=by intro wh ζ s σ H Q I ⟨G,L,ρ,M,q,x,r,n,ht,hx,hQ⟩;refine bF (h wh ζ s σ H _ I (hw σ H G L ρ M q x r n ht hx)) λu s1 ⟨H1,I1,f⟩=>⟨H1,I1,hQ u H1 f⟩
theorem JA.of{es:List Expr}{te:TA}{t:DA}(h:PA X es te)(hw:∀σ H G L ρ M q x,Rl X.K G L M H->lK X.K G L ρ σ->t ρ M q x->uz X.K G L H R x->te σ H (NI X.K G L H q)):JA X R es t:=by intro pos ζ s σ H Q I ⟨G,L,ρ,M,q,x,r,n,ht,hx,hQ⟩;refine bF (h pos ζ s σ H _ I (hw σ H G L ρ M q x r n ht hx)) λu s1 ⟨v,H1,I1,rv,f⟩=>⟨v,H1,I1,rv,hQ v H1 f⟩
theorem JS.of{st:Stmt}{te:TS}{t:DS}(h:PS X st te)(hw:∀σ H G L ρ M Dn,Rl X.K G L M H->lK X.K G L ρ σ->t Dn ρ M->uz X.K G L H R Dn.x->te (um X.K G L H Dn) σ H):JS X R st t:=by intro ζ s σ H De I ⟨G,L,ρ,M,Dn,r,n,ht,hx,hQ⟩;exact bF (h ζ s σ H _ I (hw σ H G L ρ M Dn r n ht hx)) λu s1 f=>SP.imp hQ f
theorem Bk.of{st:List Stmt}{te:TS}{t:DS}(h:He X st te)(hw:∀σ H G L ρ M Dn,Rl X.K G L M H->lK X.K G L ρ σ->t Dn ρ M->uz X.K G L H R Dn.x->te (um X.K G L H Dn) σ H):Bk X R st t:=by intro ζ s σ H De I ⟨G,L,ρ,M,Dn,r,n,ht,hx,hQ⟩;exact bF (h ζ s σ H _ I (hw σ H G L ρ M Dn r n ht hx)) λu s1 f=>SP.imp hQ f
end
def BW(i:Nat):DE:=λρ M q _=>match ρ[i]? with
 | some (some d)=>q d M
 | _=>False
def dC(d:Dt):DE:=λ_ M q _=>q d M
def jX(f:Dt->Dt->Ms->DQ->Prop)(a b:DE):DE:=λρ M q x=>a ρ M (λd1 M1=>b ρ M1 (λd2 M2=>f d1 d2 M2 q) x) x
def Vu(f:Dt->Ms->DQ->Prop)(a:DE):DE:=λρ M q x=>a ρ M (λd1 M1=>f d1 M1 q) x
def Pm:DA:=λ_ M q _=>q [] M
def Ik(a:DE)(r:DA):DA:=λρ M q x=>a ρ M (λd M1=>r ρ M1 (λds M2=>q (d::ds) M2) x) x
def BS(f:List Dt->Ms->DQ->Prop)(a:DA):DE:=λρ M q x=>a ρ M (λds M1=>f ds M1 q) x
def m_(K:fI)(r:R2)(f:Dt->Dt->Ms->DQ->Prop):Prop:=
 ∀G0 L0 H0 G L M H v1 v2 d1 d2 q,Ex G0 L0 H0 G L H->Rl K G L M H->Den K G L d1 v1->Den K G L d2 v2->f d1 d2 M q->r v1 v2 H (Fin K G0 L0 H0 q)
def Y1(K:fI)(r:V->Hp->VK->Prop)(f:Dt->Ms->DQ->Prop):Prop:=
 ∀G0 L0 H0 G L M H v1 d1 q,Ex G0 L0 H0 G L H->Rl K G L M H->Den K G L d1 v1->f d1 M q->r v1 H (Fin K G0 L0 H0 q)
def EB(K:fI)(r:List V->Hp->VK->Prop)(f:List Dt->Ms->DQ->Prop):Prop:=
 ∀G0 L0 H0 G L M H vs ds q,Ex G0 L0 H0 G L H->Rl K G L M H->Ψ K G L ds vs->f ds M q->r vs H (Fin K G0 L0 H0 q)
section
variable{K:fI}{R:St->XK}{ta tb:DE}{tc:DA}{σ:St}{H G:Hp}{L:List Addr}{ρ:En}{M:Ms}{q:DQ}{x:DX}
theorem BP{r:R2}{f:Dt->Dt->Ms->DQ->Prop}(od:m_ K r f)(rl:Rl K G L M H)(n:lK K G L ρ σ)(h:jX f ta tb ρ M q x)(hx:uz K G L H R x):Si r (zU K R ta) (zU K R tb) σ H (Fin K G L H q):=by refine ⟨G,L,ρ,M,_,x,rl,n,h,hx,λv H1 ⟨d1,G1,L1,M1,e1,r1,n1,h1⟩=> ?_⟩;refine ⟨G1,L1,ρ,M1,_,x,r1,n.mono e1,h1,hx.on e1,λv2 H2 ⟨d2,G2,L2,M2,e2,r2,n2,h2⟩=> ?_⟩;exact od G L H G2 L2 M2 H2 v v2 d1 d2 q (e1.trans e2) r2 (Den.mono e2.g e2.l _ _ n1) n2 h2
theorem Sq{r:V->Hp->VK->Prop}{f:Dt->Ms->DQ->Prop}(od:Y1 K r f)(rl:Rl K G L M H)(n:lK K G L ρ σ)(h:Vu f ta ρ M q x)(hx:uz K G L H R x):tUn r (zU K R ta) σ H (Fin K G L H q):=by refine ⟨G,L,ρ,M,_,x,rl,n,h,hx,λv H1 ⟨d1,G1,L1,M1,e1,r1,n1,h1⟩=> ?_⟩;exact od G L H G1 L1 M1 H1 v d1 q e1 r1 n1 h1
theorem Of{r:List V->Hp->VK->Prop}{f:List Dt->Ms->DQ->Prop}(od:EB K r f)(rl:Rl K G L M H)(n:lK K G L ρ σ)(h:BS f tc ρ M q x)(hx:uz K G L H R x):Y' r (TY K R tc) σ H (Fin K G L H q):=by refine ⟨G,L,ρ,M,_,x,rl,n,h,hx,λv H1 ⟨d1,G1,L1,M1,e1,r1,n1,h1⟩=> ?_⟩;exact od G L H G1 L1 M1 H1 v d1 q e1 r1 n1 h1
end
section
variable{X:Cx}{R:St->XK}{a b c:Expr}{ta tb:DE}{pos:Pos}
theorem jv(i:Nat){x:Str}{pos:Pos}(hN:X.N[i]? =some x:=by rfl)(hv:Wv X.env.scope x:=by first | exact Or.inl rfl | exact Or.inr (Or.inl rfl) | exact Or.inr (Or.inr rfl))(hd:(x==("__debug__":Str))=false:=by decide)
  (EJ:(x==("__classdict__":Str))=false:=by decide):JE X R (.Name x pos) (BW i):= .of (Pf hN hv hd EJ) λσ H G L ρ M q x r n h hx=>by
 unfold BW at h;split at h
 ·rename_i d e;obtain ⟨v,e1,h1⟩:=n.gJ i d e;exact ⟨v,e1,d,G,L,M, .refl _ _ _,r,h1,h⟩
 ·exact h.elim
theorem Q7{d:Dt}{v:V}{e:Expr}(h:PE X e (tC v))(hd:∀G L,Den X.K G L d v):JE X R e (dC d):= .of h λσ H G L ρ M q x r n h hx=>⟨d,G,L,M, .refl _ _ _,r,hd G L,h⟩
theorem υ{i j pos}:JE X R (.Constant (.int i) j pos) (dC (.int i)):=Q7 OT λ_ _=>rfl
theorem HM{b j pos}:JE X R (.Constant (.bool b) j pos) (dC (.bl b)):=Q7 Sr λ_ _=>rfl
theorem Gi{j pos}:JE X R (.Constant .none j pos) (dC .aU):=Q7 OX λ_ _=>rfl
theorem iB{x j pos}:JE X R (.Constant (.str x) j pos) (dC (.str x)):=Q7 Rb λ_ _=>rfl
theorem wY{op:Operator}{r:R2}{f:Dt->Dt->Ms->DQ->Prop}(ho:jL X (binaryOp op) r)(od:m_ X.K r f)(ja:JE X R a ta)(jb:JE X R b tb):JE X R (.BinOp a op b pos) (jX f ta tb):=
 .of (UX ho ja jb) λσ H G L ρ M q x r n h hx=>BP od r n h hx
theorem Yb{op:UnaryOp}{r:V->Hp->VK->Prop}{f:Dt->Ms->DQ->Prop}(ho:VH X (unaryOp op) r)(od:Y1 X.K r f)(ja:JE X R a ta):JE X R (.UnaryOp op a pos) (Vu f ta):=
 .of (Uo ho ja) λσ H G L ρ M q x r n h hx=>Sq od r n h hx
theorem vq{op:CmpOp}{r:R2}{f:Dt->Dt->Ms->DQ->Prop}(ho:jL X (compareOp op) r)(od:m_ X.K r f)(ja:JE X R a ta)(jb:JE X R b tb)(hm:behindInMarks op b=false):JE X R (.Compare a [op] [b] pos) (jX f ta tb):=
 .of (Mo ho ja jb hm) λσ H G L ρ M q x r n h hx=>BP od r n h hx
theorem RT{r:R2}{f:Dt->Dt->Ms->DQ->Prop}(hr:K6 X r)(od:m_ X.K r f)(ja:JE X R a ta)(jb:JE X R b tb)(hs:v8 b):JE X R (.Subscript a b pos) (jX f ta tb):=
 .of (UE hr ja jb hs) λσ H G L ρ M q x r n h hx=>BP od r n h hx
theorem dJ{env:Env}{es:List Expr}{c j p}:starEach (.Constant c j p::es) env=(false,eval (.Constant c j p) env)::starEach es env:=rfl
theorem Ou{env:Env}{es:List Expr}{c p}:starEach (.Name c p::es) env=(false,eval (.Name c p) env)::starEach es env:=rfl
theorem bB{env:Env}{es:List Expr}{a o b p}:starEach (.BinOp a o b p::es) env=(false,eval (.BinOp a o b p) env)::starEach es env:=rfl
theorem aV{env:Env}{es:List Expr}{a b c p}:starEach (.Call a b c p::es) env=(false,eval (.Call a b c p) env)::starEach es env:=rfl
theorem aX{env:Env}{es:List Expr}{a b p}:starEach (.Subscript a b p::es) env=(false,eval (.Subscript a b p) env)::starEach es env:=rfl
theorem Ax{env:Env}{es:List Expr}{a b p}:starEach (.Tuple a b p::es) env=(false,eval (.Tuple a b p) env)::starEach es env:=rfl
theorem Dx{env:Env}{es:List Expr}{a o b p}:starEach (.Compare a o b p::es) env=(false,eval (.Compare a o b p) env)::starEach es env:=rfl
theorem θ:JA X R [] Pm:= .of PD λσ H G L ρ M q x r n h hx=>⟨[],G,L,M, .refl _ _ _,r,rfl,h⟩
theorem ι{e:Expr}{es:List Expr}{te:DE}{t:DA}(ha:JE X R e te)(hr:JA X R es t)(hs:starEach (e::es) X.env=(false,eval e X.env)::starEach es X.env:=by first | exact dJ | exact Ou | exact bB | exact aV | exact aX | exact Ax | exact Dx | exact ZO | rfl):JA X R (e::es) (Ik te t):=
 .of (MR ha hr hs) λσ H G L ρ M q x rl n h hx=>by refine ⟨G,L,ρ,M,_,x,rl,n,h,hx,λv H1 ⟨d1,G1,L1,M1,e1,r1,n1,h1⟩=> ?_⟩;refine ⟨G1,L1,ρ,M1,_,x,r1,n.mono e1,h1,hx.on e1,λv2 H2 ⟨d2,G2,L2,M2,e2,r2,n2,h2⟩=> ?_⟩;exact ⟨d1::d2,G2,L2,M2,e1.trans e2,r2,⟨_,_,rfl,Den.mono e2.g e2.l _ _ n1,n2⟩,h2⟩
theorem Ο{c:Str}{p:Pos}{es:List Expr}{te:DE}{t:DA}(ha:JE X R (.Name c p) te)(hr:JA X R es t):JA X R (.Name c p::es) (Ik te t):=ι ha hr Ou
def UL(t:DA):DE:=λρ M q x=>t ρ M (λds M1=>ds.length<=sizeLine/\q (.tup ds) M1) x
def Th(t:DA):DE:=λρ M q x=>t ρ M (λds M1=>ds.length<=sizeLine/\q (.lst ds) M1) x
def Ki(t:DA):DE:=λρ M q x=>t ρ M (λds M1=>ds.length<=sizeLine/\q (.loc M1.length) (M1++[.lst ds])) x
theorem kU{K:fI}{G0:Hp}{L0:List Addr}{H0 G:Hp}{L:List Addr}{M:Ms}{H:Hp}{p:Addr}{o:HO}{d:Dt}{q:DQ}(e:Ex G0 L0 H0 G L H)(r:Rl K G L M H)(hp:H p=none)(hd:Den K (upd G p o) L d (.ref p))(h:q d M):Fin K G0 L0 H0 q (.ref p) (upd H p o):=
 ⟨d,upd G p o,L,M,e.trans (r.Rm hp),r.NB hp,hd,h⟩
theorem qB{K:fI}{G:Hp}{L:List Addr}{M:Ms}{H:Hp}{p:Addr}{ds:List Dt}{vs:List V}(r:Rl K G L M H)(hp:H p=none)(h:Ψ K G L ds vs):Den K (upd G p (.tup vs)) L (.tup ds) (.ref p):=
 ⟨p,vs,rfl,au,Ψ.mono (r.Rm hp).g (.refl _) _ _ h⟩
theorem qI{K:fI}{G:Hp}{L:List Addr}{M:Ms}{H:Hp}{p:Addr}{ds:List Dt}{vs:List V}(r:Rl K G L M H)(hp:H p=none)(h:Ψ K G L ds vs):Den K (upd G p (.lst vs)) L (.lst ds) (.ref p):=
 ⟨p,vs,rfl,au,Ψ.mono (r.Rm hp).g (.refl _) _ _ h⟩
theorem jM{K:fI}{G0:Hp}{L0:List Addr}{H0 G:Hp}{L:List Addr}{M:Ms}{H:Hp}{p:Addr}{q:DQ}{ds:List Dt}{vs:List V}(e:Ex G0 L0 H0 G L H)(r:Rl K G L M H)(hp:H p=none)(hd:Ψ K G L ds vs)(h:q (.loc M.length) (M++[.lst ds])):Fin K G0 L0 H0 q (.ref p) (upd H p (.lst vs)):=
 ⟨.loc M.length,G,L++[p],M++[.lst ds],e.trans (r.Vl hp),r.Mr (m:= .lst ds) hp ⟨vs,au,Ψ.mono (.refl _) ⟨[p],rfl⟩ _ _ hd⟩,⟨p,rfl,by rw [<-r.len,List.getElem?_append_right (Nat.le_refl _)];simp⟩,h⟩
variable{es:List Expr}{t:DA}
theorem dM{x1}(h:JA X R es t):JE X R (.Tuple es x1 pos) (UL t):= .of (PL h) λσ H G L ρ M q x rl n h hx=>by refine ⟨G,L,ρ,M,_,x,rl,n,h,hx,λv H1 ⟨d1,G1,L1,M1,e1,r1,n1,h1⟩=>⟨by rw [<-n1.length];exact h1.1,λp hp=> ?_⟩⟩;exact kU e1 r1 hp (qB r1 hp n1) h1.2
theorem lH(h:JA X R es t):JE X R (.List es pos) (Th t):= .of (Ji h) λσ H G L ρ M q x rl n h hx=>by refine ⟨G,L,ρ,M,_,x,rl,n,h,hx,λv H1 ⟨d1,G1,L1,M1,e1,r1,n1,h1⟩=>⟨by rw [<-n1.length];exact h1.1,λp hp=> ?_⟩⟩;exact kU e1 r1 hp (qI r1 hp n1) h1.2
theorem jO(h:JA X R es t):JE X R (.List es pos) (Ki t):= .of (Ji h) λσ H G L ρ M q x rl n h hx=>by refine ⟨G,L,ρ,M,_,x,rl,n,h,hx,λv H1 ⟨d1,G1,L1,M1,e1,r1,n1,h1⟩=>⟨by rw [<-n1.length];exact h1.1,λp hp=> ?_⟩⟩;exact jM e1 r1 hp n1 h1.2
def lP(t:DE):DT:=λρ M q x=>t ρ M (λd M1=>match d with
 | .bl b=>q b M1
 | _=>False) x
def SV(t u:DT):DT:=λρ M q x=>t ρ M (λc M1=>(c=true->u ρ M1 q x)/\(c=false->q false M1)) x
def orT(t u:DT):DT:=λρ M q x=>t ρ M (λc M1=>(c=true->q true M1)/\(c=false->u ρ M1 q x)) x
def T5(t:DT):DT:=λρ M q x=>t ρ M (λc M1=>q (!c) M1) x
theorem OM{K:fI}{t:DE}{σ:St}{H G:Hp}{L:List Addr}{ρ:En}{M:Ms}{q:Bool->Ms->Prop}{x:DX}(rl:Rl K G L M H)(n:lK K G L ρ σ)(h:lP t ρ M q x)(hx:uz K G L H R x):tB (zU K R t) σ H (uL K G L H q):=by
 refine ⟨G,L,ρ,M,_,x,rl,n,h,hx,λv H1 ⟨d1,G1,L1,M1,e1,r1,n1,h1⟩=> ?_⟩
 (try dsimp only at h1)
 split at h1
 ·rename_i b;exact ⟨b,n1,G1,L1,M1,e1,r1,h1⟩
 ·exact h1.elim
theorem b8{e:Expr}{t:DE}(h:JE X R e t)(he:∀whole,isTrue e X.env whole=(do let v<-whole;standAt e.pos;holding [v] (truthy v)):=by intro _;rfl):JT X R e (lP t):=
 .of (Pe h he) λσ H G L ρ M q x rl n h hx=>OM rl n h hx
theorem g9{op:CmpOp}{r:R2}{f:Dt->Dt->Ms->DQ->Prop}(ho:jL X (compareOp op) r)(od:m_ X.K r f)(ja:JE X R a ta)(jb:JE X R b tb)(hm:behindInMarks op b=false):JT X R (.Compare a [op] [b] pos) (lP (jX f ta tb)):=
 .of (LA ho ja jb hm) λσ H G L ρ M q x rl n h hx=>by
  have h:jX f ta tb ρ M (λd M1=>match d with | .bl b=>q b M1 | _=>False) x:=h;refine ⟨G,L,ρ,M,_,x,rl,n,h,hx,λv H1 ⟨d1,G1,L1,M1,e1,r1,n1,h1⟩=> ?_⟩;refine ⟨G1,L1,ρ,M1,_,x,r1,n.mono e1,h1,hx.on e1,λv2 H2 ⟨d2,G2,L2,M2,e2,r2,n2,h2⟩=> ?_⟩;have:=od G L H G2 L2 M2 H2 v v2 d1 d2 _ (e1.trans e2) r2 (Den.mono e2.g e2.l _ _ n1) n2 h2;have e:(λx H'=>∃k,x=V.bl k/\uL X.K G L H q k H')=Fin X.K G L H (λd M1=>match d with | .bl b=>q b M1 | _=>False):=by
   funext y H'
   apply propext;constructor
   ·rintro ⟨k,rfl,G3,L3,M3,e3,r3,h3⟩;exact ⟨.bl k,G3,L3,M3,e3,r3,rfl,h3⟩
   ·rintro ⟨d,G3,L3,M3,e3,r3,n3,h3⟩;split at h3
    ·rename_i k;exact ⟨k,n3,G3,L3,M3,e3,r3,h3⟩
    ·exact h3.elim
  rw [e];exact this
theorem JW.jt{e:Expr}{t:DT}(h:JW X R e t):JT X R e t:=h _
variable{t1 t2:DT}{rest:List Expr}
theorem xx(ha:JT X R a t1):JW X R (.BoolOp .And [a] pos) t1:=pw_and1 ha
theorem jY(ha:JT X R a t1):JW X R (.BoolOp .Or [a] pos) t1:=pw_or1 ha
theorem B4(ha:JT X R a t1)(hb:JW X R (.BoolOp .And (b::rest) pos) t2):JW X R (.BoolOp .And (a::b::rest) pos) (SV t1 t2):= .of (pw_and ha hb) λσ H G L ρ M q x rl n h hx=>by
 refine ⟨G,L,ρ,M,_,x,rl,n,h,hx,λc H1 ⟨G1,L1,M1,e1,r1,h1⟩=> ?_⟩;cases c with
 | true=>exact GK ⟨G1,L1,ρ,M1,_,x,r1,n.mono e1,h1.1 rfl,hx.on e1,λb H2 f=>uL.back e1 f⟩
 | false=>exact Gw ⟨G1,L1,M1,e1,r1,h1.2 rfl⟩
theorem lL(ha:JT X R a t1)(hb:JW X R (.BoolOp .Or (b::rest) pos) t2):JW X R (.BoolOp .Or (a::b::rest) pos) (orT t1 t2):= .of (pw_or ha hb) λσ H G L ρ M q x rl n h hx=>by
 refine ⟨G,L,ρ,M,_,x,rl,n,h,hx,λc H1 ⟨G1,L1,M1,e1,r1,h1⟩=> ?_⟩;cases c with
 | true=>exact GK ⟨G1,L1,M1,e1,r1,h1.1 rfl⟩
 | false=>exact Gw ⟨G1,L1,ρ,M1,_,x,r1,n.mono e1,h1.2 rfl,hx.on e1,λb H2 f=>uL.back e1 f⟩
theorem iF(ha:JT X R a t1):JT X R (.UnaryOp .Not a pos) (T5 t1):= .of (PX ha) λσ H G L ρ M q x rl n h hx=>
 ⟨G,L,ρ,M,_,x,rl,n,h,hx,λ_ _ ⟨G,L,M,e,r,h⟩=>⟨G,L,M,e,r,h⟩⟩
def SD(t u:DE):DE:=λρ M q x=>t ρ M (λd M1=>match d with
 | .bl c=>(c=true->u ρ M1 q x)/\(c=false->q (.bl false) M1)
 | _=>False) x
def UQ(t:DE):DE:=λρ M q x=>t ρ M (λd M1=>match d with
 | .bl c=>q (.bl (!c)) M1
 | _=>False) x
def ZH(t:DT)(u v:DE):DE:=λρ M q x=>t ρ M (λc M1=>(c=true->u ρ M1 q x)/\(c=false->v ρ M1 q x)) x
theorem mr{op}{t:DE}(h:JE X R a t):JE X R (.BoolOp op [a] pos) t:=Qq h
theorem iI(ha:JE X R a ta)(hb:JE X R (.BoolOp .And (b::rest) pos) tb):JE X R (.BoolOp .And (a::b::rest) pos) (SD ta tb):= .of (Qm ha hb) λσ H G L ρ M q x rl n h hx=>by
 refine ⟨G,L,ρ,M,_,x,rl,n,h,hx,λv H1 ⟨d1,G1,L1,M1,e1,r1,n1,h1⟩=> ?_⟩
 (try dsimp only at h1)
 split at h1
 ·rename_i c;refine ⟨c,n1, ?_⟩;cases c with
  | true=>exact GK ⟨G1,L1,ρ,M1,_,x,r1,n.mono e1,h1.1 rfl,hx.on e1,λb H2 f=>Fin.back e1 f⟩
  | false=>exact Gw ⟨.bl false,G1,L1,M1,e1,r1,rfl,h1.2 rfl⟩
 ·exact h1.elim
theorem Qw(ha:JE X R a ta):JE X R (.UnaryOp .Not a pos) (UQ ta):= .of (Qn ha) λσ H G L ρ M q x rl n h hx=>by
 refine ⟨G,L,ρ,M,_,x,rl,n,h,hx,λv H1 ⟨d1,G1,L1,M1,e1,r1,n1,h1⟩=> ?_⟩
 (try dsimp only at h1)
 split at h1
 ·rename_i c;exact ⟨c,n1, .bl (!c),G1,L1,M1,e1,r1,rfl,h1⟩
 ·exact h1.elim
theorem vI{c:Expr}(hc:JT X R c t1)(ha:JE X R a ta)(hb:JE X R b tb):JE X R (.IfExp c a b pos) (ZH t1 ta tb):= .of (JH hc ha hb) λσ H G L ρ M q x rl n h hx=>by
 refine ⟨G,L,ρ,M,_,x,rl,n,h,hx,λc H1 ⟨G1,L1,M1,e1,r1,h1⟩=> ?_⟩;cases c with
 | true=>exact GK ⟨G1,L1,ρ,M1,_,x,r1,n.mono e1,h1.1 rfl,hx.on e1,λb H2 f=>Fin.back e1 f⟩
 | false=>exact Gw ⟨G1,L1,ρ,M1,_,x,r1,n.mono e1,h1.2 rfl,hx.on e1,λb H2 f=>Fin.back e1 f⟩
end
def N9:DS:=λDn ρ M=>Dn.nx ρ M
def L6(t u:DS):DS:=λDn ρ M=>t {Dn with nx:=u Dn} ρ M
def ZK(c:DT)(t u:DS):DS:=λDn ρ M=>c ρ M (λb M1=>(b=true->t Dn ρ M1)/\(b=false->u Dn ρ M1)) Dn.x
def TJ(t:DE):DS:=λDn ρ M=>t ρ M Dn.rt Dn.x
def Nz(i:Nat)(t:DE):DS:=λDn ρ M=>t ρ M (λd M1=>Dn.nx (ρ.set i (some d)) M1) Dn.x
def IM(t:DE):DS:=λDn ρ M=>t ρ M (λ_ M1=>Dn.nx ρ M1) Dn.x
def XD(t:DS):DS:=λDn ρ M=>∃J:En->Ms->Prop,t {Dn with nx:=J} ρ M/\∀ρ' M',J ρ' M'->Dn.nx ρ' M'
section
variable{X:Cx}{R:St->XK}{st:Stmt}{rest:List Stmt}{t u:DS}{e:Expr}{te:DE}{pos:Pos}
theorem Τ:Bk X R [] N9:= .of MI λσ H G L ρ M Dn rl n h hx=>⟨ρ,G,L,M, .refl _ _ _,rl,n,h⟩
theorem μ(h1:JS X R st t):Bk X R [st] t:=L9 h1
theorem η(h1:JS X R st t)(h2:Bk X R rest u):Bk X R (st::rest) (L6 t u):= .of (Jh h1 h2) λσ H G L ρ M Dn rl n h hx=>by refine ⟨G,L,ρ,M,_,rl,n,h,hx,⟨λσ1 H1 ⟨ρ1,G1,L1,M1,e1,r1,n1,h1⟩=> ?_,λ_ _ f=>f,λ_ _ f=>f,λ_ _ f=>f⟩⟩;exact ⟨G1,L1,ρ1,M1,Dn,r1,n1,h1,hx.on e1,um.back e1⟩
theorem pT:JS X R (.Continue pos) (λDn ρ M=>Dn.ct ρ M):= .of yH λσ H G L ρ M Dn rl n h hx=>⟨ρ,G,L,M, .refl _ _ _,rl,n,h⟩
theorem Ε(he:JE X R e te):JS X R (.Return (some e) pos) (TJ te):= .of (QC he) λσ H G L ρ M Dn rl n h hx=>⟨G,L,ρ,M,_,_,rl,n,h,hx,λ_ _ f=>f⟩
theorem c7(he:JE X R e te)(hs:swapsWith e none pos.line X.env=pure false:=by rfl):JS X R (.Expr e pos) (IM te):= .of (Nx he hs) λσ H G L ρ M Dn rl n h hx=>by refine ⟨G,L,ρ,M,_,_,rl,n,h,hx,λv H1 ⟨d1,G1,L1,M1,e1,r1,n1,h1⟩=>⟨ρ,G1,L1,M1,e1,r1,n.mono e1,h1⟩⟩
theorem aF{c:Expr}{a b:List Stmt}{tc:DT}(hc:JT X R c tc)(ha:Bk X R a t)(hb:Bk X R b u):JS X R (.If c a b pos) (ZK tc t u):= .of (T7 hc ha hb) λσ H G L ρ M Dn rl n h hx=>by
 refine ⟨G,L,ρ,M,_,_,rl,n,h,hx,λc H1 ⟨G1,L1,M1,e1,r1,h1⟩=> ?_⟩;cases c with
 | true=>exact GK ⟨G1,L1,ρ,M1,Dn,r1,n.mono e1,h1.1 rfl,hx.on e1,um.back e1⟩
 | false=>exact Gw ⟨G1,L1,ρ,M1,Dn,r1,n.mono e1,h1.2 rfl,hx.on e1,um.back e1⟩
theorem Α(i:Nat){x:Str}{pos':Pos}(hN:X.N.Nodup)(he:JE X R e te)(hi:X.N[i]? =some x:=by rfl)(hx:Loc X.env.scope x:=by first | exact .inl rfl | exact .inr rfl)(hs:swapsWith e (some (.Name x pos')) pos.line X.env=pure false:=by rfl)(hf:X.fn x=true\/X.env.scope.names.lookup x=some .local:=by first | exact .inl rfl | exact .inr rfl | assumption):
  JS X R (.Assign [.Name x pos'] e pos) (Nz i te):= .of (Pu hN hi hx he hs hf) λσ H G L ρ M Dn rl n h hx=>by
 refine ⟨G,L,ρ,M,_,_,rl,n,h,hx,λv H1 ⟨d1,G1,L1,M1,e1,r1,n1,h1⟩=>⟨_,G1,L1,M1,e1,r1,(n.mono e1).set i n1,h1⟩⟩
theorem hV(h:JS X R st t):JS X R st (XD t):= .of h λσ H G L ρ M Dn rl n h hx=>by obtain ⟨J,h1,h2⟩:=h;refine ⟨G,L,ρ,M,_,rl,n,h1,hx,⟨λσ1 H1 ⟨ρ1,G1,L1,M1,e1,r1,n1,h1⟩=>⟨ρ1,G1,L1,M1,e1,r1,n1,h2 _ _ h1⟩,λ_ _ f=>f,λ_ _ f=>f,λ_ _ f=>f⟩⟩
end
abbrev Z3:=Addr->List (Str×Dt)->Ms->Prop
abbrev DF:=List Dt->Ms->DQ->Z3->Prop
inductive cJ(K:fI)(T:DF)(vs:List V)(H:Hp)(Q:VK)(E:XK):Prop
 | mk (G:Hp) (L:List Addr) (ds:List Dt) (M:Ms) (q:DQ) (x:Z3) (r:Rl K G L M H) (n:Ψ K G L ds vs) (h:T ds M q x) (hQ:∀v H1,Fin K G L H q v H1->Q v H1) (hE:∀C fs M1 G1 L1 H1 od,x C fs M1->Ex G L H G1 L1 H1->Rl K G1 L1 M1 H1->TF K G1 L1 H1 fs od->E (.ref C) od H1)
def j9(N:List Str)(ds:List Dt):En:=ds.map some++List.replicate (N.length - ds.length) none
theorem AR{K:fI}{G:Hp}{L:List Addr}{N:List Str}{ds:List Dt}{vs:List V}(h:Ψ K G L ds vs):lK K G L (j9 N ds) (start N vs):=by
 have hl:=h.length;refine ⟨by unfold j9 start;simp [hl],λi d e=> ?_⟩;unfold j9 at e;unfold start;by_cases hi:i < ds.length
 ·rw [List.getElem?_append_left (by simpa using hi),List.getElem?_map] at e;rw [List.getElem?_append_left (by simpa [<-hl] using hi),List.getElem?_map];cases q:ds[i]? with
  | none=>rw [q] at e;cases e
  | some d'=>
   rw [q] at e;cases e;obtain ⟨v,e1,h1⟩:=h.get q;exact ⟨v,by rw [e1];rfl,h1⟩
 ·rw [List.getElem?_append_right (by simpa using Nat.le_of_not_lt hi),List.getElem?_replicate] at e;split at e <;> cases e
section
variable{P:Program}{w:World}{K:fI}{mg:Str->Option Value}{base:Heap}
theorem cX.dQ{x qual:Str}{st:Stmt}{f:Addr}{fd:FuncData}{N ps:List Str}{k:Nat}{T:DF}(F:cX K x qual st f fd)(S:Ζ N ps (ψ st))(len:∀ds M q x,T ds M q x->ds.length=ps.length)
  (qU:∀(aY:Value) (A:Around) (outer:List Env) (s:Shared) (H:Hp) (E:XK),bR k (A.deeper (envOfC qual (ψ st) s.heap.objs.size f aY))->
   ∃t,Bk (uG (b9 P w) P w K mg base N qual (ψ st) f aY A outer s H E) (λ_=>E) (d9 st) t/\∀ds M q x,T ds M q x->t {nx:=λ_ M'=>q .aU M',rt:=q,x:=λ_=>x} (j9 N ds) M):
  aj P w K mg base (b9 P w) (k+1) f fd ps (cJ K T):=by
 refine F.okX S (λvs H Q E h=> ?_) (λaY A outer s H vs Q E hr h=> ?_)
 ·obtain ⟨G,L,ds,M,q,x,rl,n,hT,_⟩:=h;rw [<-n.length];exact len _ _ _ _ hT
 ·obtain ⟨t,j,ht⟩:=qU aY A outer s H E hr;obtain ⟨G,L,ds,M,q,x,rl,n,hT,hQ,hE⟩:=h;refine ⟨_,j,G,L,j9 N ds,M,_,rl,AR n,ht ds M q x hT,λσ ρ C fs M' G' L' H' od hx e r _ y=>hE C fs M' G' L' H' od hx e r y,⟨λσ' H' ⟨ρ',G',L',M',e,r,_,h⟩=>hQ _ _ ⟨.aU,G',L',M',e,r,rfl,h⟩,λv H' f=>hQ v H' f,λ_ _ ⟨_,_,_,_,_,_,_,h⟩=>h.elim,λ_ _ ⟨_,_,_,_,_,_,_,h⟩=>h.elim⟩⟩
structure ax(P:Program)(w:World)(K:fI)(mg:Str->Option Value)(base:Heap)(k:Nat)(x:Str)(ps:List Str)(T:DF)(f:Addr)(fd:FuncData):Prop where
 ok:aj P w K mg base (b9 P w) k f fd ps (cJ K T)
 b:iw K fd ps []
 m:mg x=some (.ref f)
 kp:PySem.W.keepIn K (.ref f)=true
end
def Og(T:DF)(t:DA):DE:=λρ M q x=>t ρ M (λds M1=>T ds M1 q (λC fs M'=>x ρ C fs M')) x
section
variable{X:Cx}{R:St->XK}{T:DF}{k k':Nat}{f:Addr}{fd:FuncData}{ps:List Str}{x:Str}{p pos:Pos}{e:Expr}{es:List Expr}{t:DA}
theorem ae(C:ax X.prog X.w X.K X.mg X.base k x ps T f fd)(hr:bR k' X.A)(hx:dI (b9 X.prog X.w) X R)(ha:JA X R (e::es) t)(hk:k<=k':=by decide)(hg:Gl X x:=by rfl)(uH:(x==("__debug__":Str))=false:=by decide)
  (he:starEach (e::es) X.env=(false,eval e X.env)::starEach es X.env:=by rfl) (gy:(backTo pos (starEach es X.env)).any (·.1)=false:=by rfl):JE X R (.Call (.Name x p) (e::es) [] pos) (Og T t):=
 .of (zo C.ok (hr.mono hk) hg C.m C.kp C.b .nil hx ha uH he gy) λσ H G L ρ M q x rl n h hx=>by refine ⟨G,L,ρ,M,_,x,rl,n,h,hx,λvs H1 ⟨ds,G1,L1,M1,e1,r1,n1,h1⟩=> ?_⟩;show cJ X.K T (vs++[]) H1 _ _;rw [aa8];exact ⟨G1,L1,ds,M1,q,_,r1,n1,h1,λv H' f=>Fin.back e1 f,λC fs M' G' L' H' od hq e' r' y=>hx σ ρ C fs M' G' L' H' od hq (e1.trans e') r' (n.mono (e1.trans e')) y⟩
end
structure Yl(K:fI)(J:It)(xs:List Dt)(G0:Hp)(L0:List Addr):Prop where
 go:∀(i:Nat) G L M H (d:Dt),eC G0 G->Pre L0 L->Rl K G L M H->xs[i]? =some d->J.go i H/\∀v H',J.RS i H v H'->∃G',Ex G L H G' L H'/\Rl K G' L M H'/\Den K G' L d v
 stop:∀(i:Nat) G L M H,eC G0 G->Pre L0 L->Rl K G L M H->xs.length<=i->J.stop i H
inductive TZ(K:fI)(G0:Hp)(L0:List Addr)(H0:Hp)(q:List Dt->Ms->Prop)(J:It)(H:Hp):Prop
 | mk (xs:List Dt) (G:Hp) (L:List Addr) (M:Ms) (e:Ex G0 L0 H0 G L H) (r:Rl K G L M H) (y:Yl K J xs G L) (h:q xs M)
inductive Xj(K:fI)(R:St->XK)(t:DA)(σ:St)(H:Hp)(Q:It->Hp->Prop):Prop
 | mk (G:Hp) (L:List Addr) (ρ:En) (M:Ms) (q:List Dt->Ms->Prop) (x:DX) (r:Rl K G L M H) (n:lK K G L ρ σ) (h:t ρ M q x) (hx:uz K G L H R x) (hQ:∀J H1,TZ K G L H q J H1->Q J H1)
def JI(X:Cx)(R:St->XK)(tg iter:Expr)(t:DA):Prop:=PI X tg iter (Xj X.K R t)
theorem K_.imp{X:Cx}{ζ:List (Addr×Obj)}{σ:St}{tg:Expr}{R R':It->Hp->Prop}(hR:∀J H,R J H->R' J H){v:Value}{s:Shared}(h:K_ X ζ σ tg R v s):K_ X ζ σ tg R' v s:=by obtain ⟨it,fp,tn,J,H',a,b,c,d,e,f⟩:=h;exact ⟨it,fp,tn,J,H',a,b,c,d,e,hR J H' f⟩
theorem Di{K:fI}{G:Hp}{L:List Addr}{a:Addr}{ds:List Dt}{vs:List V}(h:∀G':Hp,eC G G'->gF K G' a vs)(n:Ψ K G L ds vs):Yl K (VP K a) ds G L where
 go:=λi G1 L1 M1 H1 d g l r e=>by
  obtain ⟨v,e1,n1⟩:=n.get e;have hs:=h H1 (g.trans r.sub)
  exact ⟨⟨vs,v,hs,e1⟩,λv' H' ⟨eH,y⟩=>by
   subst eH;have e2:=y vs hs;rw [e1] at e2;cases e2
   exact ⟨G1, .refl _ _ _,r,Den.mono g l _ _ n1⟩⟩
 stop:=λi G1 L1 M1 H1 g l r e=>⟨vs,h H1 (g.trans r.sub),by rw [<-n.length];exact e⟩
theorem Ho{K:fI}{G:Hp}{L:List Addr}{a:Addr}{ds:List Dt}{vs:List V}(h:∀G':Hp,eC G G'->nR K G' a vs)(n:Ψ K G L ds vs):Yl K (YO K a) ds G L where
 go:=λi G1 L1 M1 H1 d g l r e=>by
  obtain ⟨v,e1,n1⟩:=n.get e;have hs:=h H1 (g.trans r.sub)
  exact ⟨⟨vs,v,hs,e1⟩,λv' H' ⟨eH,y⟩=>by
   subst eH;have e2:=y vs hs;rw [e1] at e2;cases e2
   exact ⟨G1, .refl _ _ _,r,Den.mono g l _ _ n1⟩⟩
 stop:=λi G1 L1 M1 H1 g l r e=>⟨vs,h H1 (g.trans r.sub),by rw [<-n.length];exact e⟩
def dW(lo:Int)(n:Nat):List Dt:=(List.range n).map λk:Nat=>Dt.int (lo+(k:Int))
theorem Hs{K:fI}{G:Hp}{L:List Addr}{lo:Int}{n:Nat}:Yl K (SU lo n) (dW lo n) G L where
 go :=λi G1 L1 M1 H1 d g l r e=>by
  unfold dW at e;rw [aao] at e;have hi:i < n:=by
   cases q:(List.range n)[i]? with
   | none=>rw [q] at e;cases e
   | some j=>
    have:=(aaf.mp q).1;rwa [aa1] at this
  rw [aaS hi] at e;cases e;exact ⟨hi,λv' H' ⟨eH,y⟩=>by subst eH y;exact ⟨G1, .refl _ _ _,r,rfl⟩⟩
 stop:=λi G1 L1 M1 H1 g l r e=>by show n<=i;unfold dW at e;simpa using e
section
variable{X:Cx}{R:St->XK}{tg iter:Expr}
theorem JI.of{wi:TI}{t:DA}(h:PI X tg iter wi)(hw:∀σ H G L ρ M q x,Rl X.K G L M H->lK X.K G L ρ σ->t ρ M q x->uz X.K G L H R x->wi σ H (TZ X.K G L H q)):JI X R tg iter t:=by intro ζ s σ H Q I ⟨G,L,ρ,M,q,x,r,n,ht,hx,hQ⟩;exact bF (h ζ s σ H _ I (hw σ H G L ρ M q x r n ht hx)) λu s1 f=>bF f λu2 s2 f2=>K_.imp hQ f2
def TL(t:DA):DA:=λρ M q x=>t ρ M (λds M1=>match ds with
 | [.int j]=>(-(2 ^ 62)<=j/\j < 2 ^ 62)/\q (dW 0 j.toNat) M1
 | _=>False) x
theorem cw{a:Expr}{t:DA}{p pos:Pos}(hm:X.mg "range"=none)(ha:JA X R [a] t)(hg:Gl X "range":=by rfl)(hs:starEach [a] X.env=[(false,eval a X.env)]:=by rfl):JI X R tg (.Call (.Name "range" p) [a] [] pos) (TL t):=
 .of (Gj hg hm ha hs) λσ H G L ρ M q x rl n h hx=>by
  refine ⟨G,L,ρ,M,_,x,rl,n,h,hx,λvs H1 ⟨ds,G1,L1,M1,e1,r1,n1,h1⟩=> ?_⟩
  (try dsimp only at h1)
  split at h1
  ·rename_i j;obtain ⟨v,rfl,n2⟩:=bu n1;have n2:v= .int j:=n2;subst n2;exact ⟨j,rfl,h1.1.1,h1.1.2,_,G1,L1,M1,e1,r1,Hs,h1.2⟩
  ·exact h1.elim
def Ie(t:DA):DA:=λρ M q x=>t ρ M (λds M1=>match ds with
 | [.int i, .int j]=>(-(2 ^ 62)<=i/\i < 2 ^ 62/\ -(2 ^ 62)<=j/\j < 2 ^ 62)/\q (dW i (j - i).toNat) M1
 | _=>False) x
theorem Fy{a b:Expr}{t:DA}{p pos:Pos}(hm:X.mg "range"=none)(ha:JA X R [a,b] t)(hg:Gl X "range":=by rfl)(hs:starEach [a,b] X.env=[(false,eval a X.env),(false,eval b X.env)]:=by rfl)(Qg:starEach [b] X.env=[(false,eval b X.env)]:=by rfl):
  JI X R tg (.Call (.Name "range" p) [a,b] [] pos) (Ie t):=
 .of (FF hg hm ha hs Qg) λσ H G L ρ M q x rl n h hx=>by
  refine ⟨G,L,ρ,M,_,x,rl,n,h,hx,λvs H1 ⟨ds,G1,L1,M1,e1,r1,n1,h1⟩=> ?_⟩
  (try dsimp only at h1)
  split at h1
  ·rename_i i j;obtain ⟨v,u,rfl,n3,n2⟩:=gK n1;have n3:v= .int i:=n3;have n2:u= .int j:=n2;subst n3 n2;exact ⟨i,j,rfl,h1.1,_,G1,L1,M1,e1,r1,Hs,h1.2⟩
  ·exact h1.elim
end
def GD(K:fI)(gg:TG)(g:Dt->En->(En->Prop)->Prop):Prop:=
 ∀G L M H d v ρ σ (k:En->Prop) (Q:St->Hp->Prop),Rl K G L M H->Den K G L d v->lK K G L ρ σ->g d ρ k->(∀ρ' σ',lK K G L ρ' σ'->k ρ'->Q σ' H)->gg v σ H Q
def gN(i:Nat):Dt->En->(En->Prop)->Prop:=λd ρ k=>k (ρ.set i (some d))
theorem aL{K:fI}{i:Nat}:GD K (iR i) (gN i):=λG L M H d v ρ σ k Q rl n en h hQ=>hQ _ _ (en.set i n) h
def g2(i j:Nat):Dt->En->(En->Prop)->Prop:=λd ρ k=>match d with
 | .tup [a,b]=>k ((ρ.set i (some a)).set j (some b))
 | _=>False
theorem pq{K:fI}{i j:Nat}:GD K (J2 K 2 (ni (iR i) (ni (iR j) IS))) (g2 i j):=λG L M H d v ρ σ k Q rl n en h hQ=>by
 unfold g2 at h;split at h
 ·rename_i a b;obtain ⟨p,vs,rfl,e,n⟩:=n;obtain ⟨v1,v2,rfl,n1,n2⟩:=gK n;exact ⟨p,_,rfl, .inl (.inl (rl.sub _ _ e)),rfl,v1,_,rfl,v2,_,rfl,rfl,hQ _ _ ((en.set i n1).set j n2) h⟩
 ·exact h.elim
def x5(g:Dt->En->(En->Prop)->Prop)(tb:DS)(Dn:lI):List Dt->En->Ms->Prop
 | [],ρ,M=>Dn.nx ρ M
 | x::xs,ρ,M=>g x ρ λρ'=>tb {Dn with nx:=x5 g tb Dn xs,ct:=x5 g tb Dn xs,bk:=Dn.nx} ρ' M
def UM(ti:DA)(g:Dt->En->(En->Prop)->Prop)(tb:DS):DS:=λDn ρ M=>ti ρ M (λxs M1=>x5 g tb Dn xs ρ M1) Dn.x
section
variable{X:Cx}{R:St->XK}{tg iter:Expr}{body:List Stmt}{ti:DA}{gg:TG}{g:Dt->En->(En->Prop)->Prop}{tb:DS}{pos:Pos}
theorem g_(hi:JI X R tg iter ti)(hg:PG X tg gg)(gd:GD X.K gg g)(hb:Bk X R body tb)(hp:PassesOwn (model X.prog X.w) X.A X.env X.xe:=by first | exact PassesOwn.never | exact PassesOwn.leaving)(hc:X.calm=true:=by rfl)(hs:∀x,foldedSetIterable iter X.env x=pure x:=by intro _;rfl):
  JS X R (.For tg iter body [] pos) (UM ti g tb):= .of (C2 hp hc hi hg hb hs) λσ H G L ρ M Dn rl n h hx=>by
 refine ⟨G,L,ρ,M,_,_,rl,n,h,hx,λJ H1 ⟨xs,G1,L1,M1,e1,r1,y,h1⟩=> ?_⟩;refine ⟨λi m σ' H'=>m+i=xs.length/\fb X.K G1 L1 H1 (λρ' M'=>x5 g tb Dn (xs.drop i) ρ' M') σ' H',⟨xs.length,rfl,ρ,G1,L1,M1, .refl _ _ _,r1,n.mono e1,by rw [acw];exact h1⟩, ?_⟩;rintro i m σ' H' ⟨hm,ρ',G',L',M',e',r',n',h'⟩;by_cases hi:i < xs.length
 ·right;have hd:xs[i]? =some xs[i]:=aaa hi;obtain ⟨go,yl⟩:=y.go i G' L' M' H' _ e'.g e'.l r' hd;rw [abp hi] at h';refine ⟨go,fb X.K G1 L1 H1 (λρ' M'=>x5 g tb Dn (xs.drop (i+1)) ρ' M'),λσ2 H2 f=>⟨m - 1,by omega,by omega,f⟩,λv H2 hy=> ?_⟩;obtain ⟨G2,e2,r2,n2⟩:=yl v H2 hy;refine gd G2 L' M' H2 _ v ρ' σ' _ _ r2 n2 (n'.mono e2) h' λρ3 σ3 n3 h3=> ?_;refine ⟨G2,L',ρ3,M',_,r2,n3,h3,hx.on (e1.trans (e'.trans e2)),⟨λ_ _ f=>fb.back (e'.trans e2) f,λ_ _ f=>Fin.back (e1.trans (e'.trans e2)) f,λ_ _ f=>fb.back (e1.trans (e'.trans e2)) f,λ_ _ f=>fb.back (e'.trans e2) f⟩⟩
 ·left;refine ⟨y.stop i G' L' M' H' e'.g e'.l r' (by omega),ρ',G',L',M',e1.trans e',r',n', ?_⟩;rw [ab4 (by omega)] at h';exact h'
end
abbrev DK:=En->Ms->(List Dt->(Ms->Prop)->Ms->Prop)->DX->Prop
structure Qd(K:fI)(J:It)(xs:List Dt)(ok:Ms->Prop)(G0:Hp)(L0:List Addr):Prop where
 go:∀(i:Nat) G L M H (d:Dt),eC G0 G->Pre L0 L->Rl K G L M H->ok M->xs[i]? =some d->J.go i H/\∀v H',J.RS i H v H'->∃G',Ex G L H G' L H'/\Rl K G' L M H'/\Den K G' L d v
 stop:∀(i:Nat) G L M H,eC G0 G->Pre L0 L->Rl K G L M H->ok M->xs.length<=i->J.stop i H
inductive WE(K:fI)(G0:Hp)(L0:List Addr)(H0:Hp)(q:List Dt->(Ms->Prop)->Ms->Prop)(J:It)(H:Hp):Prop
 | mk (xs:List Dt) (ok:Ms->Prop) (G:Hp) (L:List Addr) (M:Ms) (e:Ex G0 L0 H0 G L H) (r:Rl K G L M H) (y:Qd K J xs ok G L) (h:q xs ok M)
inductive Zc(K:fI)(R:St->XK)(t:DK)(σ:St)(H:Hp)(Q:It->Hp->Prop):Prop
 | mk (G:Hp) (L:List Addr) (ρ:En) (M:Ms) (q:List Dt->(Ms->Prop)->Ms->Prop) (x:DX) (r:Rl K G L M H) (n:lK K G L ρ σ) (h:t ρ M q x) (hx:uz K G L H R x) (hQ:∀J H1,WE K G L H q J H1->Q J H1)
def JK(X:Cx)(R:St->XK)(tg iter:Expr)(t:DK):Prop:=PI X tg iter (Zc X.K R t)
def ZG(t:DA):DK:=λρ M q x=>t ρ M (λxs M1=>q xs (λ_=>True) M1) x
theorem NY{X:Cx}{R:St->XK}{tg iter:Expr}{t:DA}(h:JI X R tg iter t):JK X R tg iter (ZG t):=by intro ζ s σ H Q I ⟨G,L,ρ,M,q,x,r,n,ht,hx,hQ⟩;refine h ζ s σ H Q I ⟨G,L,ρ,M,_,x,r,n,ht,hx,λJ H1 ⟨xs,G1,L1,M1,e1,r1,y,hq⟩=>hQ J H1 ⟨xs,_,G1,L1,M1,e1,r1,⟨λi G L M H d g l r _ e=>y.go i G L M H d g l r e,λi G L M H g l r _ e=>y.stop i G L M H g l r e⟩,hq⟩⟩
def qc(ah:List Nat)(ρ:En):En:=ah.map λi=>(ρ[i]?).join
def i0(g:Dt->En->(En->Prop)->Prop)(tc:DT)(te:DE)(ρ0:En)(ok:Ms->Prop):List Dt->List Dt->Ms->(List Dt->Ms->Prop)->Prop
 | [],Ι,M,k=>ok M/\k Ι M
 | x::xs,Ι,M,k=>ok M/\g x ρ0 λρ'=>tc ρ' M (λb M1=>match b with
  | true=>te ρ' M1 (λd M2=>i0 g tc te ρ0 ok xs (Ι++[d]) M2 k) lD
  | false=>i0 g tc te ρ0 ok xs Ι M1 k) lD
def BC(n:Nat)(ti:DK)(g:Dt->En->(En->Prop)->Prop)(tc:DT)(te:DE)(ah:List Nat):DE:=λρ M q x=>ti ρ M (λxs ok M1=>xs.length<=sizeLine/\i0 g tc te (List.replicate n none++qc ah ρ) ok xs [] M1 (λys M2=>q (.lst ys) M2)) x
theorem MV{K:fI}{G:Hp}{L:List Addr}{ρ:En}{σ os:St}{n:Nat}(h:lK K G L ρ σ)(ah:List Nat)(hl:os.length=n):lK K G L (List.replicate n none++qc ah ρ) (os++pG ah σ):=by
 have lc:(qc ah ρ).length=(pG ah σ).length:=by unfold qc pG;simp
 refine ⟨by rw [aag,aag,aa5,hl,lc],λi d' e=> ?_⟩;by_cases hi:i < n
 ·rw [aau (by rw [aa5];exact hi),abX,aaw hi] at e;cases e
 ·rw [aak (by rw [aa5];omega),aa5] at e;rw [aak (by omega),hl];unfold qc at e;unfold pG;rw [aao] at e⊢;cases q:ah[i - n]? with
  | none=>rw [q] at e;cases e
  | some j=>
   rw [q] at e;have e:(ρ[j]?).join=some d':=aaz e;have e:ρ[j]? =some (some d'):=by
    cases z:ρ[j]? with
    | none=>rw [z] at e;cases e
    | some o=>rw [z] at e;exact aaZ some e
   obtain ⟨v,hv,dn⟩:=h.gJ j d' e;exact ⟨v,by show some ((σ[j]?).join)=_;rw [hv];rfl,dn⟩
theorem AU{K:fI}{J:It}{gg:TG}{g:Dt->En->(En->Prop)->Prop}{tc:DT}{te:DE}{ah:List Nat}{nn:Nat}{ρ:En}{σ:St}{G1:Hp}{L1:List Addr}{M1:Ms}{H1:Hp}{xs:List Dt}{ok:Ms->Prop}{Dl:Addr}{Q:VK}{k:List Dt->Ms->Prop}(gd:GD K gg g)(r1:Rl K G1 L1 M1 H1)(n:lK K G1 L1 ρ σ)(y:Qd K J xs ok G1 L1)(hD:H1 Dl=none)(hz:xs.length<=sizeLine)
  (h:i0 g tc te (List.replicate nn none++qc ah ρ) ok xs [] M1 k)
  (fin:∀G2 L2 M2 H2 ds vs,Ex G1 L1 H1 G2 L2 H2->Rl K G2 L2 M2 H2->G2 Dl=none->Dl∉L2->H2 Dl=some (.lst vs)->Ψ K G2 L2 ds vs->k ds M2->Q (.ref Dl) H2):
  BX J nn gg (Fg K (λ_=>E0) tc) (zU K (λ_=>E0) te) (pG ah σ) Q H1 Dl:=by
 refine ⟨λi m ys H2=>m+i=xs.length/\H2 Dl=some (.lst ys)/\∃Ι G2 L2 M2,Ex G1 L1 H1 G2 L2 H2/\Rl K G2 L2 M2 H2/\G2 Dl=none/\Dl∉L2/\Ψ K G2 L2 Ι ys/\Ι.length<=i/\i0 g tc te (List.replicate nn none++qc ah ρ) ok (xs.drop i) Ι M2 k,⟨xs.length,rfl,au,[],G1,L1,M1, ?_⟩, ?_⟩
 ·have gn:G1 Dl=none:=r1.sub.free hD;refine ⟨⟨.refl _, .refl _,λ_ h _=>h,λb u h1 _=>by rw [Ξ (λz=>by rw [z,hD] at h1;cases h1)];exact h1,λ_ h=> .inl h,λb h=>by rw [Ξ (λz=>h (by rw [z];exact hD))];exact h⟩,⟨λb u e=>by rw [Ξ (λz=>by rw [z,gn] at e;cases e)];exact r1.sub b u e,r1.len,r1.nd,λi a m h1 h2=> ?_⟩,gn,r1.PJ hD,rfl,aai _,by rw [acw];exact h⟩;obtain ⟨q1,q2⟩:=r1.gJ i a m h1 h2;exact ⟨q1,q2.mono (.refl _) (.refl _) (Ξ λz=>q2.there (by rw [z];exact hD))⟩
 ·rintro i m ys H2 ⟨hm,KW,Ι,G2,L2,M2,e2,r2,g2,l2,n2,la,h2⟩;refine ⟨KW, ?_⟩;have ne1:∀{b:Addr} {u:HO},H1 b=some u->b≠Dl:=λe z=>by rw [z,hD] at e;cases e
  by_cases hi:i < xs.length
  ·right;have hd:xs[i]? =some xs[i]:=aaa hi;rw [abp hi] at h2;obtain ⟨bc,h2⟩:=h2;obtain ⟨go,yl⟩:=y.go i G2 L2 M2 H2 _ e2.g e2.l r2 bc hd;refine ⟨go,λv H3 hy os hos=> ?_⟩;obtain ⟨G3,e3,r3,n3⟩:=yl v H3 hy;have h3:H3 Dl=some (.lst ys):=e3.out _ _ KW l2;have g3:G3 Dl=none:=e3.fr _ g2 (by rw [KW];simp);refine gd G3 L2 M2 H3 _ v _ _ _ _ r3 n3 (MV ((n.mono e2).mono e3) ah hos) h2 λρ' σ' n' h'=> ?_;refine ⟨G3,L2,ρ',M2,_,lD,r3,n',h',Ke,λb H4 ⟨G4,L4,M4,e4,r4,h4⟩=> ?_⟩;have Vb:H4 Dl=some (.lst ys):=e4.out _ _ h3 l2;have g4:G4 Dl=none:=e4.fr _ g3 (by rw [h3];simp);have l4:Dl∉L4:=λz=>(e4.new _ z).elim l2 λq=>by rw [h3] at q;cases q
   have Vv:=e3.trans e4;cases b with
   | false=>
    exact ⟨m - 1,by omega,by omega,Vb,Ι,G4,L4,M4,e2.trans Vv,r4,g4,l4,Ψ.mono Vv.g Vv.l _ _ n2,by omega,h4⟩
   | true=>
    refine ⟨G4,L4,ρ',M4,_,lD,r4,n'.mono e4,h4,Ke,λv5 H5 ⟨d5,G5,L5,M5,e5,r5,n5,h5⟩=> ?_⟩;have h5':H5 Dl=some (.lst ys):=e5.out _ _ Vb l4;have g5:G5 Dl=none:=e5.fr _ g4 (by rw [Vb];simp);have l5:Dl∉L5:=λz=>(e5.new _ z).elim l4 λq=>by rw [Vb] at q;cases q
    have WH:=Vv.trans e5;have aaY:ys.length=Ι.length:=by rw [<-n2.length]
    refine ⟨h5',by omega,m - 1,by omega,by omega,au,Ι++[d5],G5,L5,M5, ?_, ?_,g5,l5,(Ψ.mono WH.g WH.l _ _ n2).app ⟨_,_,rfl,n5,rfl⟩,by rw [aag];show Ι.length+1<=i+1;omega,h5⟩
    ·have Ry:=e2.trans WH
     exact ⟨Ry.g,Ry.l,Ry.fr,λb u h1 h2=>by rw [Ξ (ne1 h1)];exact Ry.out b u h1 h2,Ry.new,λb h=>by
      by_cases hb:b=Dl
      ·rw [hb,au];simp
      ·rw [Ξ hb];exact Ry.EG b h⟩
    ·refine ⟨λb u e=>by rw [Ξ (λz=>by rw [z,g5] at e;cases e)];exact r5.sub b u e,r5.len,r5.nd,λi a m h1 h2=> ?_⟩;obtain ⟨q1,q2⟩:=r5.gJ i a m h1 h2;exact ⟨q1,q2.mono (.refl _) (.refl _) (Ξ λz=>l5 (by rw [<-z];exact aam h1))⟩
  ·left;rw [ab4 (by omega)] at h2;exact ⟨y.stop i G2 L2 M2 H2 e2.g e2.l r2 h2.1 (by omega),fin G2 L2 M2 H2 Ι ys e2 r2 g2 l2 KW n2 h2.2⟩
section
variable{K:fI}{G1:Hp}{L1:List Addr}{H1 G:Hp}{L:List Addr}{M:Ms}{H:Hp}{p:Addr}{ds:List Dt}{vs:List V}{q:DQ}
theorem Lv(e:Ex G1 L1 H1 G L H)(r:Rl K G L M H)(N0:H1 p=none)(hg:G p=none)(hl:p∉L)(h:H p=some (.lst vs))(n:Ψ K G L ds vs)(k:q (.lst ds) M):Fin K G1 L1 H1 q (.ref p) H:=by
 have g1:eC G (upd G p (.lst vs)):=λb u e=>by rw [Ξ (λz=>by rw [z,hg] at e;cases e)];exact e
 refine ⟨.lst ds,upd G p (.lst vs),L,M,⟨e.g.trans g1,e.l,λb h1 h2=> ?_,e.out,e.new,e.EG⟩,⟨λb u e=> ?_,r.len,r.nd,λk a m h1 h2=> ?_⟩,⟨p,vs,rfl,au,Ψ.mono g1 (.refl _) _ _ n⟩,k⟩
 ·rw [Ξ (λz=>h2 (by rw [z];exact N0))];exact e.fr b h1 h2
 ·by_cases hb:b=p
  ·rw [hb,au] at e;rw [hb];cases e;exact h
  ·rw [Ξ hb] at e;exact r.sub b u e
 ·obtain ⟨q1,q2⟩:=r.gJ k a m h1 h2;have hb:a≠p:=λz=>hl (by rw [<-z];exact aam h1);exact ⟨by rw [Ξ hb];exact q1,q2.mono g1 (.refl _) rfl⟩
theorem Lk(e:Ex G1 L1 H1 G L H)(r:Rl K G L M H)(N0:H1 p=none)(hg:G p=none)(hl:p∉L)(h:H p=some (.lst vs))(n:Ψ K G L ds vs)(k:q (.loc M.length) (M++[.lst ds])):Fin K G1 L1 H1 q (.ref p) H:=by
 refine ⟨.loc M.length,G,L++[p],M++[.lst ds],⟨e.g,e.l.trans ⟨[p],rfl⟩,e.fr,e.out,λb hb=> ?_,e.EG⟩,⟨r.sub,by rw [List.length_append,List.length_append,r.len];rfl,List.nodup_append.mpr ⟨r.nd,by simp,λa ha b hb=> ?_⟩,λk a m h1 h2=> ?_⟩,⟨p,rfl,by rw [<-r.len,List.getElem?_append_right (Nat.le_refl _)];simp⟩,k⟩
 ·rcases aaQ.mp hb with z | z
  ·exact e.new b z
  ·have e:b=p:=by simpa using z
   right;rw [e];exact N0
 ·have e:b=p:=by simpa using hb
  rw [e];exact λz=>hl (z▸ha)
 ·by_cases hk:k < L.length
  ·rw [aau hk] at h1;rw [aau (by rw [<-r.len];exact hk)] at h2;obtain ⟨q1,q2⟩:=r.gJ k a m h1 h2;exact ⟨q1,q2.mono (.refl _) ⟨[p],rfl⟩ rfl⟩
  ·have e:k=L.length:=by have:=(aaf.mp h1).1;rw [aag] at this;simp at this;omega
   rw [e,aak (aai _)] at h1;rw [e,r.len,aak (aai _)] at h2;simp at h1 h2;subst h1 h2;exact ⟨hg,vs,h,Ψ.mono (.refl _) ⟨[p],rfl⟩ _ _ n⟩
def U_(b:Bool)(q:DQ)(ys:List Dt)(M:Ms):Prop:=match b with
 | false=>q (.lst ys) M
 | true=>q (.loc M.length) (M++[.lst ys])
theorem Ez{b:Bool}(e:Ex G1 L1 H1 G L H)(r:Rl K G L M H)(N0:H1 p=none)(hg:G p=none)(hl:p∉L)(h:H p=some (.lst vs))(n:Ψ K G L ds vs)(k:U_ b q ds M):Fin K G1 L1 H1 q (.ref p) H:=by
 cases b
 ·exact Lv e r N0 hg hl h n k
 ·exact Lk e r N0 hg hl h n k
end
theorem jE{n i:Nat}(h:i < n):vX n (iR i):=λv os cs H Q hl hq=>⟨⟨os.set i (some v),by rw [abg];exact hl,abU _ _ (by omega)⟩,hq⟩
theorem uP{K:fI}{n i j:Nat}(h:i < n)(h':j < n):vX n (J2 K 2 (ni (iR i) (ni (iR j) IS))):=
 λv os cs H Q hl ⟨a,xs,e,s,l,v1,r,e1,v2,r2,e2,e3,q⟩=>⟨a,xs,e,s,l,v1,r,e1,v2,r2,e2,e3,⟨(os.set i (some v1)).set j (some v2),by simp [hl],by
  rw [abU _ _ (by omega),abU _ _ (by rw [abg];omega)]⟩,q⟩
section
variable{X:Cx}{elt iter tg:Expr}{xs:List Str}{scope:Scope}{pos:Pos}{ys:List Str}{ah:List Nat}
theorem iV{i:Nat}{x:Str}{px:Pos}(S:aK X scope xs ys ah)(h:xs[i]? =some x)(C:Addr)(s:Shared)(H:Hp)(fp:List Addr):PG (Cx.comp X (xs++ys) scope C s H fp) (.Name x px) (iR i):=by
 have hm:x∈xs:=aam h;have hi:(xs++ys)[i]? =some x:=by rw [aau (aaf.mp h).1];exact h
 exact ar S.nd hi (.inl (lookup_relabel_local (S.own x hm))) (.inr (lookup_relabel_local (S.own x hm)))
theorem Er{x y:Str}{px py:Pos}{k:Nat}(hc:X.calm=true)(S:aK X scope [x,y] ys ah)(C:Addr)(s:Shared)(H:Hp)(fp:List Addr):PG (Cx.comp X ([x,y]++ys) scope C s H fp) (.Tuple [.Name x px, .Name y py] k pos) (J2 X.K 2 (ni (iR 0) (ni (iR 1) IS))):=
 om (X:=Cx.comp X ([x,y]++ys) scope C s H fp) hc (cR (iV S (i:=0) rfl C s H fp) (cR (iV S (i:=1) rfl C s H fp) kR))
end
def rK:DT:=λ_ M q _=>q true M
def WG(X:Cx)(cs:List Expr)(t:DT):Prop:=Vq X cs (Fg X.K (λ_=>E0) t)
theorem qL{X:Cx}:WG X [] rK:=⟨.inl rfl,λζ s σ H Q I ⟨G,L,ρ,M,q,x,r,n,h,hx,hQ⟩=>abe ⟨H,I,hQ true H ⟨G,L,M, .refl _ _ _,r,h⟩⟩⟩
theorem DO{X:Cx}{c:Expr}{t:DT}(h:JT X (λ_=>E0) c t):WG X [c] t:=⟨.inr ⟨c,rfl⟩,h⟩
def Om(b:Bool)(g:Dt->En->(En->Prop)->Prop)(tc:DT)(te:DE)(cs:En)(q:DQ):List Dt->(Ms->Prop)->Ms->Prop:=λzs ok M1=>zs.length<=sizeLine/\i0 g tc te cs ok zs [] M1 (U_ b q)
section
variable{X:Cx}{R:St->XK}{elt iter tg:Expr}{cs:List Expr}{xs:List Str}{scope:Scope}{pos:Pos}{gg:TG}{g:Dt->En->(En->Prop)->Prop}{ti:DK}{tc:DT}{te:DE}{ys:List Str}{ah:List Nat}(b:Bool)(S:aK X scope xs ys ah)(hi:JK X R tg iter ti)(hg:∀C s H fp,PG (Cx.comp X (xs++ys) scope C s H fp) tg gg)(gd:GD X.K gg g)(hk:vX xs.length gg)(ht:∀C s H fp,WG (Cx.comp X (xs++ys) scope C s H fp) cs tc)(he:∀C s H fp,JE (Cx.comp X (xs++ys) scope C s H fp) (λ_=>E0) elt te)(hc:X.calm=true)(hs:∀x,foldedSetIterable iter X.env x=pure x)
include S hi hg gd hk ht he hc hs
theorem Sv{t:DE}(e:∀ρ M q x,t ρ M q x->ti ρ M (Om b g tc te (List.replicate xs.length none++qc ah ρ) q) x):JE X R (.ListComp elt [⟨tg,iter,cs,0⟩] scope pos) t:=
 .of (KN (tc:=Fg X.K (λ_=>E0) tc) (te:=zU X.K (λ_=>E0) te) S hc hi hg hk ht he hs) λσ H G L ρ M q x rl n h hx=>⟨G,L,ρ,M,_,x,rl,n,e _ _ _ _ h,hx,λJ H1 ⟨xs,ok,G1,L1,M1,e1,r1,y,hz,h1⟩ D hD=>AU gd r1 (n.mono e1) y hD hz h1 λG2 L2 M2 H2 ds vs e2 r2 g2 l2 h2 n2 k=>Fin.back e1 (Ez e2 r2 hD g2 l2 h2 n2 k)⟩
theorem jcS{i:Nat}{y:Str}{py zm:Pos}(hN:X.N.Nodup)(UY:X.N[i]? =some y)(hy:Loc X.env.scope y)(Tv:swapsWith (.ListComp elt [⟨tg,iter,cs,0⟩] scope pos) (some (.Name y py)) zm.line X.env=pure true)(hf:X.fn y=true\/X.env.scope.names.lookup y=some .local){t:DE}(e:∀ρ M q x,t ρ M q x->ti ρ M (Om b g tc te (List.replicate xs.length none++qc ah ρ) q) x):
  JS X R (.Assign [.Name y py] (.ListComp elt [⟨tg,iter,cs,0⟩] scope pos) zm) (Nz i t):= .of (AO (tc:=Fg X.K (λ_=>E0) tc) (te:=zU X.K (λ_=>E0) te) hN UY hy S hc hi hg hk ht he Tv hs hf) λσ H G L ρ M Dn rl n h hx=>by
 refine ⟨G,L,ρ,M,_,_,rl,n,e _ _ _ _ h,hx,λJ H1 ⟨xs,ok,G1,L1,M1,e1,r1,y,hz,h1⟩ D hD=>AU gd r1 (n.mono e1) y hD hz h1 λG2 L2 M2 H2 ds vs e2 r2 g2 l2 h2 n2 k=> ?_⟩;obtain ⟨d,G3,L3,M3,e3,r3,n3,h3⟩:=Ez (q:=λd M=>Dn.nx (ρ.set i (some d)) M) e2 r2 hD g2 l2 h2 n2 k;exact ⟨_,G3,L3,M3,e1.trans e3,r3,((n.mono e1).mono e3).set i n3,h3⟩
end
def yG(te:DE)(cs:En):List Dt->List Dt->Ms->(List Dt->Ms->Prop)->Prop
 | [],Ι,M,k=>k Ι M
 | x::xs,Ι,M,k=>te (some x::cs) M (λd M1=>yG te cs xs (Ι++[d]) M1 k) lD
def IK(ti:DA)(te:DE)(ah:List Nat):DE:=λρ M q x=>ti ρ M (λxs M1=>xs.length<=sizeLine/\yG te (qc ah ρ) xs [] M1 (λys M2=>q (.lst ys) M2)) x
theorem DG{te:DE}{cs:En}:∀xs,yG te cs xs=i0 (gN 0) rK te (none::cs) (λ_=>True) xs
 | []=>funext λΙ=>funext λM=>funext λk=>(true_and _).symm
 | x::xs=>funext λΙ=>funext λM=>funext λk=>by show te (some x::cs) M (λd M1=>yG te cs xs (Ι++[d]) M1 k) lD=(True/\te (some x::cs) M (λd M1=>i0 (gN 0) rK te (none::cs) (λ_=>True) xs (Ι++[d]) M1 k) lD);rw [DG xs,true_and]
section
variable{X:Cx}{R:St->XK}{elt iter:Expr}{x:Str}{px:Pos}{scope:Scope}{pos:Pos}{ti:DA}{te:DE}{ys:List Str}{ah:List Nat}
theorem Iw(S:aK X scope [x] ys ah)(hi:JI X R (.Name x px) iter ti)(he:∀C s H fp,JE (Cx.comp X (x::ys) scope C s H fp) (λ_=>E0) elt te)(hc:X.calm=true:=by rfl)(hs:∀x,foldedSetIterable iter X.env x=pure x:=by intro _;rfl):JE X R (.ListComp elt [⟨.Name x px,iter,[],0⟩] scope pos) (IK ti te ah):=Sv false S (NY hi) (iV S (i:=0) rfl) aL (jE (Nat.zero_lt_succ 0)) (λ_ _ _ _=>qL) he hc hs λρ M q x h=>by unfold IK at h;simp only [DG] at h;exact h
end
theorem fin_same{K:fI}{G0:Hp}{L0:List Addr}{H0 G:Hp}{L:List Addr}{M:Ms}{H:Hp}{d:Dt}{v:V}{q:DQ}(e:Ex G0 L0 H0 G L H)(r:Rl K G L M H)(n:Den K G L d v)(h:q d M):Fin K G0 L0 H0 q v H:=⟨d,G,L,M,e,r,n,h⟩
theorem bw{K:fI}{G0:Hp}{L0:List Addr}{H0 G:Hp}{L:List Addr}{M:Ms}{H:Hp}{d:Dt}{v:V}{q:DQ}(e:Ex G0 L0 H0 G L H)(r:Rl K G L M H)(h:q d M)(n:Den K G L d v:=by rfl):Fin K G0 L0 H0 q v H:=⟨d,G,L,M,e,r,n,h⟩
def ql:Dt->Dt->Ms->DQ->Prop
 | .int i, .int j,M,q=>q (.int (i+j)) M
 | .str a, .str b,M,q=>a.length+b.length<=sizeLine/\q (.str (a++b)) M
 | .lst a, .lst b,M,q=>a.length+b.length<=sizeLine/\q (.lst (a++b)) M
 | .tup a, .tup b,M,q=>(a≠[]/\a.length+b.length<=sizeLine)/\q (.tup (a++b)) M
 | _,_,_,_=>False
def CP:Dt->Dt->Ms->DQ->Prop
 | .int i, .int j,M,q=>q (.int (i - j)) M
 | _,_,_,_=>False
def Ju:Dt->Dt->Ms->DQ->Prop
 | .int i, .int j,M,q=>(eP i/\eP j)/\q (.int (i * j)) M
 | .lst a, .int k,M,q=>(-(2 ^ 63)<=k/\k < 2 ^ 63/\a.length * k.toNat<=sizeLine)/\q (.lst (List.replicate k.toNat a).flatten) M
 | _,_,_,_=>False
def Pz:Dt->Dt->Ms->DQ->Prop
 | .int i, .int j,M,q=>(0 < j/\eP j)/\q (.int (i / j)) M
 | _,_,_,_=>False
def Eu:Dt->Dt->Ms->DQ->Prop
 | .int i, .int j,M,q=>(j≠0/\eP j)/\q (.int (i.fdiv j)) M
 | _,_,_,_=>False
def Nj:Dt->Dt->Ms->DQ->Prop
 | .int i, .int j,M,q=>0 < j/\q (.int (i % j)) M
 | _,_,_,_=>False
def Pt:Dt->Dt->Ms->DQ->Prop
 | .int i, .int j,M,q=>zI i j/\q (.int (i ^ j.toNat)) M
 | _,_,_,_=>False
def Po:Dt->Ms->DQ->Prop
 | .int i,M,q=>q (.int (-i)) M
 | _,_,_=>False
section
variable{K:fI}
theorem Zg:m_ K (λx y H Q=>(∃i j,x=V.int i/\y= .int j/\Q (.int (i+j)) H)\/(∃i j,x=V.str i/\y= .str j/\i.length+j.length<=sizeLine/\Q (.str (i++j)) H)\/Qx x y H Q\/Ox K x y H Q) ql:=by
 intro G0 L0 H0 G L M H v1 v2 d1 d2 q e r n1 n2 h;unfold ql at h;split at h
 ·rename_i i j;exact .inl ⟨i,j,n1,n2,bw e r h⟩
 ·rename_i a b;exact .inr (.inl ⟨a,b,n1,n2,h.1,bw e r h.2⟩)
 ·rename_i a b;obtain ⟨p1,w1,rfl,e1,m1⟩:=n1;obtain ⟨p2,w2,rfl,e2,m2⟩:=n2;refine .inr (.inr (.inl ⟨p1,p2,w1,w2,rfl,rfl,r.sub _ _ e1,r.sub _ _ e2,by rw [<-m1.length,<-m2.length];exact h.1,λp hp=> ?_⟩));exact kU e r hp (qI r hp (m1.app m2)) h.2
 ·rename_i a b;obtain ⟨p1,w1,rfl,e1,m1⟩:=n1;obtain ⟨p2,w2,rfl,e2,m2⟩:=n2;have ne:w1≠[]:=λz=>h.1.1 (by have:=m1.length;rw [z] at this;exact List.eq_nil_of_length_eq_zero this);refine .inr (.inr (.inr ⟨p1,p2,w1,w2,rfl,rfl, .inl (.inl (r.sub _ _ e1)), .inl (.inl (r.sub _ _ e2)),ne,by rw [<-m1.length,<-m2.length];exact h.1.2,λz=> ?_,λ_ p hp=> ?_⟩))
  ·have hb:b=[]:=by have:=m2.length;rw [z] at this;exact List.eq_nil_of_length_eq_zero this
   subst hb;rw [aa8] at h;exact fin_same (d:= .tup a) e r ⟨p1,w1,rfl,e1,m1⟩ h.2
  ·exact kU e r hp (qB r hp (m1.app m2)) h.2
 ·exact h.elim
theorem Wk:m_ K (G7 λi j=> .int (i - j)) CP:=by
 intro G0 L0 H0 G L M H v1 v2 d1 d2 q e r n1 n2 h;unfold CP at h;split at h
 ·exact ⟨_,_,n1,n2,bw e r h⟩
 ·exact h.elim
theorem WD:m_ K (λx y H Q=>(rI (λi j=>eP i/\eP j) λi j=> .int (i * j)) x y H Q\/QB x y H Q) Ju:=by
 intro G0 L0 H0 G L M H v1 v2 d1 d2 q e r n1 n2 h;unfold Ju at h;split at h
 ·exact .inl ⟨_,_,n1,n2,h.1,bw e r h.2⟩
 ·rename_i a k;obtain ⟨p1,w1,rfl,e1,m1⟩:=n1;refine .inr ⟨p1,k,w1,rfl,n2,r.sub _ _ e1,h.1.1,h.1.2.1,by rw [<-m1.length];exact h.1.2.2,λp hp=> ?_⟩;exact kU e r hp (qI r hp (.of (xK m1.pair k.toNat))) h.2
 ·exact h.elim
theorem V':m_ K (rI (λ_ j=>j≠0/\eP j) λi j=> .int (i.fdiv j)) Pz:=by
 intro G0 L0 H0 G L M H v1 v2 d1 d2 q e r n1 n2 h;unfold Pz at h;split at h
 ·rename_i i j;have h0:=h.1.1;refine ⟨_,_,n1,n2,⟨by omega,h.1.2⟩,fin_same (d:= .int (i.fdiv j)) e r rfl ?_⟩;rw [aca i (aaj h0)];exact h.2
 ·exact h.elim
theorem So:m_ K (rI (λ_ j=>j≠0/\eP j) λi j=> .int (i.fdiv j)) Eu:=by
 intro G0 L0 H0 G L M H v1 v2 d1 d2 q e r n1 n2 h;unfold Eu at h;split at h
 ·exact ⟨_,_,n1,n2,h.1,bw e r h.2⟩
 ·exact h.elim
theorem X4:m_ K (rI (λ_ j=>0 < j) λi j=> .int (i % j)) Nj:=by
 intro G0 L0 H0 G L M H v1 v2 d1 d2 q e r n1 n2 h;unfold Nj at h;split at h
 ·exact ⟨_,_,n1,n2,h.1,bw e r h.2⟩
 ·exact h.elim
theorem Ww:m_ K (rI zI λi j=> .int (i ^ j.toNat)) Pt:=by
 intro G0 L0 H0 G L M H v1 v2 d1 d2 q e r n1 n2 h;unfold Pt at h;split at h
 ·exact ⟨_,_,n1,n2,h.1,bw e r h.2⟩
 ·exact h.elim
theorem XN:Y1 K (rU λi=> .int (-i)) Po:=by
 intro G0 L0 H0 G L M H v1 d1 q e r n1 h;unfold Po at h;split at h
 ·exact ⟨_,n1,bw e r h⟩
 ·exact h.elim
end
section
variable{X:Cx}{R:St->XK}{a b c:Expr}{ta tb:DE}{pos:Pos}
theorem cc(ja:JE X R a ta)(jb:JE X R b tb):JE X R (.BinOp a .Add b pos) (jX ql ta tb):=wY (P5.or (CO.or (Jg.or LC))) Zg ja jb
theorem zP(ja:JE X R a ta)(jb:JE X R b tb):JE X R (.BinOp a .Sub b pos) (jX CP ta tb):=wY Q5 Wk ja jb
theorem av(ja:JE X R a ta)(jb:JE X R b tb):JE X R (.BinOp a .Mult b pos) (jX Ju ta tb):=wY (Mp.or Kg) WD ja jb
theorem jT(ja:JE X R a ta)(jb:JE X R b tb):JE X R (.BinOp a .FloorDiv b pos) (jX Pz ta tb):=wY zB V' ja jb
theorem BF(ja:JE X R a ta)(jb:JE X R b tb):JE X R (.BinOp a .FloorDiv b pos) (jX Eu ta tb):=wY zB So ja jb
theorem bO(ja:JE X R a ta)(jb:JE X R b tb):JE X R (.BinOp a .Mod b pos) (jX Nj ta tb):=wY PK X4 ja jb
theorem i_(ja:JE X R a ta)(jb:JE X R b tb):JE X R (.BinOp a .Pow b pos) (jX Pt ta tb):=wY P4 Ww ja jb
theorem R8(ja:JE X R a ta):JE X R (.UnaryOp .USub a pos) (Vu Po ta):=Yb Pk XN ja
end
def VN:Dt->Dt->Ms->DQ->Prop
 | .int i, .int j,M,q=>q (.bl (decide (i < j))) M
 | _,_,_,_=>False
def W8:Dt->Dt->Ms->DQ->Prop
 | .int i, .int j,M,q=>q (.bl (decide (i<=j))) M
 | _,_,_,_=>False
def W2:Dt->Dt->Ms->DQ->Prop
 | .int i, .int j,M,q=>q (.bl (decide (j < i))) M
 | _,_,_,_=>False
def XH:Dt->Dt->Ms->DQ->Prop
 | .int i, .int j,M,q=>q (.bl (decide (j<=i))) M
 | _,_,_,_=>False
def vp:Dt->Option V
 | .aU=>some .aU
 | .bl b=>some (.bl b)
 | .int i=>some (.int i)
 | .str x=>some (.str x)
 | _=>none
def gY:List Dt->Option (List V)
 | []=>some []
 | d::ds=>match vp d,gY ds with
  | some v,some vs=>some (v::vs)
  | _,_=>none
section
variable{K:fI}{G:Hp}{L:List Addr}
theorem kn{d:Dt}{v u:V}(h:vp d=some u)(n:Den K G L d v):v=u/\eR u=true:=by cases d <;> first | (cases h;exact ⟨n,rfl⟩) | cases h
theorem fq:∀{ds:List Dt} {vs us:List V},gY ds=some us->Ψ K G L ds vs->vs=us/\us.all eR=true
 | [],vs,us,h,n=>by cases h;exact ⟨n,rfl⟩
 | d::ds,_,us,h,⟨v,r,e,n1,n2⟩=>by
  subst e;unfold gY at h;split at h
  ·rename_i u1 u2 h1 h2;cases h;obtain ⟨a1,a2⟩:=kn h1 n1;obtain ⟨b1,b2⟩:=fq h2 n2;subst a1 b1;exact ⟨rfl,by rw [abY,a2,b2];rfl⟩
  ·cases h
end
def Cs:Dt->Dt->Ms->DQ->Prop
 | .int i, .int j,M,q=>q (.bl (decide (i=j))) M
 | .str i, .str j,M,q=>q (.bl (decide (i=j))) M
 | .bl i, .bl j,M,q=>q (.bl (decide (i=j))) M
 | .tup a, .tup b,M,q=>match gY a,gY b with
  | some us,some vs=>q (.bl (nF us vs)) M
  | _,_=>False
 | _,_,_,_=>False
def Lo:Dt->Dt->Ms->DQ->Prop
 | .int i, .int j,M,q=>q (.bl (!decide (i=j))) M
 | .str i, .str j,M,q=>q (.bl (!decide (i=j))) M
 | .bl i, .bl j,M,q=>q (.bl (!decide (i=j))) M
 | .tup a, .tup b,M,q=>match gY a,gY b with
  | some us,some vs=>q (.bl (!nF us vs)) M
  | _,_=>False
 | _,_,_,_=>False
def OL:Dt->Dt->Ms->DQ->Prop
 | .aU, .aU,M,q=>q (.bl true) M
 | .bl _, .aU,M,q=>q (.bl false) M
 | .int _, .aU,M,q=>q (.bl false) M
 | .str _, .aU,M,q=>q (.bl false) M
 | .tup _, .aU,M,q=>q (.bl false) M
 | .lst _, .aU,M,q=>q (.bl false) M
 | _,_,_,_=>False
section
variable{K:fI}
theorem ltD:m_ K (G7 λi j=> .bl (decide (i < j))) VN:=by
 intro G0 L0 H0 G L M H v1 v2 d1 d2 q e r n1 n2 h;unfold VN at h;split at h
 ·exact ⟨_,_,n1,n2,bw e r h⟩
 ·exact h.elim
theorem leD:m_ K (G7 λi j=> .bl (decide (i<=j))) W8:=by
 intro G0 L0 H0 G L M H v1 v2 d1 d2 q e r n1 n2 h;unfold W8 at h;split at h
 ·exact ⟨_,_,n1,n2,bw e r h⟩
 ·exact h.elim
theorem gtD:m_ K (G7 λi j=> .bl (decide (j < i))) W2:=by
 intro G0 L0 H0 G L M H v1 v2 d1 d2 q e r n1 n2 h;unfold W2 at h;split at h
 ·exact ⟨_,_,n1,n2,bw e r h⟩
 ·exact h.elim
theorem geD:m_ K (G7 λi j=> .bl (decide (j<=i))) XH:=by
 intro G0 L0 H0 G L M H v1 v2 d1 d2 q e r n1 n2 h;unfold XH at h;split at h
 ·exact ⟨_,_,n1,n2,bw e r h⟩
 ·exact h.elim
theorem k8{p q:Prop} [Decidable p] [Decidable q](h:p↔q):decide p=decide q:=decide_eq_decide.mpr h
theorem U2:m_ K (λx y H Q=>Zz x y H Q\/Ut K x y H Q) Cs:=by
 intro G0 L0 H0 G L M H v1 v2 d1 d2 q e r n1 n2 h;unfold Cs at h;split at h
 ·rename_i i j;cases n1;cases n2;exact .inl ⟨rfl,fin_same (d:= .bl _) e r (by show V.bl _=V.bl _;rw [k8 (p:=V.int i=V.int j) (q:=i=j) ⟨λz=>V.int.inj z,λz=>by rw [z]⟩]) h⟩
 ·rename_i i j;cases n1;cases n2;exact .inl ⟨rfl,fin_same (d:= .bl _) e r (by show V.bl _=V.bl _;rw [k8 (p:=V.str i=V.str j) (q:=i=j) ⟨λz=>V.str.inj z,λz=>by rw [z]⟩]) h⟩
 ·rename_i i j;cases n1;cases n2;exact .inl ⟨rfl,fin_same (d:= .bl _) e r (by show V.bl _=V.bl _;rw [k8 (p:=V.bl i=V.bl j) (q:=i=j) ⟨λz=>V.bl.inj z,λz=>by rw [z]⟩]) h⟩
 ·rename_i a b;obtain ⟨p1,w1,rfl,e1,m1⟩:=n1;obtain ⟨p2,w2,rfl,e2,m2⟩:=n2;split at h
  ·rename_i us vs h1 h2;obtain ⟨rfl,a2⟩:=fq h1 m1;obtain ⟨rfl,b2⟩:=fq h2 m2;exact .inr ⟨p1,p2,_,_,rfl,rfl, .inl (.inl (r.sub _ _ e1)), .inl (.inl (r.sub _ _ e2)),a2,b2,bw e r h⟩
  ·exact h.elim
 ·exact h.elim
theorem Yk:m_ K (λx y H Q=>rNe x y H Q\/SH K x y H Q) Lo:=by
 intro G0 L0 H0 G L M H v1 v2 d1 d2 q e r n1 n2 h;unfold Lo at h;split at h
 ·rename_i i j;cases n1;cases n2;exact .inl ⟨rfl,fin_same (d:= .bl _) e r (by show V.bl _=V.bl _;rw [k8 (p:=V.int i=V.int j) (q:=i=j) ⟨λz=>V.int.inj z,λz=>by rw [z]⟩]) h⟩
 ·rename_i i j;cases n1;cases n2;exact .inl ⟨rfl,fin_same (d:= .bl _) e r (by show V.bl _=V.bl _;rw [k8 (p:=V.str i=V.str j) (q:=i=j) ⟨λz=>V.str.inj z,λz=>by rw [z]⟩]) h⟩
 ·rename_i i j;cases n1;cases n2;exact .inl ⟨rfl,fin_same (d:= .bl _) e r (by show V.bl _=V.bl _;rw [k8 (p:=V.bl i=V.bl j) (q:=i=j) ⟨λz=>V.bl.inj z,λz=>by rw [z]⟩]) h⟩
 ·rename_i a b;obtain ⟨p1,w1,rfl,e1,m1⟩:=n1;obtain ⟨p2,w2,rfl,e2,m2⟩:=n2;split at h
  ·rename_i us vs h1 h2;obtain ⟨rfl,a2⟩:=fq h1 m1;obtain ⟨rfl,b2⟩:=fq h2 m2;exact .inr ⟨p1,p2,_,_,rfl,rfl, .inl (.inl (r.sub _ _ e1)), .inl (.inl (r.sub _ _ e2)),a2,b2,bw e r h⟩
  ·exact h.elim
 ·exact h.elim
theorem Xy:m_ K (λx y H Q=>y= .aU/\Q (.bl (decide (x= .aU))) H) OL:=by
 intro G0 L0 H0 G L M H v1 v2 d1 d2 q e r n1 n2 h;unfold OL at h;split at h
 ·cases n1;exact ⟨n2,fin_same (d:= .bl true) e r (by show V.bl _=V.bl _;rw [aaB rfl]) h⟩
 ·cases n1;exact ⟨n2,fin_same (d:= .bl false) e r (by show V.bl _=V.bl _;rw [aaI (λz=>nomatch z)]) h⟩
 ·cases n1;exact ⟨n2,fin_same (d:= .bl false) e r (by show V.bl _=V.bl _;rw [aaI (λz=>nomatch z)]) h⟩
 ·cases n1;exact ⟨n2,fin_same (d:= .bl false) e r (by show V.bl _=V.bl _;rw [aaI (λz=>nomatch z)]) h⟩
 ·obtain ⟨p1,w1,rfl,_⟩:=n1;exact ⟨n2,fin_same (d:= .bl false) e r (by show V.bl _=V.bl _;rw [aaI (λz=>nomatch z)]) h⟩
 ·obtain ⟨p1,w1,rfl,_⟩:=n1;exact ⟨n2,fin_same (d:= .bl false) e r (by show V.bl _=V.bl _;rw [aaI (λz=>nomatch z)]) h⟩
 ·exact h.elim
end
section
variable{X:Cx}{R:St->XK}{a b c:Expr}{ta tb:DE}{pos:Pos}
theorem IY(ja:JE X R a ta)(jb:JE X R b tb):JE X R (.Compare a [.Lt] [b] pos) (jX VN ta tb):=vq Oc ltD ja jb (gM _)
theorem yR(ja:JE X R a ta)(jb:JE X R b tb):JE X R (.Compare a [.LtE] [b] pos) (jX W8 ta tb):=vq Ta leD ja jb (gM _)
theorem YM(ja:JE X R a ta)(jb:JE X R b tb):JE X R (.Compare a [.GtE] [b] pos) (jX XH ta tb):=vq Tn geD ja jb (gM _)
theorem MT{k:Nat}(hr:bR k X.A)(ja:JE X R a ta)(jb:JE X R b tb):JE X R (.Compare a [.Eq] [b] pos) (jX Cs ta tb):=vq (NN.or (Hr hr.Cd)) U2 ja jb (gM _)
theorem uY(ja:JE X R a ta)(jb:JE X R b tb):JT X R (.Compare a [.Lt] [b] pos) (lP (jX VN ta tb)):=g9 Oc ltD ja jb (gM _)
theorem C9(ja:JE X R a ta)(jb:JE X R b tb):JT X R (.Compare a [.Gt] [b] pos) (lP (jX W2 ta tb)):=g9 Uy gtD ja jb (gM _)
theorem dj{k:Nat}(hr:bR k X.A)(ja:JE X R a ta)(jb:JE X R b tb):JT X R (.Compare a [.Eq] [b] pos) (lP (jX Cs ta tb)):=g9 (NN.or (Hr hr.Cd)) U2 ja jb (gM _)
theorem lJ{k:Nat}(hr:bR k X.A)(ja:JE X R a ta)(jb:JE X R b tb):JT X R (.Compare a [.NotEq] [b] pos) (lP (jX Lo ta tb)):=g9 (TQ.or (PU hr.Cd)) Yk ja jb (gM _)
theorem Q4(ja:JE X R a ta)(jb:JE X R b tb):JT X R (.Compare a [.Is] [b] pos) (lP (jX OL ta tb)):=g9 K0 Xy ja jb (gM _)
end
def fR(M:Ms):Dt->Option (List Dt)
 | .lst xs=>some xs
 | .tup xs=>some xs
 | .h_ ns=>some (ns.map .int)
 | .kt xs=>some xs
 | .loc k=>match M[k]? with
  | some (.lst xs)=>some xs
  | _=>none
 | _=>none
theorem nV{K:fI}{G:Hp}{L:List Addr}{M:Ms}{H:Hp}{d:Dt}{v:V}{xs:List Dt}(r:Rl K G L M H)(n:Den K G L d v)(h:fR M d=some xs):∃a vs,v= .ref a/\(gF K H a vs\/nR K H a vs)/\Ψ K G L xs vs:=by
 cases d with
 | lst ds=>cases h;obtain ⟨a,vs,rfl,e,m⟩:=n;exact ⟨a,vs,rfl, .inl (.of (r.sub _ _ e)),m⟩
 | tup ds=>cases h;obtain ⟨a,vs,rfl,e,m⟩:=n;exact ⟨a,vs,rfl, .inr (.of (r.sub _ _ e)),m⟩
 | kt ds=>cases h;obtain ⟨a,vs,rfl,e,m⟩:=n;exact ⟨a,vs,rfl, .inr (r.sub.SA e),m⟩
 | h_ ns=>cases h;obtain ⟨a,rfl,e⟩:=n;exact ⟨a,_,rfl, .inl (r.sub.seq e),iW⟩
 | loc k=>
  obtain ⟨a,rfl,e⟩:=n;have h:(match M[k]? with | some (.lst xs)=>some xs | _=>none)=some xs:=h;split at h
  ·rename_i ys hm;cases h;obtain ⟨_,vs,e1,m1⟩:=r.gJ k a _ e hm;exact ⟨a,vs,rfl, .inl (.of e1),m1⟩
  ·cases h
 | _=>cases h
theorem LN{K:fI}{G:Hp}{L:List Addr}{ds:List Dt}{vs:List V}{i:Int}{d:Dt}(n:Ψ K G L ds vs)(h:mw ds i=some d):∃v,mw vs i=some v/\Den K G L d v:=by
 unfold mw at h⊢;rw [<-n.length];cases q:Hu ds.length i with
 | none=>rw [q] at h;cases h
 | some j=>
  rw [q] at h;obtain ⟨v,e,m⟩:=n.get h;exact ⟨v,e,m⟩
def cj:Dt->Dt->Ms->DQ->Prop
 | .str z, .int i,M,q=>z.length<=sizeLine/\match mw z.cps.toList i with
  | some c=>q (.str ⟨#[c]⟩) M
  | none=>False
 | d, .int i,M,q=>match fR M d with
  | some xs=>(match mw xs i with
   | some y=>q y M
   | none=>False)
  | none=>False
 | _,_,_,_=>False
def gh:List Dt->Ms->DQ->Prop
 | [.str z],M,q=>z.length<=sizeLine/\q (.int z.length) M
 | [d],M,q=>match fR M d with
  | some xs=>q (.int xs.length) M
  | none=>False
 | _,_,_=>False
section
variable{K:fI}
theorem ixD:m_ K (rIx K) cj:=by
 intro G0 L0 H0 G L M H v1 v2 d1 d2 q e r n1 n2 h;unfold cj at h;split at h
 ·rename_i z i;split at h
  ·rename_i c hc;exact .inr (.inr ⟨z,i,c,n1,n2,h.1,hc,bw e r h.2⟩)
  ·exact h.2.elim
 ·rename_i d i _;split at h
  ·rename_i xs hx;split at h
   ·rename_i y hy;obtain ⟨a,vs,rfl,hs,m⟩:=nV r n1 hx;obtain ⟨v,e1,m1⟩:=LN m hy;rcases hs with hs | hs
    ·exact .inl ⟨a,vs,i,v,rfl,n2,hs,e1,fin_same e r m1 h⟩
    ·exact .inr (.inl ⟨a,vs,i,v,rfl,n2,hs,e1,fin_same e r m1 h⟩)
   ·exact h.elim
  ·exact h.elim
 ·exact h.elim
theorem XA:EB K (λxs H Q=>(∃z,xs=[V.str z]/\z.length<=sizeLine/\Q (.int z.length) H)\/(∃p ys,xs=[V.ref p]/\(gF K H p ys\/nR K H p ys)/\Q (.int ys.length) H)) gh:=by
 intro G0 L0 H0 G L M H vs ds q e r n h;unfold gh at h;split at h
 ·rename_i z;obtain ⟨v,rfl,n1⟩:=bu n;cases n1;exact .inl ⟨z,rfl,h.1,bw e r h.2⟩
 ·rename_i d _;obtain ⟨v,rfl,n1⟩:=bu n;split at h
  ·rename_i xs hx;obtain ⟨a,ws,rfl,hs,m⟩:=nV r n1 hx;exact .inr ⟨a,ws,rfl,hs,fin_same (d:= .int xs.length) e r (by show V.int _=V.int _;rw [m.length]) h⟩
  ·exact h.elim
 ·exact h.elim
end
section
variable{X:Cx}{R:St->XK}{a b c:Expr}{ta tb:DE}{pos:Pos}
theorem Η(ja:JE X R a ta)(jb:JE X R b tb)(hs:v8 b:=by exact λ_ _=>rfl):JE X R (.Subscript a b pos) (jX cj ta tb):=RT OI ixD ja jb hs
variable{x:Str}{p:Pos}{e:Expr}{es:List Expr}{t:DA}{id T:String}{r:List V->Hp->VK->Prop}{f:List Dt->Ms->DQ->Prop}
theorem iu(hc:dY X (.builtin id) r)(cd:EB X.K r f)(hm:X.mg x=none)(hv:bootBuiltins x=some (.builtin id))(ha:JA X R (e::es) t)(hg:Gl X x:=by rfl)(hn:x≠"__name__":=by decide)(uH:(x==("__debug__":Str))=false:=by decide)
  (he:starEach (e::es) X.env=(false,eval e X.env)::starEach es X.env:=by rfl) (gy:(backTo pos (starEach es X.env)).any (·.1)=false:=by rfl):JE X R (.Call (.Name x p) (e::es) [] pos) (BS f t):=
 .of (Hy hc hg hm hv ha hn uH he gy) λσ H G L ρ M q x r n h hx=>Of cd r n h hx
theorem rC(hc:dY X (.type T) r)(cd:EB X.K r f)(hm:X.mg x=none)(hv:bootBuiltins x=some (.type T))(ha:JA X R (e::es) t)(hg:Gl X x:=by rfl)(hn:x≠"__name__":=by decide)(uH:(x==("__debug__":Str))=false:=by decide)
  (he:starEach (e::es) X.env=(false,eval e X.env)::starEach es X.env:=by rfl) (gy:(backTo pos (starEach es X.env)).any (·.1)=false:=by rfl):JE X R (.Call (.Name x p) (e::es) [] pos) (BS f t):=
 .of (G6 hc hg hm hv ha hn uH he gy) λσ H G L ρ M q x r n h hx=>Of cd r n h hx
theorem cq(hm:X.mg "len"=none)(ha:JA X R [e] t)(he:starEach [e] X.env=(false,eval e X.env)::starEach [] X.env:=by rfl)(gy:(backTo pos (starEach [] X.env)).any (·.1)=false:=by rfl)(hg:Gl X "len":=by rfl):JE X R (.Call (.Name "len" p) [e] [] pos) (BS gh t):=
 iu (v_.or xZ) XA hm PySem.boot_len ha hg (by decide) (by decide) he gy
end
section
variable{X:Cx}
theorem wa:dY X (.type "int") (λxs H Q=>∃x n,xs=[.str x]/\PySem.intText? x=some n/\x.length<=640/\Q (.int n) H):=by intro ζ s σ H xs us Q I rs h;obtain ⟨x,n,rfl,hn,hl,q⟩:=h;obtain ⟨w,rfl,u,rfl⟩:=kO rs;exact PySem.W.KIN.call_text hn hl ⟨.int n,H,I.tok _,⟨_,rfl⟩,q⟩
end
def An:List Dt->Ms->DQ->Prop
 | [.int i],M,q=>q (.int i) M
 | [.bl b],M,q=>q (.int (if b then 1 else 0)) M
 | [.str x],M,q=>x.length<=640/\match PySem.intText? x with
  | some n=>q (.int n) M
  | none=>False
 | _,_,_=>False
def P9:List Dt->Ms->DQ->Prop
 | [.int i],M,q=>q (.int (if i < 0 then -i else i)) M
 | _,_,_=>False
def J1:List Dt->Ms->DQ->Prop
 | [.int i, .int j],M,q=>q (.int (if j < i then j else i)) M
 | _,_,_=>False
def OQ:List Dt->Ms->DQ->Prop
 | [d],M,q=>∃bs:List Bool,fR M d=some (bs.map Dt.bl)/\(∀k,d≠ .kt k)/\(∀k,d≠ .tup k)/\q (.bl (bs.any id)) M
 | _,_,_=>False
def N_:Dt->Option Value
 | .aU=>some (.type "NoneType")
 | .bl _=>some (.type "bool")
 | .int _=>some (.type "int")
 | .str _=>some (.type "str")
 | .lst _=>some (.type "list")
 | .tup _=>some (.type "tuple")
 | _=>none
def U8:Dt->Option Value
 | .ty T=>some (.type T)
 | .ref C=>some (.ref C)
 | _=>none
section
variable{K:fI}
theorem vE{G:Hp}{L:List Addr}:∀{l:List Str},Ψ K G L (l.map Dt.str) (l.map V.str)
 | []=>rfl
 | _::_=>⟨_,_,rfl,rfl,vE⟩
theorem nM{G:Hp}{L:List Addr}:∀{bs:List Bool} {vs:List V},Ψ K G L (bs.map Dt.bl) vs->vs=bs.map V.bl
 | [],_,h=>h
 | b::bs,_,⟨v,r,e,h1,h2⟩=>by subst e;rw [nM h2,show v=V.bl b from h1];rfl
theorem Zx:EB K (λxs H Q=>((∃i,xs=[V.int i]/\Q (.int i) H)\/∃k,xs=[V.bl k]/\Q (.int (if k then 1 else 0)) H)\/∃x n,xs=[V.str x]/\PySem.intText? x=some n/\x.length<=640/\Q (.int n) H) An:=by
 intro G0 L0 H0 G L M H vs ds q e r n h;unfold An at h;split at h
 ·rename_i i;obtain ⟨v,rfl,n1⟩:=bu n;cases n1;exact .inl (.inl ⟨i,rfl,bw e r h⟩)
 ·rename_i i;obtain ⟨v,rfl,n1⟩:=bu n;cases n1;exact .inl (.inr ⟨i,rfl,bw e r h⟩)
 ·rename_i x;obtain ⟨v,rfl,n1⟩:=bu n;cases n1;split at h
  ·rename_i m hm;exact .inr ⟨x,m,rfl,hm,h.1,bw e r h.2⟩
  ·exact h.2.elim
 ·exact h.elim
theorem WZ:EB K (λxs H Q=>∃i,xs=[V.int i]/\Q (.int (if i < 0 then -i else i)) H) P9:=by
 intro G0 L0 H0 G L M H vs ds q e r n h;unfold P9 at h;split at h
 ·rename_i i;obtain ⟨v,rfl,n1⟩:=bu n;cases n1;exact ⟨i,rfl,bw e r h⟩
 ·exact h.elim
theorem Zy:EB K (λxs H Q=>∃i j,xs=[V.int i, .int j]/\Q (.int (if j < i then j else i)) H) J1:=by
 intro G0 L0 H0 G L M H vs ds q e r n h;unfold J1 at h;split at h
 ·rename_i i j;obtain ⟨v,u,rfl,n1,n2⟩:=gK n;cases n1;cases n2;exact ⟨i,j,rfl,bw e r h⟩
 ·exact h.elim
theorem YY:EB K (Sh K) OQ:=by
 intro G0 L0 H0 G L M H vs ds q e r n h;unfold OQ at h;split at h
 ·rename_i d;obtain ⟨bs,hs,nk,nt,h⟩:=h;obtain ⟨v,rfl,n1⟩:=bu n;cases d with
  | lst xs=>
   cases hs;obtain ⟨a,ws,rfl,e1,m⟩:=n1;exact ⟨a,bs,rfl,by rw [<-nM m];exact .of (r.sub _ _ e1),bw e r h⟩
  | loc k=>
   obtain ⟨a,rfl,e1⟩:=n1;have hs:(match M[k]? with | some (.lst xs)=>some xs | _=>none)=some (bs.map Dt.bl):=hs;split at hs
   ·rename_i ys hm;cases hs;obtain ⟨_,ws,e2,m⟩:=r.gJ k a _ e1 hm;exact ⟨a,bs,rfl,by rw [<-nM m];exact .of e2,bw e r h⟩
   ·cases hs
  | tup xs=>exact aaK rfl (nt xs)
  | kt xs=>exact aaK rfl (nk xs)
  | h_ ns=>
   have e0:ns.map Dt.int=bs.map Dt.bl:=aaz hs;cases ns with
   | nil=>
    cases bs with
    | nil=>obtain ⟨a,rfl,e1⟩:=n1;exact ⟨a,[],rfl,r.sub.seq e1,bw e r h⟩
    | cons _ _=>cases e0
   | cons _ _=>
    cases bs with
    | nil=>cases e0
    | cons _ _=>cases e0
  | _=>cases hs
 ·exact h.elim
theorem FX{G:Hp}{L:List Addr}{M:Ms}{H:Hp}{d:Dt}{v:V}{t:Value}(r:Rl K G L M H)(n:Den K G L d v)(h:N_ d=some t):lq K H v t:=by
 cases d with
 | aU=>cases h;cases n;exact .aU
 | bl b=>cases h;cases n;exact .bl _
 | int i=>cases h;cases n;exact .int _
 | str x=>cases h;cases n;exact .str _
 | lst xs=>cases h;obtain ⟨a,ws,rfl,e,_⟩:=n;exact .lst (r.sub _ _ e)
 | tup xs=>cases h;obtain ⟨a,ws,rfl,e,_⟩:=n;exact .tup (r.sub _ _ e)
 | _=>cases h
theorem L7{G:Hp}{L:List Addr}{d:Dt}{v:V}{t:Value}(n:Den K G L d v)(h:U8 d=some t):LK v=some t:=by
 cases d with
 | ty T=>cases n;exact h
 | ref C=>cases n;exact h
 | _=>cases h
end
section
variable{X:Cx}{R:St->XK}{o a e e1 e2:Expr}{es:List Expr}{to ta te:DE}{t:DA}{name:Str}{apos c8 pos p p2:Pos}{T id:String}
theorem vO:bootBuiltins "int"=some (.type "int"):=by decide+kernel
theorem Gg:bootBuiltins "abs"=some (.builtin "abs"):=by decide+kernel
theorem Gq:bootBuiltins "any"=some (.builtin "any"):=by decide+kernel
theorem FY:bootBuiltins "min"=some (.builtin "min"):=by decide+kernel
theorem oI:bootBuiltins "isinstance"=some (.builtin "isinstance"):=by decide+kernel
theorem C7:bootBuiltins "bool"=some (.type "bool"):=by decide+kernel
theorem yL:bootBuiltins "tuple"=some (.type "tuple"):=by decide+kernel
theorem rA:bootBuiltins "list"=some (.type "list"):=by decide+kernel
theorem Ma{x:Str}{T:String}(hm:X.mg x=none)(hv:bootBuiltins x=some (.type T))(hg:Gl X x:=by rfl)(hn:x≠"__name__":=by decide)(hd:(x==("__debug__":Str))=false:=by decide):JE X R (.Name x p) (dC (.ty T)):=Q7 (ND (v:= .ty T) hg hm hv rfl hn hd) λ_ _=>rfl
theorem rG{x:Str}{z:Int}(hm:∃tk,X.mg x=some (.int z tk))(hg:Gl X x:=by rfl)(hd:(x==("__debug__":Str))=false:=by decide):JE X R (.Name x p) (dC (.int z)):=let ⟨tk,hm⟩:=hm;Q7 (DN (v:= .int z) hg hm ⟨tk,rfl⟩ hd) λ_ _=>rfl
end
def U'(x:Str):It:=⟨λi _=>i < x.cps.size,λi H v H'=>H'=H/\∃c,x.cps[i]? =some c/\v= .str ⟨#[c]⟩,λi _=>x.cps.size<=i⟩
theorem Ft{P:Program}{w:World}{K:fI}{tg:Expr}(x:Str)(t:Tok)(it:Addr):Turn P w K tg (U' x) [it] it (λi h=>h.IsStrIter it "str_ascii_iterator" x t i) where
 mem:=by simp
 obj:=λi h st b hb=>by
  have e:b=it:=by simpa using hb
  subst e;obtain ⟨o,e,c,d⟩:=st;exact ⟨o,e,λv z=>by rw [d] at z;cases z⟩
 keep:=λi h h' st k=>let ⟨o,ho,r⟩:=st;⟨o,k it (by simp) o ho,r⟩
 item:=by intro X hP hw hK hc i ζ s σ H E I hf st hg;subst hP hw hK;obtain ⟨f0,f1,f2,f3,f4,f5⟩:=hf it (by simp);have hg:i < x.cps.size:=hg;refine wpAny_pyNext_ascii_item st (c:=x.cps[i]) (by simp [hg]) λh' yd sb=> ?_;have I1:Inv X ζ σ H {s with heap:=h',toks:=s.toks+1}:=I.turned (λb o hb e=>(sb.2 b hb).trans e) f0 f1 f3 f4 f5;obtain ⟨o,e,c,d⟩:=id yd;exact ⟨_,rfl,u6 (s:={s with heap:=h',toks:=s.toks+1}) e c d (by decide) ⟨.str ⟨#[x.cps[i]]⟩,H,I1,⟨_,rfl⟩,⟨rfl,_,by simp [hg],rfl⟩,yd,λb hb=>(hf b hb).1⟩⟩
 done:=by intro X hP hw hK hc i ζ s σ H E I hf st hg;subst hP hw hK;obtain ⟨f0,f1,f2,f3,f4,f5⟩:=hf it (by simp);have hg:x.cps.size<=i:=hg;exact wpAny_pyNext_ascii_end (I.ok.hd hc) st (by simp;omega) λh' eb=>⟨rfl,I.turned (t':=s.toks) (λb o hb e=>eb b o hb e) f0 f1 f3 f4 f5⟩
 self:=λ_ _ _ _ _ st h=>wpAny_pyIter_striter_ascii st h
theorem E9{P:Program}{w:World}{K:fI}{tg:Expr}(x:Str)(t:Tok)(it:Addr):Turn P w K tg (U' x) [it] it (λi h=>h.IsStrIter it "str_iterator" x t i) where
 mem:=by simp
 obj:=λi h st b hb=>by
  have e:b=it:=by simpa using hb
  subst e;obtain ⟨o,e,c,d⟩:=st;exact ⟨o,e,λv z=>by rw [d] at z;cases z⟩
 keep:=λi h h' st k=>let ⟨o,ho,r⟩:=st;⟨o,k it (by simp) o ho,r⟩
 item:=by intro X hP hw hK hc i ζ s σ H E I hf st hg;subst hP hw hK;obtain ⟨f0,f1,f2,f3,f4,f5⟩:=hf it (by simp);have hg:i < x.cps.size:=hg;refine wpAny_pyNext_wide_item st (c:=x.cps[i]) (by simp [hg]) λh' yd sb=> ?_;have I1:Inv X ζ σ H {s with heap:=h',toks:=s.toks+1}:=I.turned (λb o hb e=>(sb.2 b hb).trans e) f0 f1 f3 f4 f5;obtain ⟨o,e,c,d⟩:=id yd;exact ⟨_,rfl,u6 (s:={s with heap:=h',toks:=s.toks+1}) e c d (by decide) ⟨.str ⟨#[x.cps[i]]⟩,H,I1,⟨_,rfl⟩,⟨rfl,_,by simp [hg],rfl⟩,yd,λb hb=>(hf b hb).1⟩⟩
 done:=by intro X hP hw hK hc i ζ s σ H E I hf st hg;subst hP hw hK;obtain ⟨f0,f1,f2,f3,f4,f5⟩:=hf it (by simp);have hg:x.cps.size<=i:=hg;exact wpAny_pyNext_wide_end (I.ok.hd hc) st (by simp;omega) λh' eb=>⟨rfl,I.turned (t':=s.toks) (λb o hb e=>eb b o hb e) f0 f1 f3 f4 f5⟩
 self:=λ_ _ _ _ _ st h=>wpAny_pyIter_striter_wide st h
def xM(z:Str):List Dt:=z.cps.toList.map λc=>Dt.str ⟨#[c]⟩
theorem Q_{K:fI}{G:Hp}{L:List Addr}{z:Str}:Yl K (U' z) (xM z) G L where
 go :=λi G1 L1 M1 H1 d g l r e=>by
  unfold xM at e;rw [aao] at e;cases q:z.cps.toList[i]? with
  | none=>rw [q] at e;cases e
  | some c=>
   rw [q] at e;cases e;have hi:i < z.cps.size:=by have:=(aaf.mp q).1;simpa using this
   refine ⟨hi,λv' H' ⟨eH,c',e',y⟩=> ?_⟩;subst eH y;have:c'=c:=by rw [<-Array.getElem?_toList,q] at e';exact (aaz e').symm
   subst this;exact ⟨G1, .refl _ _ _,r,rfl⟩
 stop:=λi G1 L1 M1 H1 g l r e=>by unfold xM at e;show z.cps.size<=i;simpa using e
def To(M:Ms):Dt->Option (List Dt)
 | .lst xs=>some xs
 | .tup xs=>some xs
 | .h_ ns=>some (ns.map .int)
 | .kt xs=>some xs
 | .str z=>some (xM z)
 | _=>none
section
variable{X:Cx}{R:St->XK}{tg e:Expr}{te:DE}
theorem x'{ζ:List (Addr×Obj)}{σ:St}{H:Hp}{s:Shared}{a:Addr}{vs:List V}{Q:It->Hp->Prop}{E:Value->Shared->Prop}(I:Inv X ζ σ H s)(hq:gF X.K H a vs)(q:Q (VP X.K a) H):wpAny (model X.prog X.w) X.A (pyIter (.ref a)) (K_ X ζ σ tg Q) E s:=by
 obtain ⟨its,rv,p,hz⟩:=I.list hq;refine wpAny_pyIter_list p.isList ?_;refine ⟨s.heap.objs.size,[s.heap.objs.size],_,_,H,rfl,I.kept (t':=s.toks) λb o e=>aal _ e,EV a _,⟨_,aaR _ rfl,rfl,rfl⟩,λb hb=> ?_,q⟩;have e:b=s.heap.objs.size:=by simpa using hb
 subst e;exact I.Cn (aai _) (I.bc.fresh (aai _))
theorem Jb{ζ:List (Addr×Obj)}{σ:St}{H:Hp}{s:Shared}{a:Addr}{vs:List V}{Q:It->Hp->Prop}{E:Value->Shared->Prop}(I:Inv X ζ σ H s)(hq:nR X.K H a vs)(q:Q (YO X.K a) H):wpAny (model X.prog X.w) X.A (pyIter (.ref a)) (K_ X ζ σ tg Q) E s:=by
 obtain ⟨its,rv,p,hz⟩:=I.tuple hq;refine wpAny_pyIter_tuple (show s.heap.IsTuple a its.toArray from p) ?_;refine ⟨s.heap.objs.size,[s.heap.objs.size],_,_,H,rfl,I.kept (t':=s.toks) λb o e=>aal _ e,CM a _,⟨_,aaR _ rfl,rfl,rfl⟩,λb hb=> ?_,q⟩;have e:b=s.heap.objs.size:=by simpa using hb
 subst e;exact I.Cn (aai _) (I.bc.fresh (aai _))
theorem QK{ζ:List (Addr×Obj)}{σ:St}{H:Hp}{s:Shared}{z:Str}{t:Tok}{Q:It->Hp->Prop}{E:Value->Shared->Prop}(I:Inv X ζ σ H s)(q:Q (U' z) H):wpAny (model X.prog X.w) X.A (pyIter (.str z t)) (K_ X ζ σ tg Q) E s:=by
 have fp:∀b∈[s.heap.objs.size],rq X ζ H b:=λb hb=>by
  have e:b=s.heap.objs.size:=by simpa using hb
  subst e;exact I.Cn (aai _) (I.bc.fresh (aai _))
 cases ha:z.cps.all (· < 128)
 ·exact wpAny_pyIter_wide ha ⟨s.heap.objs.size,[s.heap.objs.size],_,_,H,rfl,I.kept (t':=s.toks) λb o e=>aal _ e,E9 z t _,⟨_,aaR _ rfl,rfl,rfl⟩,fp,q⟩
 ·exact wpAny_pyIter_ascii ha ⟨s.heap.objs.size,[s.heap.objs.size],_,_,H,rfl,I.kept (t':=s.toks) λb o e=>aal _ e,Ft z t _,⟨_,aaR _ rfl,rfl,rfl⟩,fp,q⟩
end
def Qe:DF:=λds _ q _=>∃ns:List Int,ds=[.h_ ns]/\ns.length<=63/\∀M',q (.bl true) M'
def z5(K:fI):Sp:=λvs H Q _=>∃(a:Addr) (ns:List Int),vs=[.ref a]/\gF K H a (ns.map V.int)/\ns.length<=63/\∀H',Q (.bl true) H'
theorem QH{P:Program}{w:World}{K:fI}{mg:Str->Option Value}{base:Heap}{k:Nat}{f:Addr}{fd:FuncData}{x:Str}(F:aj P w K mg base (b9 P w) k f fd [x] (cJ K Qe)):aj P w K mg base VQ k f fd [x] (z5 K):=by
 have sp:∀vs H Q E,z5 K vs H Q E->cJ K Qe vs H Q E0:=by rintro vs H Q E ⟨a,ns,rfl,hS,hl,hQ⟩;refine ⟨H,[],[.h_ ns],[],λd _=>d= .bl true,λ_ _ _=>False,⟨.refl _,rfl,List.nodup_nil,λk a m h=>by simp at h⟩,⟨_,_,rfl,⟨a,rfl,hS⟩,rfl⟩,⟨ns,rfl,hl,λ_=>rfl⟩,λv H' ⟨d,G',L',M',_,_,n,e⟩=> ?_,λ_ _ _ _ _ _ _ h=>h.elim⟩;subst e;rw [show v=V.bl true from n];exact hQ H'
 refine ⟨λvs H Q E h=>F.len vs H Q E0 (sp vs H Q E h),λA outer s H args us vs Q E hr he hb hv h=>codeAny_mono (F.run A outer s H args us vs Q E0 hr he hb hv (sp vs H Q E h)) λr s' hq=> ?_⟩;cases r with
 | error e=>
  obtain ⟨_,_,_,_,_,_,_,_,hE⟩:=hq;exact hE.elim
 | ok fl=>cases fl <;> exact hq
def QE(c:DT)(tb:DS):DS:=λDn ρ M=>∃W:Nat->En->Ms->Prop,(∃m,W m ρ M)/\∀m ρ M,W m ρ M->
 c ρ M (λb M1=>(b=true->∃N:En->Ms->Prop,(∀ρ' M',N ρ' M'->∃m',m' < m/\W m' ρ' M')/\tb {Dn with nx:=N,ct:=N,bk:=Dn.nx} ρ M1)/\(b=false->Dn.nx ρ M1)) Dn.x
def YZ(i j:Nat)(t:DA):DS:=λDn ρ M=>t ρ M (λds M1=>match ds with
 | [a,b]=>Dn.nx ((ρ.set i (some a)).set j (some b)) M1
 | _=>False) Dn.x
section
variable{X:Cx}{R:St->XK}{c a b:Expr}{body:List Stmt}{tc:DT}{tb:DS}{pos:Pos}
theorem nz(hc:JT X R c tc)(hb:Bk X R body tb)(hp:PassesOwn (model X.prog X.w) X.A X.env X.xe:=by first | exact PassesOwn.never | exact PassesOwn.leaving):JS X R (.While c body [] pos) (QE tc tb):= .of (IZ hp hc hb) λσ H G L ρ M Dn rl n h hx=>by
 obtain ⟨W,⟨m0,w0⟩,turn⟩:=h;refine ⟨λm σ' H'=>fb X.K G L H (W m) σ' H',⟨m0,ρ,G,L,M, .refl _ _ _,rl,n,w0⟩,λm σ' H' ⟨ρ',G',L',M',e',r',n',w'⟩=> ?_⟩;refine ⟨G',L',ρ',M',_,_,r',n',turn m ρ' M' w',hx.on e',λv H1 ⟨G1,L1,M1,e1,r1,h1⟩=> ?_⟩;cases v with
 | true=>
  obtain ⟨N,hN,hb⟩:=h1.1 rfl;refine GK ⟨fb X.K G L H N,λσ2 H2 ⟨ρ2,G2,L2,M2,e2,r2,n2,h2⟩=> ?_, ?_⟩
  ·obtain ⟨m',hm,w2⟩:=hN ρ2 M2 h2;exact ⟨m',hm,ρ2,G2,L2,M2,e2,r2,n2,w2⟩
  ·have SQ:=e'.trans e1;exact ⟨G1,L1,ρ',M1,_,r1,n'.mono e1,hb,hx.on SQ,⟨λ_ _ f=>fb.back SQ f,λ_ _ f=>Fin.back SQ f,λ_ _ f=>fb.back SQ f,λ_ _ f=>fb.back SQ f⟩⟩
 | false=>exact Gw ⟨ρ',G1,L1,M1,e'.trans e1,r1,n'.mono e1,h1.2 rfl⟩
theorem JP{i j:Nat}{x y:Str}{t:DA}{px py pt:Pos}{kt k2 Q2}(hN:X.N.Nodup)(hi:X.N[i]? =some x)(hj:X.N[j]? =some y)(ha:JA X R [a,b] t)(Zt:i≠j:=by decide)
  (hx:X.env.scope.names.lookup x=some .local:=by rfl) (hy:X.env.scope.names.lookup y=some .local:=by rfl)
  (hw:swappedStores [.Tuple [.Name x px, .Name y py] kt pt] (.Tuple [a,b] k2 Q2) X.env=pure (some [x,y]):=by rfl) (hc:X.calm=true:=by rfl)
  (hs:swapsWithSole [.Tuple [.Name x px, .Name y py] kt pt] (.Tuple [a,b] k2 Q2) pos.line X.env=pure false:=by rfl):
  JS X R (.Assign [.Tuple [.Name x px, .Name y py] kt pt] (.Tuple [a,b] k2 Q2) pos) (YZ i j t):= .of (Pp hc hN hi hj Zt hx hy ha hw hs) λσ H G L ρ M Dn rl n h hx=>by
 refine ⟨G,L,ρ,M,_,_,rl,n,h,hx,λvs H1 ⟨ds,G1,L1,M1,e1,r1,n1,h1⟩=> ?_⟩
 (try dsimp only at h1)
 split at h1
 ·obtain ⟨v,u,rfl,m1,m2⟩:=gK n1;exact ⟨v,u,rfl,_,G1,L1,M1,e1,r1,((n.mono e1).set i m1).set j m2,h1⟩
 ·exact h1.elim
end
section
variable{X:Cx}{R:St->XK}{e e2 o:Expr}{es:List Expr}{t:DA}{to ta tb:DE}{a b:Expr}{p pos apos c8:Pos}
theorem DU(hm:X.mg "abs"=none)(ha:JA X R [e] t)(he:starEach [e] X.env=(false,eval e X.env)::starEach [] X.env:=by rfl)(gy:(backTo pos (starEach [] X.env)).any (·.1)=false:=by rfl)(hg:Gl X "abs":=by rfl):JE X R (.Call (.Name "abs" p) [e] [] pos) (BS P9 t):=
 iu JX WZ hm Gg ha hg (by decide) (by decide) he gy
theorem U9(hm:X.mg "min"=none)(ha:JA X R [e,e2] t)(hc:X.calm=true:=by rfl)(he:starEach [e,e2] X.env=(false,eval e X.env)::starEach [e2] X.env:=by rfl)(gy:(backTo pos (starEach [e2] X.env)).any (·.1)=false:=by rfl)(hg:Gl X "min":=by rfl):JE X R (.Call (.Name "min" p) [e,e2] [] pos) (BS J1 t):=
 iu (Gh hc) Zy hm FY ha hg (by decide) (by decide) he gy
theorem S2(hm:X.mg "any"=none)(ha:JA X R [e] t)(hc:X.calm=true:=by rfl)(he:starEach [e] X.env=(false,eval e X.env)::starEach [] X.env:=by rfl)(gy:(backTo pos (starEach [] X.env)).any (·.1)=false:=by rfl)(hg:Gl X "any":=by rfl):JE X R (.Call (.Name "any" p) [e] [] pos) (BS OQ t):=
 iu (J4 hc) YY hm Gq ha hg (by decide) (by decide) he gy
theorem Oj(hm:X.mg "int"=none)(ha:JA X R [e] t)(he:starEach [e] X.env=(false,eval e X.env)::starEach [] X.env:=by rfl)(gy:(backTo pos (starEach [] X.env)).any (·.1)=false:=by rfl)(hg:Gl X "int":=by rfl):JE X R (.Call (.Name "int" p) [e] [] pos) (BS An t):=
 rC (GX.or wa) Zx hm vO ha hg (by decide) (by decide) he gy
end
theorem ot{te:DE}{cs:En}{f:Dt->Dt}{M:Ms}{k:List Dt->Ms->Prop}:∀(xs Ι:List Dt),(∀x∈xs,∀q:DQ,q (f x) M->te (some x::cs) M q lD)->k (Ι++xs.map f) M->yG te cs xs Ι M k
 | [],Ι,_,h=>by rw [List.map_nil,aa8] at h;exact h
 | x::xs,Ι,ht,h=>ht x List.mem_cons_self _ (ot xs (Ι++[f x]) (λy hy=>ht y (List.mem_cons_of_mem _ hy)) (by simpa using h))
theorem Θ{d y:Dt}{xs:List Dt}{i:Int}{M:Ms}{q:DQ}(hs:fR M d=some xs)(h:mw xs i=some y)(k:q y M):cj d (.int i) M q:=by
 cases d with
 | str z=>cases hs
 | _=>
  unfold cj;simp only [hs,h];exact k
theorem aE{d:Dt}{xs:List Dt}{M:Ms}{q:DQ}(hs:fR M d=some xs)(k:q (.int xs.length) M):gh [d] M q:=by
 cases d with
 | str z=>cases hs
 | _=>
  unfold gh;simp only [hs];exact k
theorem bo{α:Type}{x:α}{xs:List α}:mw (x::xs) 0=some x:=Κ (j:=0) rfl
theorem Ha(bs:List Bool):(List.range bs.length).all (λi=>bs.getD i false)=bs.all id:=by
 induction bs with
 | nil=>rfl
 | cons b bs ih=>
  rw [aaC,abM,abY,List.all_map,abY,<-ih];rfl
def UD(K:fI):List V->Hp->VK->Prop:=λxs H Q=>∃(p:Addr) (bs:List Bool),xs=[.ref p]/\gF K H p (bs.map V.bl)/\Q (.bl (bs.all id)) H
section
variable{X:Cx}
theorem Jp (hc : X.calm = true) : dY X (.builtin "all") (UD X.K) := by
  intro ζ s σ H xs us Q I r h;obtain ⟨p, bs, rfl, hq, q⟩ := h;obtain ⟨u, rfl, r1⟩ := kO r;cases r1;obtain ⟨its, rv, pl, hz⟩ := I.list hq;have Rc := yi rv;subst Rc;refine call_all_walk (wpAny_pyIter_list pl.isList ?_);have lp : p < s.heap.objs.size := by obtain ⟨o, e, _⟩ := pl.isList; exact aas e
  refine ⟨s.heap.objs.size, _, _, _, _, _, λi => bs.getD i false, rfl, Walks.list (show X.A.in1.handled = none from I.ok.hd hc) s.heap.objs.size p (aaU lp) (bs.map Value.bool).toArray, ⟨⟨_, aaR _ rfl, rfl, rfl⟩, pl.isList.at λo e => aal _ e⟩, zu, λh' tk hk => ?_⟩;refine ⟨.bl (bs.all id), H, I.kept λb o e => hk b o (λz => by have : b = s.heap.objs.size := (by simpa using z); exact Nat.lt_irrefl _ (this ▸ Heap.lt_size e)) (Heap.get?_push_of_some _ e), ?_, q⟩;rw [aay, aad, Ha];rfl
end
def O7:List Dt->Ms->DQ->Prop
 | [.lst xs],M,q=>∃bs:List Bool,xs=bs.map Dt.bl/\q (.bl (bs.all id)) M
 | _,_,_=>False
theorem Zk{K:fI}:EB K (UD K) O7:=by
 intro G0 L0 H0 G L M H vs ds q e r n h;unfold O7 at h;split at h
 ·rename_i xs;obtain ⟨bs,rfl,h⟩:=h;obtain ⟨v,rfl,n1⟩:=bu n;obtain ⟨a,ws,rfl,e1,m⟩:=n1;exact ⟨a,bs,rfl,by rw [<-nM m];exact .of (r.sub _ _ e1),bw e r h⟩
 ·exact h.elim
def SJ(i j:Nat)(t:DE):DS:=λDn ρ M=>t ρ M (λd M1=>match d with
 | .tup [a,b]=>Dn.nx ((ρ.set i (some a)).set j (some b)) M1
 | _=>False) Dn.x
section
variable{X:Cx}{R:St->XK}{e o:Expr}{es:List Expr}{t:DA}{to te:DE}{p pos apos c8:Pos}
theorem Fi:bootBuiltins "all"=some (.builtin "all"):=by decide+kernel
theorem Tp(hm:X.mg "all"=none)(ha:JA X R [e] t)(hc:X.calm=true:=by rfl)(he:starEach [e] X.env=(false,eval e X.env)::starEach [] X.env:=by rfl)(gy:(backTo pos (starEach [] X.env)).any (·.1)=false:=by rfl)(hg:Gl X "all":=by rfl):JE X R (.Call (.Name "all" p) [e] [] pos) (BS O7 t):=
 iu (Jp hc) Zk hm Fi ha hg (by decide) (by decide) he gy
variable{i j k:Nat}{tg:Expr}
theorem Lg(he:JE X R e te)(hg:PG X tg (J2 X.K 2 (ni (iR i) (ni (iR j) IS))))(hs:swapsWithSole [tg] e pos.line X.env=pure false:=by rfl)(hw:swappedStores [tg] e X.env=pure none:=by rfl)
  (h1:(assignEach [tg] X.env).map (·.2)=[assign tg X.env]:=by rfl):JS X R (.Assign [tg] e pos) (SJ i j te):= .of (HI he hg hs hw h1) λσ H G L ρ M Dn rl n h hx=>by
 refine ⟨G,L,ρ,M,_,_,rl,n,h,hx,λv H1 ⟨d1,G1,L1,M1,e1,r1,n1,h1⟩=> ?_⟩
 (try dsimp only at h1)
 split at h1
 ·rename_i a b;obtain ⟨p,vs,rfl,e,m⟩:=n1;obtain ⟨v1,v2,rfl,m1,m2⟩:=gK m;exact ⟨p,_,rfl, .inl (.inl (r1.sub _ _ e)),rfl,v1,_,rfl,v2,_,rfl,rfl,_,G1,L1,M1,e1,r1,((n.mono e1).set i m1).set j m2,h1⟩
 ·exact h1.elim
end
mutual
def Dt.under(n:Nat):Dt->Prop
 | .aU=>True
 | .bl _=>True
 | .int _=>True
 | .str _=>True
 | .tup ds=>Dt.bK n ds
 | .lst ds=>Dt.bK n ds
 | .obj _ _ ds=>Dt.bK n ds
 | .loc k=>k < n
 | .ref _=>True
 | .ty _=>True
 | .h_ _=>True
 | .kt ds=>Dt.bK n ds
 | .exc _ _ ds=>Dt.bK n ds
 | .Ro _ _ _ _ ds=>Dt.bK n ds
def Dt.bK(n:Nat):List Dt->Prop
 | []=>True
 | d::ds=>Dt.under n d/\Dt.bK n ds
end
def MO.under(n:Nat):MO->Prop
 | .lst ds=>Dt.bK n ds
 | .ins _ _ ds=>Dt.bK n ds
 | .eO _ ds=>Dt.bK n ds
 | .raw _=>True
mutual
inductive Hg(n:Nat)(E:Ms):Dt->Dt->Prop
 | old {d:Dt} (h:d.under n):Hg n E d d
 | tup {ds es:List Dt} (h:jD n E ds es):Hg n E (.tup ds) (.tup es)
 | lst {ds es:List Dt} (h:jD n E ds es):Hg n E (.lst ds) (.lst es)
 | obj {C:Addr} {ns:List Str} {ds es:List Dt} (h:jD n E ds es):Hg n E (.obj C ns ds) (.obj C ns es)
 | KL {k:Nat} {ds es:List Dt} (hk:n<=k) (e:E[k - n]? =some (.lst ds)) (h:jD n E ds es):Hg n E (.loc k) (.lst es)
 | YX {k:Nat} {C:Addr} {ns:List Str} {ds es:List Dt} (hk:n<=k) (e:E[k - n]? =some (.ins C ns ds)) (h:jD n E ds es):Hg n E (.loc k) (.obj C ns es)
inductive jD(n:Nat)(E:Ms):List Dt->List Dt->Prop
 | nil:jD n E [] []
 | cons {d e:Dt} {ds es:List Dt} (h:Hg n E d e) (t:jD n E ds es):jD n E (d::ds) (e::es)
end
theorem jD.length{n:Nat}{E:Ms}:∀{ds es:List Dt},jD n E ds es->ds.length=es.length
 | [],es,h=>by cases h;rfl
 | d::ds,es,h=>by
  cases h with
  | cons h t=>rw [aaC,aaC,jD.length t]
theorem jD.old{n:Nat}{E:Ms}:∀{ds:List Dt},Dt.bK n ds->jD n E ds ds
 | [],_=> .nil
 | _::_,h=> .cons (.old h.1) (jD.old h.2)
section
variable{K:fI}{G G':Hp}{L0 t:List Addr}{n:Nat}
mutual
theorem ve(hn:L0.length=n)(g:eC G G'):∀(d:Dt) (v:V),d.under n->Den K G (L0++t) d v->Den K G' L0 d v
 | .aU,_,_,h=>h
 | .bl _,_,_,h=>h
 | .int _,_,_,h=>h
 | .str _,_,_,h=>h
 | .tup ds,_,u,⟨a,vs,e,h1,h2⟩=>⟨a,vs,e,g _ _ h1,bY hn g ds vs u h2⟩
 | .lst ds,_,u,⟨a,vs,e,h1,h2⟩=>⟨a,vs,e,g _ _ h1,bY hn g ds vs u h2⟩
 | .obj C ns ds,_,u,⟨a,dx,vs,e,h1,hl,h2⟩=>⟨a,dx,vs,e,g _ _ h1,hl,bY hn g ds vs u h2⟩
 | .loc k,_,u,⟨a,e,h1⟩=>⟨a,e,by
   have u:k < n:=u
   rwa [aau (by rw [hn];exact u)] at h1⟩
 | .ref _,_,_,h=>h
 | .ty _,_,_,h=>h
 | .h_ _,_,_,⟨a,e,h1⟩=>⟨a,e,g.seq h1⟩
 | .kt ds,_,u,⟨a,vs,e,h1,h2⟩=>⟨a,vs,e,g.SA h1,bY hn g ds vs u h2⟩
 | .exc _ _ ds,_,u,⟨a,od,vs,e,h1,h2,h3,h4⟩=>⟨a,od,vs,e,g _ _ h1,h2.imp (λz=>z) (λ⟨dx,z1,z2⟩=>⟨dx,z1,g _ _ z2⟩),h3,bY hn g ds vs u h4⟩
 | .Ro _ _ _ _ ds,_,u,⟨vs,e,h2,h3,h4⟩=>⟨vs,e,h2.imp (λz=>z) (λ⟨dx,z1,z2⟩=>⟨dx,z1,g _ _ z2⟩),h3,bY hn g ds vs u h4⟩
theorem bY(hn:L0.length=n)(g:eC G G'):∀(ds:List Dt) (vs:List V),Dt.bK n ds->Ψ K G (L0++t) ds vs->Ψ K G' L0 ds vs
 | [],_,_,h=>h
 | d::ds,_,u,⟨v,r,e,h1,h2⟩=>⟨v,r,e,ve hn g d v u.1 h1,bY hn g ds r u.2 h2⟩
end
theorem Fp{H:Hp}{a:Addr}(hn:L0.length=n)(g:eC G G'){m:MO}(u:m.under n)(h:Hi K G (L0++t) H a m):Hi K G' L0 H a m:=by
 cases m with
 | lst ds=>obtain ⟨vs,e,h⟩:=h;exact ⟨vs,e,bY hn g _ _ u h⟩
 | ins C ns ds=>obtain ⟨dx,vs,e,hl,h⟩:=h;exact ⟨dx,vs,e,hl,bY hn g _ _ u h⟩
 | eO ks ds=>obtain ⟨vs,e,hl,h⟩:=h;exact ⟨vs,e,hl,bY hn g _ _ u h⟩
 | raw u=>exact h
end
open Classical in
noncomputable def qt(G H:Hp)(t:List Addr):Hp:=λb=>if b∈t then H b else G b
theorem DH{G H:Hp}{t:List Addr}{b:Addr}(h:b∈t):qt G H t b=H b:=by unfold qt;rw [if_pos h]
theorem nc{G H:Hp}{t:List Addr}{b:Addr}(h:b∉t):qt G H t b=G b:=by unfold qt;rw [if_neg h]
section
variable{K:fI}{G:Hp}{L0 t:List Addr}{M0 E:Ms}{H:Hp}
theorem iS(r:Rl K G (L0++t) (M0++E) H):eC G (qt G H t):=λb u e=>by
 by_cases hb:b∈t
 ·obtain ⟨_,_,_,_,g,_⟩:=r.wQ (a:=b) (aaD _ hb);rw [g] at e;cases e
 ·rw [nc hb];exact e
theorem Jr(r:Rl K G (L0++t) (M0++E) H)(hn:L0.length=M0.length){k:Nat}{a:Addr}{m:MO}(hk:M0.length<=k)(e:(L0++t)[k]? =some a)(em:E[k - M0.length]? =some m):qt G H t a=H a/\Hi K G (L0++t) H a m:=by
 have e2:(M0++E)[k]? =some m:=by rw [aak hk];exact em
 obtain ⟨_,q⟩:=r.gJ k a m e e2;rw [aak (by rw [hn];exact hk)] at e;exact ⟨DH (aam e),q⟩
theorem LI(r:Rl K G (L0++t) (M0++E) H)(hn:L0.length=M0.length){d d':Dt}(f:Hg M0.length E d d'):∀v,Den K G (L0++t) d v->Den K (qt G H t) L0 d' v:=by
 refine Hg.rec (motive_1:=λd d' _=>∀v,Den K G (L0++t) d v->Den K (qt G H t) L0 d' v) (motive_2:=λds es _=>∀vs,Ψ K G (L0++t) ds vs->Ψ K (qt G H t) L0 es vs) ?_ ?_ ?_ ?_ ?_ ?_ ?_ ?_ f
 ·exact λ{d} u v h=>ve hn (iS r) d v u h
 ·exact λ{ds es} f ih v ⟨a,vs,e,h1,h2⟩=>⟨a,vs,e,iS r _ _ h1,ih vs h2⟩
 ·exact λ{ds es} f ih v ⟨a,vs,e,h1,h2⟩=>⟨a,vs,e,iS r _ _ h1,ih vs h2⟩
 ·exact λ{C ns ds es} f ih v ⟨a,dx,vs,e,h1,hl,h2⟩=>⟨a,dx,vs,e,iS r _ _ h1,hl.trans f.length,ih vs h2⟩
 ·intro k ds es hk em f ih v ⟨a,e,h1⟩;obtain ⟨o,vs,e1,h2⟩:=Jr r hn hk h1 em;exact ⟨a,vs,e,o.trans e1,ih vs h2⟩
 ·intro k C ns ds es hk em f ih v ⟨a,e,h1⟩;obtain ⟨o,dx,vs,e1,hl,h2⟩:=Jr r hn hk h1 em;exact ⟨a,dx,vs,e,o.trans e1,hl.trans f.length,ih vs h2⟩
 ·exact λvs h=>h
 ·exact λ{d e ds es} f t ih1 ih2 vs ⟨v,r,e,h1,h2⟩=>⟨v,r,e,ih1 v h1,ih2 r h2⟩
end
def WW(n:Nat)(q:DQ):DQ:=λd M=>∃M' E d',M=M'++E/\M'.length=n/\(∀m∈M',MO.under n m)/\Hg n E d d'/\q d' M'
theorem Fin.yv{K:fI}{G0:Hp}{L0:List Addr}{M0:Ms}{H0:Hp}{q:DQ}{v:V}{H:Hp}(r0:Rl K G0 L0 M0 H0)(f:Fin K G0 L0 H0 (WW M0.length q) v H):Fin K G0 L0 H0 q v H:=by
 obtain ⟨d,G,L,M,ex,r,dn,M',E,d',rfl,hl,hu,fz,hq⟩:=f;obtain ⟨t,rfl⟩:=ex.l;have hn:L0.length=M'.length:=by rw [hl];exact r0.len
 have dis:∀b,b∈L0->b∉t:=λb h1 h2=>(acu.mp r.nd).2.2 b h1 b h2 rfl;have sm:=iS r;refine ⟨d',qt G H t,L0,M',⟨ex.g.trans sm, .refl _,λb h1 h2=> ?_,ex.out,λb h=> .inl h,ex.EG⟩,⟨λb u e=> ?_,hn,(acu.mp r.nd).1,λk a m h1 h2=> ?_⟩,LI r hn (hl▸fz) v dn,hq⟩
 ·have hb:b∉t:=λz=>(ex.new b (aaD _ z)).elim (λy=>dis b y z) h2;rw [nc hb];exact ex.fr b h1 h2
 ·by_cases hb:b∈t
  ·rw [DH hb] at e;exact e
  ·rw [nc hb] at e;exact r.sub b u e
 ·have k1:k < L0.length:=(aaf.mp h1).1;have e1:(L0++t)[k]? =some a:=by rw [aau k1];exact h1
  have e2:(M'++E)[k]? =some m:=by rw [aau (by rw [<-hn];exact k1)];exact h2
  obtain ⟨g,q⟩:=r.gJ k a m e1 e2;exact ⟨by rw [nc (dis a (aam h1))];exact g,Fp (n:=M'.length) hn sm (by rw [hl];exact hu m (aam h2)) q⟩
section
variable{X:Cx}{R:St->XK}{e:Expr}{t:DE}
theorem gW{st:Stmt}:JS X R st (λ_ _ _=>False):=λ_ _ _ _ _ _ ⟨_,_,_,_,_,_,_,h,_,_⟩=>h.elim
end
def KU(C:Addr)(m:Str)(sp:Sp)(oa:List V)(R:St->XK)(ta:TE)(t:TA):TE:=λσ H Q=>ta σ H λx H1=>∃a dx fs,x= .ref a/\H1 a=some (.ins C dx fs)/\fs.lookup m=none/\
 t σ H1 λvs H2=>sp (x::(vs++oa)) H2 Q (R σ)
def OG(C:Addr)(sp:Sp)(oa:List V)(R:St->XK)(t:TA):TE:=λσ H Q=>t σ H λvs H1=>∀x dx,H1 x=none->H1 dx=none->dx≠x->
 sp (.ref x::(vs++oa)) (upd (upd H1 dx (.own x)) x (.ins C dx [])) (λv H2=>v= .aU/\Q (.ref x) H2) (R σ)
section
variable{X:Cx}{CX:A7}{k:Nat}{f C:Addr}{fd:FuncData}{ps:List Str}{sp:Sp}{oa:List V}{ds:List Value}{R:St->XK}{x m:Str}{p pos apos:Pos}{e o:Expr}{es:List Expr}{ta:TE}{t:TA}
theorem IA{pl:Sem Bool}(he:PE X o ta)(c:Ec X.K C)(hm:NG X.K C m f)(F:aj X.prog X.w X.K X.mg X.base CX k f fd ps sp)(hr:bR k X.A)(hb:iw X.K fd ps ds)(hd:aB oa ds)(hx:dI CX X R)(ha:PA X (e::es) t)
  (MY:starEach (e::es) X.env=(false,eval e X.env)::starEach es X.env:=by rfl) (gy:(backTo pos (starEach es X.env)).any (·.1)=false:=by rfl)
  (ht:eval (.Call (.Attribute o m apos) (e::es) [] pos) X.env=(do
   let ov<-eval o X.env
   standAt apos.atName
   let (f,first)<-holding [ov] (getMethod ov m pl)
   callWith pos f first (backTo pos (starEach (e::es) X.env)) (backToKw pos (keywordEach [] X.env))):=by rfl):
  PE X (.Call (.Attribute o m apos) (e::es) [] pos) (KU C m sp oa R ta t):=by
 intro ζ s σ H Q I h;refine PySem.W.methodCall_KW (pl:=pl) (bF (he ζ s σ H _ I h) λu s1 ⟨x,H1,I1,rx,a,dx,fs,ex,ea,l,q⟩=> ?_) ht;subst ex;obtain rfl:u=Value.ref a:=rx;refine sy I1 ea c hm l ?_;refine PySem.W.callWith_K (first:=[.ref a]) (h₀:=X.base) I.ok.mod.Sm hm.kp (bF (ha pos ζ s1 σ H1 _ I1 q) λus s2 ⟨vs,H2,I2,r,q2⟩=>⟨I2.pS, ?_⟩) MY gy;exact xj (us:= .ref a::us) (vs:= .ref a::vs) F hr hb hd hx I2 (.cons rfl r) q2
theorem EX{pl:Sem Bool}(he:PE X o ta)(c:Ec X.K C)(hm:NG X.K C m f)(F:aj X.prog X.w X.K X.mg X.base CX k f fd ps sp)(hr:bR k X.A)(hb:iw X.K fd ps ds)(hd:aB oa ds)(hx:dI CX X R)
  (ht:eval (.Call (.Attribute o m apos) [] [] pos) X.env=(do
   let ov<-eval o X.env
   standAt apos.atName
   let (f,first)<-holding [ov] (getMethod ov m pl)
   callWith pos f first (backTo pos (starEach [] X.env)) (backToKw pos (keywordEach [] X.env))):=by rfl):
  PE X (.Call (.Attribute o m apos) [] [] pos) (KU C m sp oa R ta UN):=by
 intro ζ s σ H Q I h;refine PySem.W.methodCall_KW (pl:=pl) (bF (he ζ s σ H _ I h) λu s1 ⟨x,H1,I1,rx,a,dx,fs,ex,ea,l,q⟩=> ?_) ht;subst ex;obtain rfl:u=Value.ref a:=rx;refine sy I1 ea c hm l ?_;exact PySem.W.callWith_K0 (first:=[.ref a]) I1.pS hm.kp (xj (us:=[.ref a]) (vs:=[.ref a]) F hr hb hd hx I1 (.cons rfl .nil) q)
theorem Gb{ζ:List (Addr×Obj)}{σ:St}{H:Hp}{s:Shared}{Q:VK}{us:List Value}{vs:List V}(M:Mk X.K C f)(F:aj X.prog X.w X.K X.mg X.base CX k f fd ps sp)(hr:bR (k+1) X.A)(hb:iw X.K fd ps ds)(hd:aB oa ds)
  (hx:dI CX X R) (I:Inv X ζ σ H s) (r:aB vs us)
  (h:∀x dx,H x=none->H dx=none->dx≠x->sp (.ref x::(vs++oa)) (upd (upd H dx (.own x)) x (.ins C dx [])) (λv H2=>v= .aU/\Q (.ref x) H2) (R σ)):
  wpAny (model X.prog X.w) X.A (call (.ref C) us) (EP X ζ σ Q) X.xe s:=by
 have hq:=h (s.heap.objs.size+1) s.heap.objs.size (I.bc.fresh (Nat.le_succ _)) (I.bc.fresh (aai _)) (aaU (abq _));have I2:=Inv.made (C:=C) I;have r2:aB (V.ref (s.heap.objs.size+1)::(vs++oa)) (Value.ref (s.heap.objs.size+1)::(us++ds)):= .cons rfl (r.append hd);have hl:(Value.ref (s.heap.objs.size+1)::us++ds).length=ps.length:=by have e:=r2.length;rw [F.len _ _ _ _ hq] at e;exact e.symm
 refine wpAny_call (IP (f:=f) I.pS M.makes M.init (abz.mp M.fn) (codeAny_mono (F.run _ X.stack _ _ ⟨Value.ref (s.heap.objs.size+1)::us,[]⟩ (Value.ref (s.heap.objs.size+1)::(us++ds)) _ _ (R σ) (hr.make C us [])
  (I2.UO.make C us []) (hb _ (Value.ref (s.heap.objs.size+1)::us) I2.pS hl) r2 hq) λr s' yw=> ?_))
 cases r with
 | error e=>exact hx ζ σ _ _ e s' I2 yw
 | ok fl=>
  cases fl with
  | ret u=>
   obtain ⟨v,H',I3,rv,ev,q3⟩:=I2.after yw;subst ev;exact ⟨rv,⟨V.ref (s.heap.objs.size+1),H',I3,rfl,q3⟩⟩
  | next=>exact False.elim yw
  | brk=>exact False.elim yw
  | cont=>exact False.elim yw
theorem J6(M:Mk X.K C f)(F:aj X.prog X.w X.K X.mg X.base CX k f fd ps sp)(hr:bR (k+1) X.A)(hg:Gl X x)(hm:X.mg x=some (.ref C))(hb:iw X.K fd ps ds)(hd:aB oa ds)(hx:dI CX X R)
  (ha:PA X (e::es) t) (uH:(x==("__debug__":Str))=false:=by decide) (he:starEach (e::es) X.env=(false,eval e X.env)::starEach es X.env:=by rfl) (gy:(backTo pos (starEach es X.env)).any (·.1)=false:=by rfl):
  PE X (.Call (.Name x p) (e::es) [] pos) (OG C sp oa R t):=by
 intro ζ s σ H Q I h;refine wpAny_Call_Name_kw (qu I hg hm ?_ uH);refine PySem.W.callWith_K (h₀:=X.base) I.ok.mod.Sm M.kp (bF (ha pos ζ s σ H _ I h) λus s1 ⟨vs,H1,I1,r,q⟩=>⟨I1.pS, ?_⟩) he gy;exact Gb M F hr hb hd hx I1 r q
end
def Pw(C:Addr)(M:Ms)(d:Dt)(ns:List Str)(ds:List Dt):Prop:=d= .obj C ns ds\/∃k,d= .loc k/\M[k]? =some (.ins C ns ds)
section
variable{K:fI}{G:Hp}{L:List Addr}{M:Ms}{H:Hp}{C:Addr}{d:Dt}{v:V}{ns:List Str}{ds:List Dt}
theorem HJ(r:Rl K G L M H)(n:Den K G L d v)(o:Pw C M d ns ds):∃a dx vs,v= .ref a/\H a=some (.ins C dx (ns.zip vs))/\ns.length=ds.length/\Ψ K G L ds vs:=by
 rcases o with rfl | ⟨k,rfl,hm⟩
 ·obtain ⟨a,dx,vs,e,h1,hl,h2⟩:=n;exact ⟨a,dx,vs,e,r.sub _ _ h1,hl,h2⟩
 ·obtain ⟨a,e,h1⟩:=n;obtain ⟨_,dx,vs,h2,hl,h3⟩:=r.gJ k a _ h1 hm;exact ⟨a,dx,vs,e,h2,hl,h3⟩
theorem y6{f:Str}:∀{ns:List Str} {ds:List Dt} {vs:List V} {d:Dt},Ψ K G L ds vs->(ns.zip ds).lookup f=some d->∃v,(ns.zip vs).lookup f=some v/\Den K G L d v
 | [],_,_,_,_,h=>by simp at h
 | _::_,[],_,_,_,h=>by simp at h
 | g::ns,d::ds,_,d',⟨v,r,rfl,h1,h2⟩,h=>by
  rw [abo,abr] at h;rw [abo,abr];cases q:f==g with
  | true=>rw [q] at h;cases h;exact ⟨v,rfl,h1⟩
  | false=>rw [q] at h;exact y6 h2 h
theorem rO{f:Str}:∀{ns:List Str} {ds:List Dt} {vs:List V},Ψ K G L ds vs->(ns.zip ds).lookup f=none->(ns.zip vs).lookup f=none
 | [],_,_,_,_=>by simp
 | _::_,[],_,h,_=>by have h:_=_:=h;subst h;simp
 | g::ns,d::ds,_,⟨v,r,rfl,h1,h2⟩,h=>by
  rw [abo,abr] at h;rw [abo,abr];cases q:f==g with
  | true=>rw [q] at h;cases h
  | false=>rw [q] at h;exact rO h2 h
theorem yF{f:Str}{v:V}:∀{ns:List Str} {vs:List V},ns.length=vs.length->f∉ns->jV f v (ns.zip vs)=(ns++[f]).zip (vs++[v])
 | [],[],_,_=>rfl
 | g::ns,x::vs,hl,h=>by have hg:¬g=f:=λz=>h (by rw [z];exact aae);show (if g=f then (g,v)::ns.zip vs else (g,x)::jV f v (ns.zip vs))=(g,x)::(ns++[f]).zip (vs++[v]);rw [if_neg hg,yF (by simpa using hl) λz=>h (List.mem_cons_of_mem _ z)]
 | [],_::_,hl,_=>by simp at hl
 | _::_,[],hl,_=>by simp at hl
end
def YC(C:Addr)(f:Str)(t:DE):DE:=λρ M q x=>t ρ M (λd M1=>∃ns ds v,Pw C M1 d ns ds/\(ns.zip ds).lookup f=some v/\q v M1) x
def Od(C:Addr)(m:Str)(T:DF)(to:DE)(ta:DA):DE:=λρ M q x=>to ρ M (λd M1=>(∃ns ds,Pw C M1 d ns ds/\(ns.zip ds).lookup m=none)/\ta ρ M1 (λds M2=>T (d::ds) M2 q (λC fs M'=>x ρ C fs M')) x) x
def SF(C:Addr)(T:DF)(ta:DA):DE:=λρ M q x=>ta ρ M (λds M1=>T (.loc M1.length::ds) (M1++[.ins C [] []]) (λd M2=>d= .aU/\q (.loc M1.length) M2) (λC fs M'=>x ρ C fs M')) x
def Ol(C:Addr)(f:Str)(to tv:DE):DS:=λDn ρ M=>tv ρ M (λy M1=>to ρ M1 (λd M2=>∃k ns ds,d= .loc k/\M2[k]? =some (.ins C ns ds)/\f∉ns/\ns.length < 1000/\Dn.nx ρ (M2.set k (.ins C (ns++[f]) (ds++[y])))) Dn.x) Dn.x
structure dz(P:Program)(w:World)(K:fI)(mg:Str->Option Value)(base:Heap)(k:Nat)(C:Addr)(m:Str)(ps:List Str)(T:DF)(f:Addr)(fd:FuncData):Prop where
 ok:aj P w K mg base (b9 P w) k f fd ps (cJ K T)
 b:iw K fd ps []
 c:Ec K C
 m:NG K C m f
structure Qk(P:Program)(w:World)(K:fI)(mg:Str->Option Value)(base:Heap)(k:Nat)(x:Str)(C:Addr)(ps:List Str)(T:DF)(f:Addr)(fd:FuncData):Prop where
 ok:aj P w K mg base (b9 P w) k f fd ps (cJ K T)
 b:iw K fd ps []
 k:Mk K C f
 m:mg x=some (.ref C)
section
variable{X:Cx}{R:St->XK}{C:Addr}{f m x:Str}{T:DF}{k k':Nat}{a:Addr}{fd:FuncData}{ps:List Str}{e o value:Expr}{es:List Expr}{pos pos' apos p:Pos}{to te tv:DE}{ta:DA}
theorem q_(c:Ec X.K C)(n:iA X.K C f)(he:JE X R e te)(hb:attributeBase e f X.env (eval e X.env)=eval e X.env:=by rfl):JE X R (.Attribute e f pos) (YC C f te):=
 .of (Rf he hb) λσ H G L ρ M q x rl en h hx=>by refine ⟨G,L,ρ,M,_,x,rl,en,h,hx,λv H1 ⟨d1,G1,L1,M1,e1,r1,n1,ns,ds,y,ob,hl,h1⟩=> ?_⟩;obtain ⟨p,dx,vs,rfl,hp,_,dn⟩:=HJ r1 n1 ob;obtain ⟨u,hu,du⟩:=y6 dn hl;exact ⟨p,C,dx,_,u,rfl,hp,c,n,hu,y,G1,L1,M1,e1,r1,du,h1⟩
theorem bX{pl:Sem Bool}(D:dz X.prog X.w X.K X.mg X.base k C m ps T a fd)(hr:bR k' X.A)(hx:dI (b9 X.prog X.w) X R)(ho:JE X R o to)(ha:JA X R (e::es) ta)(hk:k<=k':=by decide)
  (MY:starEach (e::es) X.env=(false,eval e X.env)::starEach es X.env:=by rfl) (gy:(backTo pos (starEach es X.env)).any (·.1)=false:=by rfl)
  (ht:eval (.Call (.Attribute o m apos) (e::es) [] pos) X.env=(do
   let ov<-eval o X.env
   standAt apos.atName
   let (f,first)<-holding [ov] (getMethod ov m pl)
   callWith pos f first (backTo pos (starEach (e::es) X.env)) (backToKw pos (keywordEach [] X.env))):=by rfl):
  JE X R (.Call (.Attribute o m apos) (e::es) [] pos) (Od C m T to ta):=
 .of (IA (pl:=pl) ho D.c D.m D.ok (hr.mono hk) D.b .nil hx ha MY gy ht) λσ H G L ρ M q x rl en h hx=>by refine ⟨G,L,ρ,M,_,x,rl,en,h,hx,λv H1 ⟨d1,G1,L1,M1,e1,r1,n1,⟨ns,ds,ob,hl⟩,h1⟩=> ?_⟩;obtain ⟨p,dx,vs,rfl,hp,_,dn⟩:=HJ r1 n1 ob;refine ⟨p,dx,_,rfl,hp,rO dn hl,G1,L1,ρ,M1,_,x,r1,en.mono e1,h1,hx.on e1,λus H2 ⟨Ay,G2,L2,M2,e2,r2,n2,h2⟩=> ?_⟩;show cJ X.K T (V.ref p::(us++[])) H2 _ _;rw [aa8];have KC:=e1.trans e2;exact ⟨G2,L2,d1::Ay,M2,q,_,r2,⟨_,_,rfl,Den.mono e2.g e2.l _ _ n1,n2⟩,h2,λv H' f=>Fin.back KC f,λC fs M' G' L' H' od hq e' r' y=>hx σ ρ C fs M' G' L' H' od hq (KC.trans e') r' (en.mono (KC.trans e')) y⟩
theorem k7{pl:Sem Bool}(D:dz X.prog X.w X.K X.mg X.base k C m ps T a fd)(hr:bR k' X.A)(hx:dI (b9 X.prog X.w) X R)(ho:JE X R o to)(hk:k<=k':=by decide)
  (ht:eval (.Call (.Attribute o m apos) [] [] pos) X.env=(do
   let ov<-eval o X.env
   standAt apos.atName
   let (f,first)<-holding [ov] (getMethod ov m pl)
   callWith pos f first (backTo pos (starEach [] X.env)) (backToKw pos (keywordEach [] X.env))):=by rfl):
  JE X R (.Call (.Attribute o m apos) [] [] pos) (Od C m T to Pm):=
 .of (EX (pl:=pl) ho D.c D.m D.ok (hr.mono hk) D.b .nil hx ht) λσ H G L ρ M q x rl en h hx=>by refine ⟨G,L,ρ,M,_,x,rl,en,h,hx,λv H1 ⟨d1,G1,L1,M1,e1,r1,n1,⟨ns,ds,ob,hl⟩,h1⟩=> ?_⟩;obtain ⟨p,dx,vs,rfl,hp,_,dn⟩:=HJ r1 n1 ob;refine ⟨p,dx,_,rfl,hp,rO dn hl, ?_⟩;show cJ X.K T (V.ref p::([]++[])) H1 _ _;exact ⟨G1,L1,[d1],M1,q,_,r1,⟨_,_,rfl,n1,rfl⟩,h1,λv H' f=>Fin.back e1 f,λC fs M' G' L' H' od hq e' r' y=>hx σ ρ C fs M' G' L' H' od hq (e1.trans e') r' (en.mono (e1.trans e')) y⟩
theorem P7(D:Qk X.prog X.w X.K X.mg X.base k x C ps T a fd)(hr:bR k' X.A)(hx:dI (b9 X.prog X.w) X R)(ha:JA X R (e::es) ta)(hk:k+1<=k':=by decide)(hg:Gl X x:=by rfl)(uH:(x==("__debug__":Str))=false:=by decide)
  (he:starEach (e::es) X.env=(false,eval e X.env)::starEach es X.env:=by rfl) (gy:(backTo pos (starEach es X.env)).any (·.1)=false:=by rfl):JE X R (.Call (.Name x p) (e::es) [] pos) (SF C T ta):=
 .of (J6 D.k D.ok (hr.mono hk) hg D.m D.b .nil hx ha uH he gy) λσ H G L ρ M q x rl en h hx=>by
  refine ⟨G,L,ρ,M,_,x,rl,en,h,hx,λvs H1 ⟨ds,G1,L1,M1,e1,r1,n1,h1⟩ y dx hy hdx lF=> ?_⟩;show cJ X.K T (V.ref y::(vs++[])) _ _ _;rw [aa8];have ra:=r1.NB (o:= .own y) hdx;have ea:=r1.Rm (o:= .own y) hdx;have hy2:upd H1 dx (HO.own y) y=none:=by rw [Ξ (Ne.symm lF)];exact hy
  have rb:=ra.Mr (p:=y) (o:= .ins C dx []) (m:= .ins C [] []) hy2 ⟨dx,[],au,rfl,rfl⟩;have eb:=ra.Vl (p:=y) (o:= .ins C dx []) hy2;have e2:=ea.trans eb;have KC:=e1.trans e2;refine ⟨_,_, .loc M1.length::ds,_,_,_,rb,⟨_,_,rfl,⟨y,rfl, ?_⟩,Ψ.mono e2.g e2.l _ _ n1⟩,h1,λv H' ⟨d,G',L',M',e',r',dn,hd,hq⟩=> ?_,λC fs M' G' L' H' od hq e' r' z=>hx σ ρ C fs M' G' L' H' od hq (KC.trans e') r' (en.mono (KC.trans e')) z⟩
  ·rw [<-r1.len,List.getElem?_append_right (Nat.le_refl _)];simp
  ·subst hd;refine ⟨dn, .loc M1.length,G',L',M',KC.trans e',r',⟨y,rfl,e'.l.get ?_⟩,hq⟩;rw [<-r1.len,List.getElem?_append_right (Nat.le_refl _)];simp
theorem Ds(c:Ec X.K C)(n:iA X.K C f)(ho:JE X R o to)(hv:JE X R value tv)(hs:swapsWith value (some (.Attribute o f pos')) pos.line X.env=pure false:=by rfl):JS X R (.Assign [.Attribute o f pos'] value pos) (Ol C f to tv):=
 .of (Qi ho hv hs) λσ H G L ρ M Dn rl en h hx=>by refine ⟨G,L,ρ,M,_,_,rl,en,h,hx,λy H1 ⟨dy,G1,L1,M1,e1,r1,n1,h1⟩=> ?_⟩;refine ⟨G1,L1,ρ,M1,_,_,r1,en.mono e1,h1,hx.on e1,λu H2 ⟨du,G2,L2,M2,e2,r2,n2,k,ns,ds,ed,hm,hf,hz,h2⟩=> ?_⟩;subst ed;obtain ⟨p,rfl,hp⟩:=n2;obtain ⟨_,dx,vs,hH,hl,dn⟩:=r2.gJ k p _ hp hm;have hlv:ns.length=vs.length:=hl.trans dn.length;refine ⟨p,C,dx,_,rfl,hH,c,n,by rw [abw,<-hlv,Nat.min_self];exact hz, ?_⟩;rw [yF hlv hf];exact ⟨ρ,G2,L2,_,(e1.trans e2).trans (r2.HC hp),r2.setM (m:= .ins C (ns++[f]) (ds++[dy])) hp ⟨dx,_,au,by rw [aag,aag,hl];rfl,dn.app ⟨_,_,rfl,Den.mono e2.g e2.l _ _ n1,rfl⟩⟩,(en.mono (e1.trans e2)).mono (r2.HC (o:= .own p) hp),h2⟩
end
def sO:List Dt->Ms->DQ->Prop
 | [d],M,q=>match fR M d with
  | some xs=>q (.loc M.length) (M++[.lst xs])
  | none=>False
 | _,_,_=>False
section
variable{K:fI}
theorem Uq:EB K (λxs H Q=>∃p ys,xs=[V.ref p]/\(gF K H p ys\/nR K H p ys)/\∀l,H l=none->Q (.ref l) (upd H l (.lst ys))) sO:=by
 intro G0 L0 H0 G L M H vs ds q e r n h;unfold sO at h;split at h
 ·rename_i d;obtain ⟨v,rfl,n1⟩:=bu n;split at h
  ·rename_i xs hs;obtain ⟨a,us,rfl,hq,dn⟩:=nV r n1 hs;exact ⟨a,us,rfl,hq,λl hl=>jM e r hl dn h⟩
  ·exact h.elim
 ·exact h.elim
end
section
variable{X:Cx}{R:St->XK}{e o i value:Expr}{t:DA}{to ti tv:DE}{p pos apos c8 uA:Pos}
theorem tS(hm:X.mg "list"=none)(ha:JA X R [e] t)(hg:Gl X "list":=by rfl)(he:starEach [e] X.env=(false,eval e X.env)::starEach [] X.env:=by rfl)(gy:(backTo pos (starEach [] X.env)).any (·.1)=false:=by rfl):JE X R (.Call (.Name "list" p) [e] [] pos) (BS sO t):=
 rC v7 Uq hm rA ha hg (by decide) (by decide) he gy
def IC(to:DE)(t:DA):DE:=λρ M q x=>to ρ M (λd M1=>(∃k xs,d= .loc k/\M1[k]? =some (.lst xs))/\t ρ M1 (λds M2=>∃k xs y,d= .loc k/\ds=[y]/\M2[k]? =some (.lst xs)/\xs.length < sizeLine/\q .aU (M2.set k (.lst (xs++[y])))) x) x
theorem c_(ho:JE X R o to)(ha:JA X R [e] t)(JO:attributeBase o "append" X.env (eval o X.env)=eval o X.env:=by rfl)
  (P8:((backTo c8 (starEach [e] X.env)).all (λx=> !x.1)&&(backToKw c8 (keywordEach [] X.env)).all (λx=>x.1.isSome)
   &&decide (([e]:List Expr).length+([]:List Keyword).length+(if ([]:List Keyword).isEmpty then 0 else 1) < 30))=true:=by rfl)
  (HA:(apos.endLine==c8.line)=true:=by rfl) (hs:starEach [e] X.env=(false,eval e X.env)::starEach [] X.env:=by rfl) (Ct:(backTo c8 (starEach [] X.env)).any (·.1)=false:=by rfl):
  JE X R (.Call (.Attribute o "append" apos) [e] [] c8) (IC to t):=
 .of (UJ PySem.F.plainAttrs_list PySem.F.slot_list_append PySem.F.type_list_append (r:=Dm) vm ho ha JO P8 HA hs Ct) λσ H G L ρ M q x rl n h hx=>by refine ⟨G,L,ρ,M,_,x,rl,n,h,hx,λv H1 ⟨d1,G1,L1,M1,e1,r1,n1,⟨k,xs,ed,hm⟩,h1⟩=> ?_⟩;subst ed;obtain ⟨a,rfl,hk⟩:=n1;obtain ⟨_,vs,hH,_⟩:=r1.gJ k a _ hk hm;refine ⟨.inl ⟨rfl,vs, .of hH⟩,G1,L1,ρ,M1,_,x,r1,n.mono e1,h1,hx.on e1,λus H2 ⟨ds,G2,L2,M2,e2,r2,n2,k',xs',y,ek,ed,YJ,hz,h2⟩=> ?_⟩;cases ek;subst ed;obtain ⟨u,rfl,n3⟩:=bu n2;have PV:=e2.l.get hk;obtain ⟨_,Lb,VM,RJ⟩:=r2.gJ k a _ PV YJ;refine ⟨a,Lb,u,rfl,rfl,VM,by rw [<-RJ.length];exact hz, .aU,G2,L2,_,(e1.trans e2).trans (r2.HC PV),r2.setM (m:= .lst (xs'++[y])) PV ⟨_,au,RJ.app ⟨_,_,rfl,n3,rfl⟩⟩,rfl,h2⟩
def tm(to ti tv:DE):DS:=λDn ρ M=>tv ρ M (λy M1=>to ρ M1 (λd M2=>ti ρ M2 (λdi M3=>∃k i xs j,d= .loc k/\di= .int i/\M3[k]? =some (.lst xs)/\Hu xs.length i=some j/\Dn.nx ρ (M3.set k (.lst (xs.set j y)))) Dn.x) Dn.x) Dn.x
theorem kB(ho:JE X R o to)(hi:JE X R i ti)(hv:JE X R value tv)(hs:swapsWithSole [.Subscript o i uA] value pos.line X.env=pure false:=by rfl)(hw:swappedStores [.Subscript o i uA] value X.env=pure none:=by rfl)
  (h1:(assignEach [.Subscript o i uA] X.env).map (·.2)=[assign (.Subscript o i uA) X.env]:=by rfl)
  (ha:∀v,assign (.Subscript o i uA) X.env v=(do
   let ov<-holding [v] (eval o X.env)
   let iv<-holding [v,ov] (eval i X.env)
   standAt uA
   holding [v,ov,iv] (setItem ov iv v)
   release [v,ov,iv] []):=by intro _;rfl):JS X R (.Assign [.Subscript o i uA] value pos) (tm to ti tv):=
 .of (HI hv (PY (t:=OD) ho hi K2 ha) hs hw h1) λσ H G L ρ M Dn rl n h hx=>by refine ⟨G,L,ρ,M,_,_,rl,n,h,hx,λv H1 ⟨dv,G1,L1,M1,e1,r1,n1,h1⟩=> ?_⟩;refine ⟨G1,L1,ρ,M1,_,_,r1,n.mono e1,h1,hx.on e1,λov H2 ⟨d,G2,L2,M2,e2,r2,n2,h2⟩=> ?_⟩;refine ⟨G2,L2,ρ,M2,_,_,r2,(n.mono e1).mono e2,h2,(hx.on e1).on e2,λiv H3 ⟨di,G3,L3,M3,e3,r3,n3,k,i,xs,j,ed,ei,hm,hj,h3⟩=> ?_⟩;subst ed ei;obtain ⟨a,rfl,hk⟩:=n2;have n3:iv= .int i:=n3;subst n3;have C5:=e3.l.get hk;obtain ⟨_,vs,hH,dn⟩:=r3.gJ k a _ C5 hm;have FD:=e2.trans e3;have Vn:=Den.mono FD.g FD.l _ _ n1;refine ⟨a,vs,i,j,rfl,rfl,hH,by rw [<-dn.length];exact hj,ρ,G3,L3,_,((e1.trans e2).trans e3).trans (r3.HC C5),r3.setM (m:= .lst (xs.set j dv)) C5 ⟨_,au, .of (Du Vn j dn.pair)⟩,(((n.mono e1).mono e2).mono e3).mono (r3.HC (o:= .own a) C5),h3⟩
end
structure Src(K:fI)(a:Addr)(xs:List Dt)(ok:Ms->Prop)(G0:Hp)(L0:List Addr):Prop where
 at_:∀G L M H,eC G0 G->Pre L0 L->Rl K G L M H->ok M->∃vs,gF K H a vs/\Ψ K G L xs vs
def lB(M:Ms):Dt->Option (List Dt×(Ms->Prop))
 | .lst xs=>some (xs,λ_=>True)
 | .h_ ns=>some (ns.map .int,λ_=>True)
 | .loc k=>match M[k]? with
  | some (.lst xs)=>some (xs,λM'=>M'[k]? =some (.lst xs))
  | _=>none
 | _=>none
theorem sF{K:fI}{G:Hp}{L:List Addr}{M:Ms}{H:Hp}{d:Dt}{v:V}{xs:List Dt}{ok:Ms->Prop}(r:Rl K G L M H)(n:Den K G L d v)(h:lB M d=some (xs,ok)):∃a vs,v= .ref a/\gF K H a vs/\Src K a xs ok G L/\ok M:=by
 cases d with
 | lst ds=>
  cases h;obtain ⟨a,vs,rfl,e,m⟩:=n;exact ⟨a,vs,rfl, .of (r.sub _ _ e),⟨λG' L' M' H' g l r' _=>⟨vs, .of (r'.sub _ _ (g _ _ e)),Ψ.mono g l _ _ m⟩⟩,trivial⟩
 | h_ ns=>
  cases h;obtain ⟨a,rfl,e⟩:=n;exact ⟨a,_,rfl,r.sub.seq e,⟨λG' L' M' H' g l r' _=>⟨_,r'.sub.seq (g.seq e),iW⟩⟩,trivial⟩
 | loc k=>
  obtain ⟨a,rfl,e⟩:=n;have h:(match M[k]? with | some (.lst xs)=>some (xs,λM':Ms=>M'[k]? =some (.lst xs)) | _=>none)=some (xs,ok):=h;split at h
  ·rename_i ys hm;cases h;obtain ⟨_,vs,e1,m1⟩:=r.gJ k a _ e hm;refine ⟨a,vs,rfl, .of e1,⟨λG' L' M' H' g l r' hk=> ?_⟩,hm⟩;obtain ⟨_,Lb,e2,m2⟩:=r'.gJ k a _ (l.get e) hk;exact ⟨Lb, .of e2,m2⟩
  ·cases h
 | _=>cases h
theorem KH{K:fI}{G:Hp}{L:List Addr}{a:Addr}{xs:List Dt}{ok:Ms->Prop}(s:Src K a xs ok G L):Qd K (VP K a) xs ok G L where
 go:=λi G1 L1 M1 H1 d g l r k e=>by
  obtain ⟨vs,hs,n⟩:=s.at_ G1 L1 M1 H1 g l r k;obtain ⟨v,e1,n1⟩:=n.get e
  exact ⟨⟨vs,v,hs,e1⟩,λv' H' ⟨eH,y⟩=>by
   subst eH;have e2:=y vs hs;rw [e1] at e2;cases e2
   exact ⟨G1, .refl _ _ _,r,n1⟩⟩
 stop:=λi G1 L1 M1 H1 g l r k e=>by obtain ⟨vs,hs,n⟩:=s.at_ G1 L1 M1 H1 g l r k;exact ⟨vs,hs,by rw [<-n.length];exact e⟩
def pU(M:Ms):Dt->Option (List Dt×(Ms->Prop))
 | .loc k=>lB M (.loc k)
 | d=>(To M d).map λxs=>(xs,λ_=>True)
def fM(t:DE):DK:=λρ M q x=>t ρ M (λd M1=>match pU M1 d with
 | some (xs,ok)=>q xs ok M1
 | none=>False) x
theorem bx{X:Cx}{R:St->XK}{tg e:Expr}{te:DE}(h:JE X R e te):JK X R tg e (fM te):=by
 intro ζ s σ H Q I ⟨G,L,ρ,M,q,x,rl,n,ht,hx,hQ⟩;refine bF (h ζ s σ H (Fin X.K G L H _) I ⟨G,L,ρ,M,_,x,rl,n,ht,hx,λ_ _ f=>f⟩) λu s1 ⟨v,H1,I1,rv,d,G1,L1,M1,e1,r1,n1,h1⟩=> ?_
 (try dsimp only at h1)
 cases hi:pU M1 d with
 | none=>rw [hi] at h1;exact h1.elim
 | some p=>
  obtain ⟨xs,ok⟩:=p;rw [hi] at h1;have fin:∀J,Qd X.K J xs ok G1 L1->Q J H1:=λJ y=>hQ J H1 ⟨xs,ok,G1,L1,M1,e1,r1,y,h1⟩;have up:∀{J},ok=(λ_=>True)->Yl X.K J xs G1 L1->Qd X.K J xs ok G1 L1:=λeo y=>by subst eo;exact ⟨λi G L M H d g l r _ e=>y.go i G L M H d g l r e,λi G L M H g l r _ e=>y.stop i G L M H g l r e⟩
  cases d with
  | loc k=>
   obtain ⟨a,vs,rfl,hs,sr,_⟩:=sF r1 n1 hi;cases rv;exact x' I1 hs (fin _ (KH sr))
  | lst ds=>
   cases hi;obtain ⟨a,vs,rfl,e,m⟩:=n1;cases rv;exact x' I1 (vs:=vs) (.of (r1.sub _ _ e)) (fin _ (up rfl (Di (λG' g=> .of (g _ _ e)) m)))
  | h_ ns=>
   cases hi;obtain ⟨a,rfl,e⟩:=n1;cases rv;exact x' I1 (r1.sub.seq e) (fin _ (up rfl (Di (λG' g=>g.seq e) iW)))
  | tup ds=>
   cases hi;obtain ⟨a,vs,rfl,e,m⟩:=n1;cases rv;exact Jb I1 (vs:=vs) (.of (r1.sub _ _ e)) (fin _ (up rfl (Ho (λG' g=> .of (g _ _ e)) m)))
  | kt ds=>
   cases hi;obtain ⟨a,vs,rfl,e,m⟩:=n1;cases rv;exact Jb I1 (r1.sub.SA e) (fin _ (up rfl (Ho (λG' g=>g.SA e) m)))
  | str z=>
   cases hi;cases n1;obtain ⟨t,rfl⟩:=rv;exact QK I1 (fin _ (up rfl Q_))
  | _=>cases hi
def vZ(g:Dt->En->(En->Prop)->Prop)(tb:DS)(Dn:lI)(ok:Ms->Prop):List Dt->En->Ms->Prop
 | [],ρ,M=>ok M/\Dn.nx ρ M
 | x::xs,ρ,M=>ok M/\g x ρ λρ'=>tb {Dn with nx:=vZ g tb Dn ok xs,ct:=vZ g tb Dn ok xs,bk:=Dn.nx} ρ' M
def p7(ti:DK)(g:Dt->En->(En->Prop)->Prop)(tb:DS):DS:=λDn ρ M=>ti ρ M (λxs ok M1=>vZ g tb Dn ok xs ρ M1) Dn.x
section
variable{X:Cx}{R:St->XK}{tg iter:Expr}{body:List Stmt}{ti:DK}{gg:TG}{g:Dt->En->(En->Prop)->Prop}{tb:DS}{pos:Pos}
theorem cY(hi:JK X R tg iter ti)(hg:PG X tg gg)(gd:GD X.K gg g)(hb:Bk X R body tb)(hp:PassesOwn (model X.prog X.w) X.A X.env X.xe:=by first | exact PassesOwn.never | exact PassesOwn.leaving)(hc:X.calm=true:=by rfl)(hs:∀x,foldedSetIterable iter X.env x=pure x:=by intro _;rfl):
  JS X R (.For tg iter body [] pos) (p7 ti g tb):= .of (C2 hp hc hi hg hb hs) λσ H G L ρ M Dn rl n h hx=>by
 refine ⟨G,L,ρ,M,_,_,rl,n,h,hx,λJ H1 ⟨xs,ok,G1,L1,M1,e1,r1,y,h1⟩=> ?_⟩;refine ⟨λi m σ' H'=>m+i=xs.length/\fb X.K G1 L1 H1 (λρ' M'=>vZ g tb Dn ok (xs.drop i) ρ' M') σ' H',⟨xs.length,rfl,ρ,G1,L1,M1, .refl _ _ _,r1,n.mono e1,by rw [acw];exact h1⟩, ?_⟩;rintro i m σ' H' ⟨hm,ρ',G',L',M',e',r',n',h'⟩;by_cases hi:i < xs.length
 ·right;have hd:xs[i]? =some xs[i]:=aaa hi;rw [abp hi] at h';obtain ⟨bc,h'⟩:=h';obtain ⟨go,yl⟩:=y.go i G' L' M' H' _ e'.g e'.l r' bc hd;refine ⟨go,fb X.K G1 L1 H1 (λρ' M'=>vZ g tb Dn ok (xs.drop (i+1)) ρ' M'),λσ2 H2 f=>⟨m - 1,by omega,by omega,f⟩,λv H2 hy=> ?_⟩;obtain ⟨G2,e2,r2,n2⟩:=yl v H2 hy;refine gd G2 L' M' H2 _ v ρ' σ' _ _ r2 n2 (n'.mono e2) h' λρ3 σ3 n3 h3=> ?_;refine ⟨G2,L',ρ3,M',_,r2,n3,h3,hx.on (e1.trans (e'.trans e2)),⟨λ_ _ f=>fb.back (e'.trans e2) f,λ_ _ f=>Fin.back (e1.trans (e'.trans e2)) f,λ_ _ f=>fb.back (e1.trans (e'.trans e2)) f,λ_ _ f=>fb.back (e'.trans e2) f⟩⟩
 ·left;rw [ab4 (by omega)] at h';exact ⟨y.stop i G' L' M' H' e'.g e'.l r' h'.1 (by omega),ρ',G',L',M',e1.trans e',r',n',h'.2⟩
end
def vb(te:DE)(cs:En)(ok:Ms->Prop):List Dt->List Dt->Ms->(List Dt->Ms->Prop)->Prop
 | [],Ι,M,k=>ok M/\k Ι M
 | x::xs,Ι,M,k=>ok M/\te (some x::cs) M (λd M1=>vb te cs ok xs (Ι++[d]) M1 k) lD
def oZ(ti:DK)(te:DE)(ah:List Nat):DE:=λρ M q x=>ti ρ M (λxs ok M1=>xs.length<=sizeLine/\vb te (qc ah ρ) ok xs [] M1 (λys M2=>q (.lst ys) M2)) x
theorem yj{te:DE}{cs:En}{ok:Ms->Prop}:∀xs,vb te cs ok xs=i0 (gN 0) rK te (none::cs) ok xs
 | []=>rfl
 | x::xs=>funext λΙ=>funext λM=>funext λk=>by show (ok M/\te (some x::cs) M (λd M1=>vb te cs ok xs (Ι++[d]) M1 k) lD)=(ok M/\te (some x::cs) M (λd M1=>i0 (gN 0) rK te (none::cs) ok xs (Ι++[d]) M1 k) lD);rw [yj xs]
section
variable{X:Cx}{R:St->XK}{elt iter:Expr}{x:Str}{px:Pos}{scope:Scope}{pos:Pos}{ti:DK}{te:DE}{ys:List Str}{ah:List Nat}
theorem gx(S:aK X scope [x] ys ah)(hi:JK X R (.Name x px) iter ti)(he:∀C s H fp,JE (Cx.comp X (x::ys) scope C s H fp) (λ_=>E0) elt te)(hc:X.calm=true:=by rfl)(hs:∀x,foldedSetIterable iter X.env x=pure x:=by intro _;rfl):JE X R (.ListComp elt [⟨.Name x px,iter,[],0⟩] scope pos) (oZ ti te ah):=Sv false S hi (iV S (i:=0) rfl) aL (jE (Nat.zero_lt_succ 0)) (λ_ _ _ _=>qL) he hc hs λρ M q x h=>by unfold oZ at h;simp only [yj] at h;exact h
theorem ig{i:Nat}{y:Str}{py zm:Pos}(hN:X.N.Nodup)(UY:X.N[i]? =some y)(hy:Loc X.env.scope y)(S:aK X scope [x] ys ah)(hi:JK X R (.Name x px) iter ti)(he:∀C s H fp,JE (Cx.comp X (x::ys) scope C s H fp) (λ_=>E0) elt te)(hc:X.calm=true:=by rfl)(Tv:swapsWith (.ListComp elt [⟨.Name x px,iter,[],0⟩] scope pos) (some (.Name y py)) zm.line X.env=pure true:=by rfl)(hs:∀x,foldedSetIterable iter X.env x=pure x:=by intro _;rfl)(hf:X.fn y=true\/X.env.scope.names.lookup y=some .local:=by first | exact .inl rfl | exact .inr rfl | assumption):JS X R (.Assign [.Name y py] (.ListComp elt [⟨.Name x px,iter,[],0⟩] scope pos) zm) (Nz i (oZ ti te ah)):=jcS false S hi (iV S (i:=0) rfl) aL (jE (Nat.zero_lt_succ 0)) (λ_ _ _ _=>qL) he hc hs hN UY hy Tv hf λρ M q x h=>by unfold oZ at h;simp only [yj] at h;exact h
end
theorem uZ:∀{ns:List Int} {us:List Value},aB (ns.map V.int) us->∃ts:List (Int×Tok),us=ts.map (λp=>Value.int p.1 p.2)/\ts.map (·.1)=ns
 | [],_,h=>by cases h;exact ⟨[],rfl,rfl⟩
 | n::ns,_,h=>by
  cases h with
  | cons r t=>
   obtain ⟨tk,rfl⟩:=r;obtain ⟨ts,rfl,rfl⟩:=uZ t;exact ⟨(n,tk)::ts,rfl,rfl⟩
def SW(K:fI):List V->Hp->VK->Prop:=λxs H Q=>∃(p:Addr) (ns:List Int),xs=[.ref p]/\gF K H p (ns.map V.int)/\Q (.int ns.sum) H
theorem KA{X:Cx}(hc:X.calm=true):dY X (.builtin "sum") (SW X.K):=by
 intro ζ s σ H xs us Q I r h;obtain ⟨p,ns,rfl,hq,q⟩:=h;obtain ⟨u,rfl,r1⟩:=kO r;cases r1;obtain ⟨its,rv,pl,hz⟩:=I.list hq;obtain ⟨ts,rfl,rfl⟩:=uZ rv;have e:(ts.map λp=>Value.int p.1 p.2).toArray=intItems ts.toArray:=by simp [intItems]
 have hl:=pl.isList;rw [e] at hl;refine sum_intListG (I.ok.hd hc) hl λh' tk t' hk=> ?_;refine ⟨.int (ts.map (·.1)).sum,H,I.kept hk,⟨t', ?_⟩,q⟩;rw [preSum_eq,List.take_of_length_le (by simp)]
def QF:List Dt->Ms->DQ->Prop
 | [d],M,q=>∃ns:List Int,fR M d=some (ns.map .int)/\(∃xs ok,lB M d=some (xs,ok))/\q (.int ns.sum) M
 | _,_,_=>False
theorem r9{K:fI}{G:Hp}{L:List Addr}:∀{ns:List Int} {vs:List V},Ψ K G L (ns.map Dt.int) vs->vs=ns.map V.int
 | [],_,h=>h
 | _::_,_,⟨v,r,e,h1,h2⟩=>by have h1:v=_:=h1;rw [e,h1,r9 h2];rfl
theorem n8{M:Ms}{d:Dt}{xs:List Dt}{ok:Ms->Prop}(h:lB M d=some (xs,ok)):fR M d=some xs:=by
 cases d with
 | lst ds=>cases h;rfl
 | h_ ns=>cases h;rfl
 | loc k=>
  have h:(match M[k]? with | some (.lst xs)=>some (xs,λM':Ms=>M'[k]? =some (.lst xs)) | _=>none)=some (xs,ok):=h;show (match M[k]? with | some (.lst xs)=>some xs | _=>none)=some xs;split at h
  ·rename_i ys hm;cases h;rfl
  ·cases h
 | _=>cases h
theorem X2{K:fI}:EB K (SW K) QF:=by
 intro G0 L0 H0 G L M H vs ds q e r n h;unfold QF at h;split at h
 ·rename_i d;obtain ⟨v,rfl,n1⟩:=bu n;obtain ⟨ns,hs,⟨xs,ok,hl⟩,hq⟩:=h;obtain ⟨a,us,rfl,sq,sr,bc⟩:=sF r n1 hl;rw [n8 hl] at hs;cases hs;obtain ⟨ws,ZM,dn⟩:=sr.at_ G L M H (.refl _) (.refl _) r bc;rw [r9 dn] at ZM;exact ⟨a,ns,rfl,ZM, .int ns.sum,G,L,M,e,r,rfl,hq⟩
 ·exact h.elim
theorem FR:bootBuiltins "sum"=some (.builtin "sum"):=by decide+kernel
theorem CB:bootBuiltins "enumerate"=some (.type "enumerate"):=by decide+kernel
section
variable{X:Cx}{R:St->XK}{e a b:Expr}{t:DA}{ta tb:DE}{p pos:Pos}
theorem OB(hm:X.mg "sum"=none)(ha:JA X R [e] t)(hc:X.calm=true:=by rfl)(hg:Gl X "sum":=by rfl)(he:starEach [e] X.env=(false,eval e X.env)::starEach [] X.env:=by rfl)(gy:(backTo pos (starEach [] X.env)).any (·.1)=false:=by rfl):JE X R (.Call (.Name "sum" p) [e] [] pos) (BS QF t):=
 iu (KA hc) X2 hm FR ha hg (by decide) (by decide) he gy
def Sl:Dt->Dt->Ms->DQ->Prop:=λd e M q=>∃u xs us,vp d=some u/\fR M e=some xs/\gY xs=some us/\q (.bl (Rh u us)) M
def Ew:Dt->Dt->Ms->DQ->Prop:=λd e M q=>∃u xs us,vp d=some u/\fR M e=some xs/\gY xs=some us/\q (.bl (!Rh u us)) M
theorem X6{K:fI}:m_ K (VG K false) Sl:=by intro G0 L0 H0 G L M H v1 v2 d1 d2 q e r n1 n2 ⟨u,xs,us,h1,h2,h3,hq⟩;obtain ⟨rfl,fu⟩:=kn h1 n1;obtain ⟨a,vs,rfl,sq,dn⟩:=nV r n2 h2;obtain ⟨rfl,fs⟩:=fq h3 dn;exact ⟨a,vs,rfl,sq,fu,fs, .bl _,G,L,M,e,r,rfl,hq⟩
theorem Li{K:fI}:m_ K (VG K true) Ew:=by intro G0 L0 H0 G L M H v1 v2 d1 d2 q e r n1 n2 ⟨u,xs,us,h1,h2,h3,hq⟩;obtain ⟨rfl,fu⟩:=kn h1 n1;obtain ⟨a,vs,rfl,sq,dn⟩:=nV r n2 h2;obtain ⟨rfl,fs⟩:=fq h3 dn;exact ⟨a,vs,rfl,sq,fu,fs, .bl _,G,L,M,e,r,rfl,hq⟩
theorem HH(ja:JE X R a ta)(jb:JE X R b tb)(hm:behindInMarks .In b=false:=by rfl):JT X R (.Compare a [.In] [b] pos) (lP (jX Sl ta tb)):=g9 FA X6 ja jb hm
theorem vG(ja:JE X R a ta)(jb:JE X R b tb)(hm:behindInMarks .NotIn b=false:=by rfl):JT X R (.Compare a [.NotIn] [b] pos) (lP (jX Ew ta tb)):=g9 wz Li ja jb hm
end
theorem Inv.vj{X:Cx}{ζ:List (Addr×Obj)}{σ:St}{H:Hp}{s:Shared}{h':Heap}{its:List Addr}{T:Addr}{o:HO}{t':Nat}(I:Inv X ζ σ H s)(k:∀b u,b∉its->s.heap.get? b=some u->h'.get? b=some u)(f:∀b∈its,rq X ζ H b)(hT:s.heap.objs.size<=T)(new:b_ X.prog X.w (upd H T o) h' T o):
  Inv X ζ σ (upd H T o) {s with heap:=h',toks:=t'}:=by
 have hn:=I.bc.fresh hT;have UR:∀b u,H b=some u->b∉its:=λb u e z=>by rw [(f b z).1] at e;cases e
 refine I.call (ch:=its) (g':=s.gens) (d':=s.drawn) (t':=t') ⟨λb u q _ _ hb=>k b u hb q,λb u q _ _ hb=>⟨u.slots,k b u hb q⟩,λb u q n _=> ?_,λb u q hb=>⟨u,k b u hb q⟩,λb xs q=> ?_,λb u xs q=> ?_,λb ps q=>⟨#[], ?_⟩⟩ (λb u e=> ?_) I.bare λb hb=> ?_
 ·rw [Ξ (aaU (aat (aas q) hT))];exact n
 ·rw [Ξ (bW q hn)];exact q
 ·rw [Ξ (bW q hn)];exact q
 ·rw [Ξ (bW q hn),q];simp
 ·by_cases hb:b=T
  ·subst hb;rw [au] at e;cases e;exact new
  ·rw [Ξ hb] at e;refine (I.bc b u e).Cf (λc v hc q=>k c v ?_ q) (λc q=>by rw [Ξ (bW q hn)];exact q) λc xs q=>by rw [Ξ (bW q hn)];exact q
   rcases hc with z | z
   ·rw [z];exact UR b u e
   ·exact UR c _ z
 ·obtain ⟨f0,f1,f2,f3,f4,f5⟩:=f b hb;exact ⟨f3,f1,f4,f5⟩
def Ite(K:fI)(l:Addr):It:=
 ⟨λi H=>∃xs x,gF K H l xs/\xs[i]? =some x,λi H v H'=>∃p x,H p=none/\v= .ref p/\H'=upd H p (.tup [.int i,x])/\∀xs,gF K H l xs->xs[i]? =some x,λi H=>∃xs,gF K H l xs/\xs.length<=i⟩
theorem GG{P:Program}{w:World}{K:fI}{elts:List Expr}{x1:Nat}{tp:Pos}(l it e:Addr)(lF:e≠it):Turn P w K (.Tuple elts x1 tp) (Ite K l) [e,it] e (λi h=>(∃old,IsEnum h e it i old)/\h.IsListIter it l i) where
 mem:=by simp
 obj:=λi h st b hb=>by
  obtain ⟨⟨old,he⟩,hi⟩:=st;rcases aaF.mp hb with rfl | hb
  ·exact ⟨_,he,λv z=>by
    have z':Data.fields _=Data.cell v:=z
    cases z'⟩
  ·have e:b=it:=by simpa using hb
   subst e;obtain ⟨o,e,c,d⟩:=hi;exact ⟨o,e,λv z=>by rw [d] at z;cases z⟩
 keep:=λi h h' st k=>by obtain ⟨⟨old,he⟩,hi⟩:=st;exact ⟨⟨old,k e (by simp) _ he⟩,hi.at λo q=>k it (by simp) o q⟩
 item:=by
  intro X hP hw hK hc i ζ s σ H E I hf st hg;subst hP hw hK;obtain ⟨⟨old,he⟩,hi⟩:=st;obtain ⟨xs,x,hq,hx⟩:=hg;obtain ⟨its,rv,p,hz⟩:=I.list hq;obtain ⟨u,hu,ru⟩:=rv.get hx;refine wpAny_pyNext_enum_item he hi p.isList (x:=u) (by simpa using hu) lF λh' ho ue hT hsz hk=> ?_;refine ⟨_,rfl,wpAny_letOwnedTupleGo_enum (s:={s with heap:=h',toks:=s.toks+1}) ho λh2 he2 sb=> ?_⟩;have sb:Heap.SameBut e h' h2:=sb;have elt:e < s.heap.objs.size:=aas he;have ilt:it < s.heap.objs.size:=by obtain ⟨o,q,_⟩:=hi;exact aas q
  have neT:s.heap.objs.size≠e:=acx elt;have hT2:h2.get? s.heap.objs.size=some {cls:= .type "tuple",data:= .seq #[.int i s.toks,u]}:=(sb.2 _ neT).trans hT;have I2:Inv X ζ σ (upd H s.heap.objs.size (.tup [.int i,x])) {s with heap:=h2,toks:=s.toks+1}:=by
   refine I.vj (its:=[e,it]) (λb o hb q=> ?_) hf (aai _) ?_
   ·have h1:b≠e:=λz=>hb (by simp [z]);have h3:b≠it:=λz=>hb (by simp [z]);exact (sb.2 b h1).trans (hk b o h1 h3 q)
   ·refine ⟨by simp [sizeLine_eq],[.int i s.toks,u], .cons ⟨_,rfl⟩ (.cons ru .nil), ?_⟩;exact ⟨_,hT2,rfl,0,rfl⟩
  have iter:h2.IsListIter it l (i+1):=ue.at λo q=>(sb.2 it (Ne.symm lF)).trans q;refine ⟨.ref s.heap.objs.size,_,I2,rfl,⟨s.heap.objs.size,x,I.bc.fresh (Nat.le_refl _),rfl,rfl,λys hy=>by rw [I.hU hy hq];exact hx⟩,⟨⟨u,by simpa using he2⟩,iter⟩,λb hb=> ?_⟩;have nb:b≠s.heap.objs.size:=by
   rcases aaF.mp hb with rfl | hb
   ·exact aaU elt
   ·have:b=it:=by simpa using hb
    subst this;exact aaU ilt
  rw [Ξ nb];exact (hf b hb).1
 done:=by intro X hP hw hK hc i ζ s σ H E I hf st hg;subst hP hw hK;obtain ⟨⟨old,he⟩,hi⟩:=st;obtain ⟨xs,hq,hx⟩:=hg;obtain ⟨its,rv,p,hz⟩:=I.list hq;have hl:=rv.length;obtain ⟨f0,f1,f2,f3,f4,f5⟩:=hf it (by simp);refine wpAny_pyNext_enum_end (I.ok.hd hc) he hi p.isList (by simp;omega) λh' ext=>⟨rfl,I.turned (t':=s.toks) (λb o hb q=>ext b o hb q) f0 f1 f3 f4 f5⟩
 self:=λ_ _ _ _ _ st h=>by obtain ⟨⟨old,he⟩,_⟩:=st;exact wpAny_pyIter_enum he h
def i9:Nat->List Dt->List Dt
 | _,[]=>[]
 | n,x::xs=> .tup [.int n,x]::i9 (n+1) xs
theorem jw:∀(n:Nat) (xs:List Dt),(i9 n xs).length=xs.length
 | _,[]=>rfl
 | n,_::xs=>by unfold i9;rw [List.length_cons,List.length_cons,jw]
theorem pE:∀{n i:Nat} {xs:List Dt} {d:Dt},(i9 n xs)[i]? =some d->∃x,xs[i]? =some x/\d= .tup [.int ((n+i:Nat):Int),x]
 | n,i,[],d,h=>by simp [i9] at h
 | n,0,x::xs,d,h=>by unfold i9 at h;simp at h;exact ⟨x,rfl,by rw [<-h];simp⟩
 | n,i+1,x::xs,d,h=>by unfold i9 at h;obtain ⟨y,h1,h2⟩:=pE (n:=n+1) (i:=i) (xs:=xs) (d:=d) (by simpa using h);exact ⟨y,by simpa using h1,by rw [h2,show n+1+i=n+(i+1) by omega]⟩
theorem JC{K:fI}{G:Hp}{L:List Addr}{a:Addr}{xs:List Dt}{ok:Ms->Prop}(s:Src K a xs ok G L):Qd K (Ite K a) (i9 0 xs) ok G L where
 go:=λi G1 L1 M1 H1 d g l r k e=>by obtain ⟨vs,hs,n⟩:=s.at_ G1 L1 M1 H1 g l r k;obtain ⟨y,ey,rfl⟩:=pE e;obtain ⟨v,e1,n1⟩:=n.get ey;refine ⟨⟨vs,v,hs,e1⟩,λv' H' ⟨p,x,hp,ev,eH,hx⟩=> ?_⟩;subst ev eH;have e2:=hx vs hs;rw [e1] at e2;cases e2;refine ⟨_,r.Rm hp,r.NB hp,qB (ds:=[.int ((0+i:Nat):Int),y]) r hp ⟨_,_,rfl, ?_,_,_,rfl,n1,rfl⟩⟩;show V.int i=V.int _;rw [Nat.zero_add]
 stop:=λi G1 L1 M1 H1 g l r k e=>by obtain ⟨vs,hs,n⟩:=s.at_ G1 L1 M1 H1 g l r k;exact ⟨vs,hs,by rw [<-n.length,<-jw 0];exact e⟩
def Tr(t:DA):DK:=λρ M q x=>t ρ M (λds M1=>∃d xs ok,ds=[d]/\lB M1 d=some (xs,ok)/\q (i9 0 xs) ok M1) x
theorem wW{X:Cx}{R:St->XK}{elts:List Expr}{x1:Nat}{tp:Pos}{a:Expr}{t:DA}{p pos:Pos}(hm:X.mg "enumerate"=none)(ha:JA X R [a] t)(hg:Gl X "enumerate":=by rfl)(hs:starEach [a] X.env=[(false,eval a X.env)]:=by rfl):JK X R (.Tuple elts x1 tp) (.Call (.Name "enumerate" p) [a] [] pos) (Tr t):=by
 intro ζ s σ H Q I ⟨G,L,ρ,M,q,x,rl,n,ht,hx,hQ⟩;refine Call_ (lV I hg hm CB (PyProof.Rows.callWith_type1 (bF (ha pos ζ s σ H (NI X.K G L H _) I ⟨G,L,ρ,M,_,x,rl,n,ht,hx,λ_ _ f=>f⟩) λus s1 ⟨vs,H1,I1,rv,ds,G1,L1,M1,e1,r1,n1,d,xs,ok,ed,hl,h1⟩=> ?_) hs rfl));subst ed;obtain ⟨v,rfl,n2⟩:=bu n1;obtain ⟨b,ws,rfl,sq,sr,_⟩:=sF r1 n2 hl;obtain ⟨u,rfl,ru⟩:=aB.one rv;cases ru;obtain ⟨its,_,pl,_⟩:=I1.list sq;refine call_enumerate_list pl.isList λh' he hi hz hk=> ?_;have I2:Inv X ζ σ H1 {s1 with heap:=h'}:=I1.kept (t':=s1.toks) hk;refine wpAny_pyIter_enum (s:={s1 with heap:=h'}) he ⟨s1.heap.objs.size+1,[s1.heap.objs.size+1,s1.heap.objs.size],_,_,H1,rfl,I2,GG b s1.heap.objs.size (s1.heap.objs.size+1) (acx (abq _)),⟨⟨_,he⟩,hi⟩,λc hc=> ?_,hQ _ _ ⟨_,ok,G1,L1,M1,e1,r1,JC sr,h1⟩⟩;have hc:s1.heap.objs.size<=c:=by
  rcases aaF.mp hc with rfl | hc
  ·exact Nat.le_succ _
  ·have:c=s1.heap.objs.size:=by simpa using hc
   rw [this];exact aai _
 have f:=I1.Cn (H':=H1) hc (I1.bc.fresh hc);exact f
def DJ(M:Ms):Dt->Option Value
 | .loc k=>match M[k]? with
  | some (.lst _)=>some (.type "list")
  | _=>none
 | d=>N_ d
def OA(K:fI):List Dt->Ms->DQ->Prop:=λds M q=>∃d c t t' b,ds=[d,c]/\DJ M d=some t/\U8 c=some t'/\PySem.W.kitOne K t t'=some b/\q (.bl b) M
section
variable{K:fI}
theorem CQ{G:Hp}{L:List Addr}{M:Ms}{H:Hp}{d:Dt}{v:V}{t:Value}(r:Rl K G L M H)(n:Den K G L d v)(h:DJ M d=some t):lq K H v t:=by
 by_cases hd:∃k,d= .loc k
 ·obtain ⟨k,rfl⟩:=hd;obtain ⟨a,rfl,e⟩:=n;have h:(match M[k]? with | some (.lst _)=>some (Value.type "list") | _=>none)=some t:=h;split at h
  ·rename_i xs hm;cases h;obtain ⟨_,vs,e1,_⟩:=r.gJ k a _ e hm;exact .lst e1
  ·cases h
 ·refine FX r n ?_;cases d with
  | loc k=>exact aaK ⟨k,rfl⟩ hd
  | _=>exact h
theorem R5:EB K (λxs H Q=>∃x c t t' b,xs=[x,c]/\lq K H x t/\LK c=some t'/\PySem.W.kitOne K t t'=some b/\Q (.bl b) H) (OA K):=by intro G0 L0 H0 G L M H vs ds q e r n ⟨d,c,t,t',b,ed,h1,h2,hb,h⟩;subst ed;obtain ⟨v,u,rfl,n1,n2⟩:=gK n;exact ⟨v,u,t,t',b,rfl,CQ r n1 h1,L7 n2 h2,hb,bw e r h⟩
end
section
variable{X:Cx}{R:St->XK}{e e2:Expr}{t:DA}{p pos:Pos}
theorem wq(K:fI)(hm:X.mg "isinstance"=none)(ha:JA X R [e,e2] t)(he:starEach [e,e2] X.env=(false,eval e X.env)::starEach [e2] X.env:=by rfl)(gy:(backTo pos (starEach [e2] X.env)).any (·.1)=false:=by rfl)(hg:Gl X "isinstance":=by rfl)(hK:X.K=K:=by rfl):JE X R (.Call (.Name "isinstance" p) [e,e2] [] pos) (BS (OA K) t):=by subst hK;exact iu AN R5 hm oI ha hg (by decide) (by decide) he gy
theorem uS:∀{zs:List Str} {us:List Value},Paired (λ(z:Str) (u:Value)=>∃tk,u= .str z tk) zs us->aB (zs.map V.str) us
 | _,_, .nil=> .nil
 | _,_, .cons h t=> .cons h (uS t)
theorem KD{x:Str}{zs:List Str}(hm:∃a o its n,X.mg x=some (.ref a)/\X.K.lookup a=some o/\o.cls= .type "tuple"/\o.data= .seq its n/\its.size<=sizeLine/\Paired (λ(z:Str) (u:Value)=>∃tk,u= .str z tk) zs its.toList)(hg:Gl X x:=by rfl)(hd:(x==("__debug__":Str))=false:=by decide):JE X R (.Name x pos) (dC (.kt (zs.map .str))):=by obtain ⟨a,o,its,n,h1,h2,h3,h4,h5,h6⟩:=hm;exact Q7 (v:= .ref a) (DN hg h1 rfl hd) λG L=>⟨a,zs.map V.str,rfl, .inr ⟨o,its,n,h2,h3,h4,h5,uS h6⟩,vE⟩
end
theorem gB{te:DE}{cs:En}{ok:Ms->Prop}{f:Dt->Dt}:∀{xs Ι:List Dt} {M:Ms} {k:List Dt->Ms->Prop},ok M->(∀x∈xs,∀q:DQ,q (f x) M->te (some x::cs) M q lD)->k (Ι++xs.map f) M->vb te cs ok xs Ι M k
 | [],Ι,M,k,ho,_,h=>⟨ho,by simpa using h⟩
 | x::xs,Ι,M,k,ho,hf,h=>⟨ho,hf x List.mem_cons_self _ (gB ho (λy hy=>hf y (List.mem_cons_of_mem _ hy)) (by simpa using h))⟩
theorem bD{g:Dt->En->(En->Prop)->Prop}{tb:DS}{Dn:lI}{ok:Ms->Prop}(J:List Dt->En->Ms->Prop)(bc:∀xs ρ M,J xs ρ M->ok M)
  (step:∀x xs ρ M,J (x::xs) ρ M->(∀ρ M,J xs ρ M->vZ g tb Dn ok xs ρ M)->g x ρ λρ'=>tb {Dn with nx:=vZ g tb Dn ok xs,ct:=vZ g tb Dn ok xs,bk:=Dn.nx} ρ' M)
  (fin:∀ρ M,J [] ρ M->Dn.nx ρ M):∀(xs:List Dt) (ρ:En) (M:Ms),J xs ρ M->vZ g tb Dn ok xs ρ M
 | [],ρ,M,h=>⟨bc _ _ _ h,fin _ _ h⟩
 | x::xs,ρ,M,h=>⟨bc _ _ _ h,step x xs ρ M h λρ' M' h'=>bD J bc step fin xs ρ' M' h'⟩
section
variable{K:fI}{G:Hp}{L:List Addr}
mutual
theorem Px:∀(d:Dt) (v:V),Den K G L d v->d.under L.length
 | .aU,_,_=>trivial
 | .bl _,_,_=>trivial
 | .int _,_,_=>trivial
 | .str _,_,_=>trivial
 | .tup ds,_,⟨a,vs,e,h1,h2⟩=>fC ds vs h2
 | .lst ds,_,⟨a,vs,e,h1,h2⟩=>fC ds vs h2
 | .obj C ns ds,_,⟨a,dx,vs,e,h1,hl,h2⟩=>fC ds vs h2
 | .loc k,_,⟨a,e,h1⟩=>(aaf.mp h1).1
 | .ref _,_,_=>trivial
 | .ty _,_,_=>trivial
 | .h_ _,_,_=>trivial
 | .kt ds,_,⟨a,vs,e,h1,h2⟩=>fC ds vs h2
 | .exc _ _ ds,_,⟨a,od,vs,e,h1,h2,h3,h4⟩=>fC ds vs h4
 | .Ro _ _ _ _ ds,_,⟨vs,e,h2,h3,h4⟩=>fC ds vs h4
theorem fC:∀(ds:List Dt) (vs:List V),Ψ K G L ds vs->Dt.bK L.length ds
 | [],_,_=>trivial
 | d::ds,_,⟨v,r,e,h1,h2⟩=>⟨Px d v h1,fC ds r h2⟩
end
theorem Rl.un{M:Ms}{H:Hp}(r:Rl K G L M H):∀m∈M,MO.under M.length m:=λm hm=>by
 obtain ⟨k,hk,e⟩:=abf hm;have em:M[k]? =some m:=by rw [aaa hk,e]
 have el:L[k]? =some (L[k]'(by rw [r.len];exact hk)):=aaa _;obtain ⟨_,q⟩:=r.gJ k _ m el em;rw [<-r.len];cases m with
 | lst ds=>obtain ⟨vs,_,h⟩:=q;exact fC _ _ h
 | ins C ns ds=>obtain ⟨dx,vs,_,_,h⟩:=q;exact fC _ _ h
 | eO ks ds=>obtain ⟨vs,_,_,h⟩:=q;exact fC _ _ h
 | raw u=>trivial
end
def tL(M0:Ms)(q:DQ):DQ:=λd M=>∃E d',M=M0++E/\Hg M0.length E d d'/\q d' M0
theorem Fin.tL{K:fI}{G0:Hp}{L0:List Addr}{M0:Ms}{H0:Hp}{q:DQ}{v:V}{H:Hp}(r0:Rl K G0 L0 M0 H0)(f:Fin K G0 L0 H0 (tL M0 q) v H):Fin K G0 L0 H0 q v H:=by obtain ⟨d,G,L,M,ex,r,dn,E,d',e,fz,hq⟩:=f;exact Fin.yv r0 ⟨d,G,L,M,ex,r,dn,M0,E,d',e,rfl,r0.un,fz,hq⟩
def UZ(t:DE):DE:=λρ M q x=>t ρ M (tL M q) x
theorem cN{X:Cx}{R:St->XK}{e:Expr}{t:DE}(h:JE X R e t):JE X R e (UZ t):= .of h λσ H G L ρ M q x rl n ht hx=>⟨G,L,ρ,M,_,x,rl,n,ht,hx,λv H1 f=>Fin.tL rl f⟩
theorem MZ{M0:Ms}{q:DQ}{d:Dt}(hu:d.under M0.length)(h:q d M0):tL M0 q d M0:=⟨[],d,by simp, .old hu,h⟩
theorem mJ{M0 E:Ms}{q:DQ}{d d':Dt}(f:Hg M0.length E d d')(h:q d' M0):tL M0 q d (M0++E):=⟨E,d',rfl,f,h⟩
def gw(f:Expr->Option Dt):List Expr->Option (List Dt)
 | []=>some []
 | e::es=>match f e,gw f es with
  | some d,some ds=>some (d::ds)
  | _,_=>none
def gZ:Nat->Expr->Option Dt
 | 0,e=>match e with
  | .Constant (.int i) _ _=>some (.int i)
  | .Constant (.str x) _ _=>some (.str x)
  | _=>none
 | n+1,e=>match e with
  | .Constant (.int i) _ _=>some (.int i)
  | .Constant (.str x) _ _=>some (.str x)
  | .Tuple es _ _=>if es.length<=100 then (gw (gZ n) es).map .tup else none
  | .List es _=>if es.length<=100 then (gw (gZ n) es).map .lst else none
  | _=>none
theorem B'{n:Nat}{e:Expr}{d:Dt}{es:List Expr}{env:Env}(h:gZ n e=some d):starEach (e::es) env=(false,eval e env)::starEach es env:=by cases n <;> (unfold gZ at h;split at h <;> first | rfl | cases h)
theorem kC{f:Expr->Option Dt}:∀{es:List Expr} {ds:List Dt},gw f es=some ds->ds.length=es.length
 | [],ds,h=>by cases h;rfl
 | e::es,ds,h=>by
  unfold gw at h;split at h
  ·rename_i d nD h1 h2;cases h;rw [aaC,aaC,kC h2]
  ·cases h
section
variable{X:Cx}{R:St->XK}
theorem rV{n:Nat}(ih:∀(e:Expr) (d:Dt),gZ n e=some d->JE X R e (dC d)):∀(es:List Expr) (ds:List Dt),gw (gZ n) es=some ds->JA X R es (λ_ M q _=>q ds M)
 | [],ds,h=>by cases h;exact θ
 | e::es,ds,h=>by
  unfold gw at h;split at h
  ·rename_i d nD h1 h2;cases h;exact ι (ih e d h1) (rV ih es nD h2) (hs:=B' h1)
  ·cases h
theorem Eg{n:Nat}(h:n<=100):n<=sizeLine:=aax h (by decide)
theorem JE.imp{e:Expr}{t t':DE}(h:JE X R e t)(hi:∀ρ M q x,t' ρ M q x->t ρ M q x):JE X R e t':= .of h λσ H G L ρ M q x rl n ht hx=>⟨G,L,ρ,M,q,x,rl,n,hi _ _ _ _ ht,hx,λ_ _ f=>f⟩
theorem d8:∀(n:Nat) {e:Expr} {d:Dt},gZ n e=some d->JE X R e (dC d)
 | 0,e,d,h=>by
  unfold gZ at h;split at h
  ·cases h;exact υ
  ·cases h;exact iB
  ·cases h
 | n +1,e,d,h=>by
  unfold gZ at h;split at h
  ·cases h;exact υ
  ·cases h;exact iB
  ·split at h
   ·rename_i es _ _ hl;cases hc:gw (gZ n) es with
    | none=>rw [hc] at h;cases h
    | some ds=>
     rw [hc] at h;cases h;exact (dM (rV (λe d=>d8 n) es ds hc)).imp λρ M q x hq=>⟨Eg (by rw [kC hc];exact hl),hq⟩
   ·cases h
  ·split at h
   ·rename_i es _ hl;cases hc:gw (gZ n) es with
    | none=>rw [hc] at h;cases h
    | some ds=>
     rw [hc] at h;cases h;exact (lH (rV (λe d=>d8 n) es ds hc)).imp λρ M q x hq=>⟨Eg (by rw [kC hc];exact hl),hq⟩
   ·cases h
  ·cases h
end
theorem FG:bootBuiltins "zip"=some (.type "zip"):=by decide+kernel
theorem Inv.Lj{X:Cx}{ζ:List (Addr×Obj)}{σ:St}{H:Hp}{s:Shared}{h':Heap}{its:List Addr}{t':Nat}(I:Inv X ζ σ H s)(k:∀b u,b∉its->s.heap.get? b=some u->h'.get? b=some u)(f:∀b∈its,rq X ζ H b):
  Inv X ζ σ H {s with heap:=h',toks:=t'}:=by
 have UR:∀b u,H b=some u->b∉its:=λb u e z=>by rw [(f b z).1] at e;cases e
 refine I.call (ch:=its) (g':=s.gens) (d':=s.drawn) (t':=t') ⟨λb u q _ _ hb=>k b u hb q,λb u q _ _ hb=>⟨u.slots,k b u hb q⟩,λb u q n _=>n,λb u q hb=>⟨u,k b u hb q⟩,λb xs q=>q,λb u xs q=>q,λb ps q=>⟨#[],by rw [q];simp⟩⟩ (λb u e=> ?_) I.bare λb hb=> ?_
 ·refine (I.bc b u e).Cf (λc v hc q=>k c v ?_ q) (λc q=>q) λc xs q=>q;rcases hc with z | z
  ·rw [z];exact UR b u e
  ·exact UR c _ z
 ·obtain ⟨f0,f1,f2,f3,f4,f5⟩:=f b hb;exact ⟨f3,f1,f4,f5⟩
def ZC(K:fI)(l1 l2:Addr):It:=
 ⟨λi H=>∃xs ys x y,gF K H l1 xs/\gF K H l2 ys/\xs[i]? =some x/\ys[i]? =some y,
  λi H v H'=>∃p x y,H p=none/\v= .ref p/\H'=upd H p (.tup [x,y])/\(∀xs,gF K H l1 xs->xs[i]? =some x)/\∀ys,gF K H l2 ys->ys[i]? =some y,
  λi H=>∃xs ys,gF K H l1 xs/\gF K H l2 ys/\(xs.length<=i\/ys.length<=i)⟩
theorem HF{P:Program}{w:World}{K:fI}{elts:List Expr}{x1:Nat}{tp:Pos}{l1 l2 i1 i2 TI TO z:Addr}(D:ZipApart z TI TO i1 i2 l1 l2):Turn P w K (.Tuple elts x1 tp) (ZC K l1 l2) [z,TI,TO,i1,i2] z (λi h=>(∃a b,IsZip h z TI TO .none/\IsPair h TI (.ref i1) (.ref i2)/\IsPair h TO a b)/\h.IsListIter i1 l1 i/\h.IsListIter i2 l2 i) where
 mem:=by simp
 obj:=λi h st b hb=>by
  obtain ⟨⟨a,c,hz,Kz,La⟩,h1,h2⟩:=st;simp only [List.mem_cons,List.not_mem_nil,or_false] at hb;rcases hb with rfl | rfl | rfl | rfl | rfl
  ·exact ⟨_,hz,λv z=>by
    have z':Data.fields _=Data.cell v:=z
    cases z'⟩
  ·exact ⟨_,Kz,λv z=>by
    have z':Data.seq _=Data.cell v:=z
    cases z'⟩
  ·exact ⟨_,La,λv z=>by
    have z':Data.seq _=Data.cell v:=z
    cases z'⟩
  ·obtain ⟨o,e,c,d⟩:=h1;exact ⟨o,e,λv z=>by rw [d] at z;cases z⟩
  ·obtain ⟨o,e,c,d⟩:=h2;exact ⟨o,e,λv z=>by rw [d] at z;cases z⟩
 keep:=λi h h' st k=>by obtain ⟨⟨a,c,hz,Kz,La⟩,h1,h2⟩:=st;exact ⟨⟨a,c,k z (by simp) _ hz,k TI (by simp) _ Kz,k TO (by simp) _ La⟩,h1.at λo q=>k i1 (by simp) o q,h2.at λo q=>k i2 (by simp) o q⟩
 item:=by
  intro X hP hw hK hc i ζ s σ H E I hf st hg;subst hP hw hK;obtain ⟨⟨a,c,hz,Kz,La⟩,h1,h2⟩:=st;obtain ⟨xs,ys,x,y,Sd,RE,hx,hy⟩:=hg;obtain ⟨Wg,Xp,p1,_⟩:=I.list Sd;obtain ⟨u1,hu1,ru1⟩:=Xp.get hx;obtain ⟨KI,YQ,p2,_⟩:=I.list RE;obtain ⟨u2,hu2,ru2⟩:=YQ.get hy;refine wpAny_pyNext_zip_item D hz Kz La h1 h2 p1.isList p2.isList (x:=u1) (y:=u2) (by simpa using hu1) (by simpa using hu2) λh' hz' XJ Xz h2' hT hsz hk=> ?_;refine ⟨_,rfl,wpAny_letOwnedTupleGo_zip (s:={s with heap:=h'}) hz' λh3 hz3 sb=> ?_⟩;have sb:Heap.SameBut z h' h3:=sb;have ZD:z < s.heap.objs.size:=aas hz;have neT:s.heap.objs.size≠z:=acx ZD;have hT3:h3.get? s.heap.objs.size=some {cls:= .type "tuple",data:= .seq #[u1,u2]}:=(sb.2 _ neT).trans hT;have lt:∀b∈[z,TI,TO,i1,i2],b < s.heap.objs.size:=λb hb=>by
   simp only [List.mem_cons,List.not_mem_nil,or_false] at hb;rcases hb with rfl | rfl | rfl | rfl | rfl
   ·exact ZD
   ·exact aas Kz
   ·exact aas La
   ·obtain ⟨o,q,_⟩:=h1;exact aas q
   ·obtain ⟨o,q,_⟩:=h2;exact aas q
  have I2:Inv X ζ σ (upd H s.heap.objs.size (.tup [x,y])) {s with heap:=h3,toks:=s.toks}:=by
   refine I.vj (its:=[z,TI,TO,i1,i2]) (λb o hb q=> ?_) hf (aai _) ?_
   ·simp only [List.mem_cons,List.not_mem_nil,or_false,not_or] at hb;obtain ⟨b1,b2,b3,b4,b5⟩:=hb;exact (sb.2 b b1).trans (hk b o b1 b3 b4 b5 q)
   ·refine ⟨by simp [sizeLine_eq],[u1,u2], .cons ru1 (.cons ru2 .nil), ?_⟩;exact ⟨_,hT3,rfl,0,rfl⟩
  refine ⟨.ref s.heap.objs.size,_,I2,rfl,⟨s.heap.objs.size,x,y,I.bc.fresh (aai _),rfl,rfl,λzs YB=>by rw [I.hU YB Sd];exact hx,λzs YB=>by rw [I.hU YB RE];exact hy⟩,⟨⟨u1,u2,hz3,(sb.2 _ D.TIz).trans (hk _ _ D.TIz D.TITO D.TIi1 D.TIi2 Kz),(sb.2 _ D.TOz).trans XJ⟩,Xz.at λo q=>(sb.2 i1 D.i1z).trans q,h2'.at λo q=>(sb.2 i2 D.i2z).trans q⟩,λb hb=> ?_⟩;rw [Ξ (aaU (lt b hb))];exact (hf b hb).1
 done:=by intro X hP hw hK hc i ζ s σ H E I hf st hg;subst hP hw hK;obtain ⟨⟨a,c,hz,Kz,La⟩,h1,h2⟩:=st;obtain ⟨xs,ys,Sd,RE,hx⟩:=hg;obtain ⟨Wg,Xp,p1,_⟩:=I.list Sd;obtain ⟨KI,YQ,p2,_⟩:=I.list RE;have V7:=Xp.length;have Gk:=YQ.length;refine wpAny_pyNext_zip_end (I.ok.hd hc) D hz Kz La h1 h2 p1.isList p2.isList (by rcases hx with hx | hx;(left;simp;omega);(right;simp;omega)) λh' ext=>⟨rfl,I.Lj (t':=s.toks) (its:=[z,TI,TO,i1,i2]) (λb o hb q=> ?_) hf⟩;simp only [List.mem_cons,List.not_mem_nil,or_false,not_or] at hb;obtain ⟨b1,b2,b3,b4,b5⟩:=hb;exact ext b o b1 b3 b4 b5 q
 self:=λ_ _ _ _ _ st h=>by obtain ⟨⟨a,c,hz,_,_⟩,_⟩:=st;exact wpAny_pyIter_zip hz h
def qj(xs ys:List Dt):List Dt:=(xs.zip ys).map λp=> .tup [p.1,p.2]
theorem J_{xs ys:List Dt}{i:Nat}{d:Dt}(h:(qj xs ys)[i]? =some d):∃x y,xs[i]? =some x/\ys[i]? =some y/\d= .tup [x,y]:=by
 unfold qj at h;rw [aao] at h;cases e:(xs.zip ys)[i]? with
 | none=>rw [e] at h;cases h
 | some p=>
  rw [e] at h;cases h;obtain ⟨h1,h2⟩:=List.getElem?_zip_eq_some.mp e;exact ⟨p.1,p.2,h1,h2,rfl⟩
theorem y4(xs ys:List Dt):(qj xs ys).length=min xs.length ys.length:=by unfold qj;rw [List.length_map,List.length_zip]
theorem Lp{K:fI}{G:Hp}{L:List Addr}{a b:Addr}{xs ys:List Dt}{ok Rr:Ms->Prop}(s:Src K a xs ok G L)(s':Src K b ys Rr G L):Qd K (ZC K a b) (qj xs ys) (λM=>ok M/\Rr M) G L where
 go:=λi G1 L1 M1 H1 d g l r k e=>by obtain ⟨vs,hs,n⟩:=s.at_ G1 L1 M1 H1 g l r k.1;obtain ⟨Vh,Vw,n'⟩:=s'.at_ G1 L1 M1 H1 g l r k.2;obtain ⟨x,y,ex,ey,rfl⟩:=J_ e;obtain ⟨v,e1,n1⟩:=n.get ex;obtain ⟨v',e1',n1'⟩:=n'.get ey;refine ⟨⟨vs,Vh,v,v',hs,Vw,e1,e1'⟩,λw H' ⟨p,x2,y2,hp,ev,eH,hx,hy⟩=> ?_⟩;subst ev eH;have e2:=hx vs hs;rw [e1] at e2;cases e2;have e3:=hy Vh Vw;rw [e1'] at e3;cases e3;exact ⟨_,r.Rm hp,r.NB hp,qB (ds:=[x,y]) r hp ⟨_,_,rfl,n1,_,_,rfl,n1',rfl⟩⟩
 stop:=λi G1 L1 M1 H1 g l r k e=>by obtain ⟨vs,hs,n⟩:=s.at_ G1 L1 M1 H1 g l r k.1;obtain ⟨Vh,Vw,n'⟩:=s'.at_ G1 L1 M1 H1 g l r k.2;refine ⟨vs,Vh,hs,Vw, ?_⟩;rw [<-n.length,<-n'.length];rw [y4] at e;omega
def XQ(t:DA):DK:=λρ M q x=>t ρ M (λds M1=>∃d d' xs ys ok Rr,ds=[d,d']/\lB M1 d=some (xs,ok)/\lB M1 d'=some (ys,Rr)/\q (qj xs ys) (λM=>ok M/\Rr M) M1) x
theorem BQ{X:Cx}{R:St->XK}{elts:List Expr}{x1:Nat}{tp:Pos}{a a':Expr}{t:DA}{p pos:Pos}(hm:X.mg "zip"=none)(ha:JA X R [a,a'] t)(hg:Gl X "zip":=by rfl)(hs:starEach [a,a'] X.env=(false,eval a X.env)::starEach [a'] X.env:=by rfl)(gy:(backTo pos (starEach [a'] X.env)).any (·.1)=false:=by rfl):JK X R (.Tuple elts x1 tp) (.Call (.Name "zip" p) [a,a'] [] pos) (XQ t):=by
 intro ζ s σ H Q I ⟨G,L,ρ,M,q,x,rl,n,ht,hx,hQ⟩;refine Call_ (lV I hg hm FG (PyProof.Rows.callWith_type1 (bF (ha pos ζ s σ H (NI X.K G L H _) I ⟨G,L,ρ,M,_,x,rl,n,ht,hx,λ_ _ f=>f⟩) λus s1 ⟨vs,H1,I1,rv,ds,G1,L1,M1,e1,r1,n1,d,d',xs,ys,ok,Rr,ed,hl,Y4,h1⟩=> ?_) hs gy));subst ed;obtain ⟨v,v',rfl,n2,n2'⟩:=gK n1;obtain ⟨b,ws,rfl,sq,sr,_⟩:=sF r1 n2 hl;obtain ⟨b',ws',rfl,sq',sr',_⟩:=sF r1 n2' Y4;cases rv with
 | cons ru rv=>
  cases rv with
  | cons ru' rv=>
   cases rv;cases ru;cases ru';obtain ⟨its,_,pl,_⟩:=I1.list sq;obtain ⟨its',_,Am,_⟩:=I1.list sq';have lt1:b < s1.heap.objs.size:=by obtain ⟨o,q,_⟩:=pl.isList;exact aas q
   have lt2:b' < s1.heap.objs.size:=by obtain ⟨o,q,_⟩:=Am.isList;exact aas q
   refine call_zip_2 pl.isList Am.isList λh' hz Kz La hi ue hsz hk=> ?_;have I2:Inv X ζ σ H1 {s1 with heap:=h'}:=I1.kept (t':=s1.toks) hk;have D:ZipApart (s1.heap.objs.size+4) (s1.heap.objs.size+2) (s1.heap.objs.size+3) s1.heap.objs.size (s1.heap.objs.size+1) b b':=by have ne:∀i j:Nat,i≠j->s1.heap.objs.size+i≠s1.heap.objs.size+j:=λi j h z=>h (Nat.add_left_cancel z);have n1:∀i:Nat,b≠s1.heap.objs.size+i:=λi=>aaU (aat lt1 (abP _ _));have n2:∀i:Nat,b'≠s1.heap.objs.size+i:=λi=>aaU (aat lt2 (abP _ _));exact ⟨ne 2 4 (by decide),ne 3 4 (by decide),ne 0 4 (by decide),ne 1 4 (by decide),ne 2 3 (by decide),ne 2 0 (by decide),ne 2 1 (by decide),ne 3 0 (by decide),ne 3 1 (by decide),ne 0 1 (by decide),n1 4,n1 3,n1 0,n1 1,n2 4,n2 3,n2 0,n2 1⟩
   refine wpAny_pyIter_zip (s:={s1 with heap:=h'}) hz ⟨s1.heap.objs.size+4,[s1.heap.objs.size+4,s1.heap.objs.size+2,s1.heap.objs.size+3,s1.heap.objs.size,s1.heap.objs.size+1],_,_,H1,rfl,I2,HF D,⟨⟨_,_,hz,Kz,La⟩,hi,ue⟩,λc hc=> ?_,hQ _ _ ⟨_,_,G1,L1,M1,e1,r1,Lp sr sr',h1⟩⟩;have hc:s1.heap.objs.size<=c:=by
    simp only [List.mem_cons,List.not_mem_nil,or_false] at hc;rcases hc with rfl | rfl | rfl | rfl | rfl
    ·exact abP _ _
    ·exact abP _ _
    ·exact abP _ _
    ·exact aai _
    ·exact abP _ _
   have f:=I1.Cn (H':=H1) hc (I1.bc.fresh hc);exact f
section
variable{X:Cx}{R:St->XK}{elt iter c:Expr}{x y:Str}{px py tp:Pos}{scope:Scope}{pos:Pos}{ti:DK}{tc:DT}{te:DE}{ys:List Str}{ah:List Nat}{kk:Nat}
theorem Kx(S:aK X scope [x] ys ah)(hi:JK X R (.Name x px) iter ti)(ht:∀C s H fp,JT (Cx.comp X (x::ys) scope C s H fp) (λ_=>E0) c tc)(he:∀C s H fp,JE (Cx.comp X (x::ys) scope C s H fp) (λ_=>E0) elt te)(hc:X.calm=true:=by rfl)(hs:∀x,foldedSetIterable iter X.env x=pure x:=by intro _;rfl):JE X R (.ListComp elt [⟨.Name x px,iter,[c],0⟩] scope pos) (BC 1 ti (gN 0) tc te ah):=Sv false S hi (iV S (i:=0) rfl) aL (jE (Nat.zero_lt_succ 0)) (λC s H fp=>DO (ht C s H fp)) he hc hs λ_ _ _ _ h=>h
theorem JJ(S:aK X scope [x,y] ys ah)(hi:JK X R (.Tuple [.Name x px, .Name y py] kk tp) iter ti)(ht:∀C s H fp,JT (Cx.comp X (x::y::ys) scope C s H fp) (λ_=>E0) c tc)(he:∀C s H fp,JE (Cx.comp X (x::y::ys) scope C s H fp) (λ_=>E0) elt te)(hc:X.calm=true:=by rfl)(hs:∀x,foldedSetIterable iter X.env x=pure x:=by intro _;rfl):JE X R (.ListComp elt [⟨.Tuple [.Name x px, .Name y py] kk tp,iter,[c],0⟩] scope pos) (BC 2 ti (g2 0 1) tc te ah):=Sv false S hi (Er hc S) pq (uP (Nat.zero_lt_succ 1) (abq 1)) (λC s H fp=>DO (ht C s H fp)) he hc hs λ_ _ _ _ h=>h
end
theorem gm{g:Dt->En->(En->Prop)->Prop}{tc:DT}{te:DE}{ρ0:En}{ok:Ms->Prop}{M:Ms}{k:List Dt->Ms->Prop}(ho:ok M)(b:Dt->Bool)(f:Dt->Dt):∀(xs Ι:List Dt),(∀x∈xs,∀(q:DQ) (p:Ms->Prop),(b x=true->q (f x) M)->(b x=false->p M)->g x ρ0 λρ'=>tc ρ' M (λb' M1=>match b' with | true=>te ρ' M1 q lD | false=>p M1) lD)->
  k (Ι++(xs.filter b).map f) M->i0 g tc te ρ0 ok xs Ι M k
 | [],Ι,_,h=>⟨ho,by simpa using h⟩
 | x::xs,Ι,ht,h=>⟨ho,ht x List.mem_cons_self _ _ (λhb=>gm ho b f xs _ (λy hy=>ht y (List.mem_cons_of_mem _ hy)) (by simpa [hb] using h)) λhb=>gm ho b f xs _ (λy hy=>ht y (List.mem_cons_of_mem _ hy)) (by simpa [hb] using h)⟩
theorem Gf(xs:List V)(k:Nat):uu xs (some (k:Int)) none=xs.drop k:=by
 unfold uu;rw [HT.qJ,HT.zy];by_cases h:k<=xs.length
 ·rw [acp h,abN (by rw [abH];omega)]
 ·rw [Nat.min_eq_right (by omega),List.drop_eq_nil_of_le (Nat.le_refl _),List.drop_eq_nil_of_le (by omega)];simp
section
variable{κ:Type} [DecidableEq κ]
def jU(Ρ:List (κ×V))(k:κ):Option V:=(Ρ.find? λkv=>decide (kv.1=k)).map (·.2)
def iM(Ρ:List (κ×V))(k:κ)(v:V):List (κ×V):=
 if (Ρ.any λkv=>decide (kv.1=k))=true then Ρ.map (λkv=>if kv.1=k then (kv.1,v) else kv) else Ρ++[(k,v)]
theorem eU{p:κ×V}{r:List (κ×V)}{k:κ}(e:p.1=k):jU (p::r) k=some p.2:=by simp [jU,List.find?_cons,e]
theorem eY{p:κ×V}{r:List (κ×V)}{k:κ}(e:¬p.1=k):jU (p::r) k=jU r k:=by simp [jU,List.find?_cons,e]
theorem nB(k:κ):∀Ρ:List (κ×V),(Ρ.any λkv=>decide (kv.1=k))=(jU Ρ k).isSome
 | []=>rfl
 | p::r=>by
  rw [abZ];by_cases e:p.1=k
  ·simp only [eU e,decide_eq_true e,Bool.true_or,Option.isSome_some]
  ·rw [eY e,aaI e,Bool.false_or];exact nB k r
theorem vx(k j:κ)(y:V):∀Ρ:List (κ×V),jU Ρ k=none->jU (Ρ++[(k,y)]) j=if j=k then some y else jU Ρ j
 | [],_=>by
  by_cases e:k=j
  ·rw [aaw e.symm];exact eU (p:=(k,y)) e
  ·rw [aav (λz=>e z.symm)];exact eY (p:=(k,y)) e
 | p::r,hn=>by
  rw [List.cons_append];have hk:¬p.1=k:=λz=>by rw [eU z] at hn;cases hn
  rw [eY hk] at hn;have ih:=vx k j y r hn;by_cases e:p.1=j
  ·rw [eU e,eU e,aav (λz=>hk (e.trans z))]
  ·rw [eY e,eY e,ih]
theorem kM(Ρ:List (κ×V))(k:κ)(v:V):(iM Ρ k v).length<=Ρ.length+1:=by
 unfold iM;split
 ·rw [aad];omega
 ·rw [aag,aaC,List.length_nil];omega
theorem JG{Ρ:List (κ×V)}{k:κ}(v:V)(h:jU Ρ k=none):iM Ρ k v=Ρ++[(k,v)]:=by unfold iM;rw [nB,h];exact aav (by decide)
theorem kz.iT{o:Option V}{u:Option Value}(r:kz o u):o.isSome=u.isSome:=by
 cases o with
 | none=>cases u with
  | none=>rfl
  | some _=>exact (show False from r).elim
 | some _=>cases u with
  | none=>exact (show False from r).elim
  | some _=>rfl
theorem KV.val{Ρ:List (κ×V)}{vs:List (κ×Value)}(r:KV Ρ vs)(k:κ):kz (jU Ρ k) (valueAt vs k):=by
 unfold KV at r
 induction r with
 | nil=>exact True.intro
 | @cons p q ps qs h t ih=>
  obtain ⟨h1,h2⟩:=h;by_cases e:p.1=k
  ·have e':q.1=k:=h1.symm.trans e;have b:valueAt (q::qs) k=some q.2:=by simp [valueAt,List.find?_cons,e']
   rw [eU e,b];exact h2
  ·have e':¬q.1=k:=λz=>e (h1.trans z);have b:valueAt (q::qs) k=valueAt qs k:=by simp [valueAt,List.find?_cons,e']
   rw [eY e,b];exact ih
theorem KV.any{Ρ:List (κ×V)}{vs:List (κ×Value)}(r:KV Ρ vs)(k:κ):(Ρ.any λkv=>decide (kv.1=k))=vs.any λkv=>decide (kv.1=k):=by
 unfold KV at r
 induction r with
 | nil=>rfl
 | cons h t ih=>rw [abZ,abZ,ih,h.1]
theorem KV.PN{Ρ:List (κ×V)}{vs:List (κ×Value)}(r:KV Ρ vs)(k:κ){y:V}{u:Value}(ry:aH y u):
  KV (Ρ.map λkv=>if kv.1=k then (kv.1,y) else kv) (vs.map λkv=>if kv.1=k then (kv.1,u) else kv):=by
 unfold KV at r⊢
 induction r with
 | nil=>exact .nil
 | @cons p q ps qs h t ih=>
  rw [aaJ,aaJ];refine .cons ?_ ih;obtain ⟨h1,h2⟩:=h;by_cases e:p.1=k
  ·rw [aaw e,aaw (h1.symm.trans e)];exact ⟨h1,ry⟩
  ·rw [aav e,aav (λz=>e (h1.trans z))];exact ⟨h1,h2⟩
theorem KV.put{Ρ:List (κ×V)}{vs:List (κ×Value)}(r:KV Ρ vs)(k:κ){y:V}{u:Value}(ry:aH y u):KV (iM Ρ k y) (stored vs k u):=by
 unfold iM stored;rw [r.any k];by_cases e:(vs.any λkv=>decide (kv.1=k))=true
 ·rw [aaw e,aaw e];exact r.PN k ry
 ·rw [aav e,aav e];exact Paired.snoc r ⟨rfl,ry⟩
theorem KV.length{Ρ:List (κ×V)}{vs:List (κ×Value)}(r:KV Ρ vs):Ρ.length=vs.length:=Paired.length r
end
theorem rB{P:Program}{w:World}{k:Key}{u:Value}(r:aH (kV k) u):(bG P w).is k u=true:=by
 cases k with
 | inl i=>obtain ⟨t,e⟩:=(show∃t,u=Value.int i t from r);subst e;exact AQ P w i t
 | inr x=>obtain ⟨t,e⟩:=(show∃t,u=Value.str x t from r);subst e;exact zF P w x t
theorem vt{P:Program}{w:World}:∀{ks:List Key} {us:List Value},aB (ks.map kV) us->ItemsAre (bG P w) ks us
 | [],_,r=>by rw [List.map_nil] at r;cases r;exact .nil
 | k::ks,_,r=>by
  rw [aaJ] at r;cases r with
  | cons h t=>exact .cons (rB h) (vt t)
abbrev KT(H:Hp):List (List Key×V)->List (List Key×Addr×Value)->Prop:=Paired λp q=>p.1=q.1/\H q.2.1=some (.tup (p.1.map kV))/\aH p.2 q.2.2
theorem KT.val{H:Hp}{Ρ:List (List Key×V)}{xs:List (List Key×Addr×Value)}(r:KT H Ρ xs)(k:List Key):kz (jU Ρ k) ((atKey xs k).map (·.2)):=by
 induction r with
 | nil=>exact True.intro
 | @cons p q ps qs h t ih=>
  obtain ⟨h1,_,h2⟩:=h;by_cases e:p.1=k
  ·have e':q.1=k:=h1.symm.trans e;have b:atKey (q::qs) k=some q.2:=by simp [atKey,List.find?_cons,e']
   rw [eU e,b];exact h2
  ·have e':¬q.1=k:=λz=>e (h1.trans z);have b:atKey (q::qs) k=atKey qs k:=by simp [atKey,List.find?_cons,e']
   rw [eY e,b];exact ih
theorem KT.PN{H:Hp}{Ρ:List (List Key×V)}{xs:List (List Key×Addr×Value)}(r:KT H Ρ xs)(k:List Key){y:V}{u:Value}(ry:aH y u):
  KT H (Ρ.map λkv=>if kv.1=k then (kv.1,y) else kv) (xs.map (putAt k u)):=by
 induction r with
 | nil=>exact .nil
 | @cons p q ps qs h t ih=>
  rw [aaJ,aaJ];refine .cons ?_ ih;obtain ⟨h1,h2,h3⟩:=h;unfold putAt;by_cases e:p.1=k
  ·rw [aaw e,aaw (h1.symm.trans e)];exact ⟨h1,h2,ry⟩
  ·rw [aav e,aav (λz=>e (h1.trans z))];exact ⟨h1,h2,h3⟩
theorem KT.put{H:Hp}{Ρ:List (List Key×V)}{xs:List (List Key×Addr×Value)}(r:KT H Ρ xs)(k:List Key){b:Addr}{y:V}{u:Value}(hb:H b=some (.tup (k.map kV)))(ry:aH y u):
  KT H (iM Ρ k y) (storedH xs k b u):=by
 have e:(Ρ.any λkv=>decide (kv.1=k))=(atKey xs k).isSome:=by rw [nB,(r.val k).iT,Option.isSome_map]
 unfold iM storedH;rw [e];by_cases q:(atKey xs k).isSome=true
 ·rw [aaw q,aaw q];exact r.PN k ry
 ·rw [aav q,aav q];exact Paired.snoc r ⟨rfl,hb,ry⟩
theorem KT.keeps{H H':Hp}{Ρ:List (List Key×V)}{xs:List (List Key×Addr×Value)}(r:KT H Ρ xs)(ht:∀b ys,H b=some (.tup ys)->H' b=some (.tup ys)):KT H' Ρ xs:=
 Paired.QL r λ_ _ z=>⟨z.1,ht _ _ z.2.1,z.2.2⟩
section
variable{P:Program}{w:World}{H:Hp}{h:Heap}{a:Addr}
theorem Oh{u:HO}(ok:ly P w H h)(e:Rd H a u):b_ P w H h a u:=e.ok ok
theorem nW{Ρ:List (Key×V)}(ok:ly P w H h)(e:Rd H a (.dK Ρ)):Ρ.length<=sizeLine/\(a==sysModules)=false/\∃vs,KV Ρ vs/\h.DictOf (bG P w) a vs:=
 show b_ P w H h a (.dK Ρ) from Oh ok e
theorem Dd{Ρ:List (Key×V)}(ok:ly P w H h)(e:H a=some (.dK Ρ)):Ρ.length<=sizeLine/\(a==sysModules)=false/\∃vs,KV Ρ vs/\h.DictOf (bG P w) a vs:=nW ok (.inl e)
theorem rP{ks:List Key}(ok:ly P w H h)(e:H a=some (.tup (ks.map kV))):(tupleKind (bG P w)).is h ks a:=by obtain ⟨_,its,r,o,h1,h2,n,h3⟩:=(show b_ P w H h a (.tup (ks.map kV)) from ok a _ e);exact ⟨o,its.toArray,n,h1,h2,h3,by simpa using vt r⟩
theorem vA{Ρ:List (List Key×V)}(ok:ly P w H h)(e:Rd H a (.dT Ρ)):Ρ.length<=sizeLine/\(a==sysModules)=false/\
  ∃xs,KT H Ρ xs/\h.DictOfH (tupleKind (bG P w)) a xs:=by
 obtain ⟨z,y,xs,r,o,es,ep,h1,h2,h3,h4,h5⟩:=(show b_ P w H h a (.dT Ρ) from Oh ok e);refine ⟨z,y,xs,r,o,es,ep,h1,h2,h3,h4,λx hx=> ?_,h5⟩;have all:∀{l:List (List Key×V)} {m:List (List Key×Addr×Value)},KT H l m->∀x∈m,(tupleKind (bG P w)).is h x.1 x.2.1:=by
  intro l m q
  induction q with
  | nil=>intro x hx;exact nomatch hx
  | @cons p q ps qs hq t ih=>
   intro x hx;rcases aaF.mp hx with e | hx
   ·subst e;exact rP ok (by rw [<-hq.1];exact hq.2.1)
   ·exact ih x hx
 exact all r x hx
theorem TC{Ρ:List (List Key×V)}(ok:ly P w H h)(e:H a=some (.dT Ρ)):Ρ.length<=sizeLine/\(a==sysModules)=false/\
  ∃xs,KT H Ρ xs/\h.DictOfH (tupleKind (bG P w)) a xs:=vA ok (.inl e)
end
def wb(H:Hp)(a:Addr)(y:V)(r:Option V):Prop:=
 (∃Ρ k,Rd H a (.dK Ρ)/\y=kV k/\r=jU Ρ k)\/∃Ρ k b,Rd H a (.dT Ρ)/\y= .ref b/\H b=some (.tup (k.map kV))/\r=jU Ρ k
def Hn(H:Hp)(a:Addr)(y v:V)(H':Hp):Prop:=
 (∃Ρ k,H a=some (.dK Ρ)/\y=kV k/\Ρ.length < sizeLine/\H'=upd H a (.dK (iM Ρ k v)))\/
 ∃Ρ k b,H a=some (.dT Ρ)/\y= .ref b/\H b=some (.tup (k.map kV))/\Ρ.length < sizeLine/\H'=upd H a (.dT (iM Ρ k v))
theorem Hn.k{H:Hp}{a:Addr}{Ρ:List (Key×V)}{k:Key}{v:V}(e:H a=some (.dK Ρ))(hl:Ρ.length < sizeLine):Hn H a (kV k) v (upd H a (.dK (iM Ρ k v))):= .inl ⟨Ρ,k,e,rfl,hl,rfl⟩
section
variable{X:Cx}{ζ:List (Addr×Obj)}{σ:St}{H:Hp}{s:Shared}{a:Addr}{y v:V}{u r:Value}{o:Option V}{A:Around}{E:Value->Shared->Prop}
theorem Inv.big(I:Inv X ζ σ H s):sysModules < s.heap.objs.size:=by have h:mainGlobals < s.heap.objs.size:=(I.mod.glob.keeps I.bk).lt;exact Nat.lt_trans (by decide) h
theorem FU{Q:Value->Shared->Prop}(hu:A.units+1 < cLine)(I:Inv X ζ σ H s)(g:wb H a y (some v))(ry:aH y u)(h:∀w' s',Inv X ζ σ H s'->aH v w'->Q w' s'):
  wpAny (model X.prog X.w) A (getItem (.ref a) u) Q E s:=by
 rcases g with ⟨Ρ,k,e,ey,l⟩ | ⟨Ρ,k,b,e,ey,eb,l⟩
 ·subst ey;obtain ⟨z,hd,vs,rel,dd⟩:=nW I.bc e;obtain ⟨w',hw,Fe⟩:=kz.some_of (v:=v) (o:=valueAt vs k) (by rw [l];exact rel.val k);exact wpAny_getItem_of (rB ry) dd.mapOf hw (h w' _ (I.tok _) Fe)
 ·subst ey;cases (show u=Value.ref b from ry);obtain ⟨z,hd,xs,rel,dd⟩:=vA I.bc e;obtain ⟨w',hw,Fe⟩:=kz.some_of (v:=v) (o:=(atKey xs k).map (·.2)) (by rw [l];exact rel.val k);obtain ⟨p,hp,YA⟩:=Option.map_eq_some_iff.mp hw;refine wpAny_getItem_heap (tupleKind_room_in1 hu) (rP I.bc eb) dd hp ?_;rw [YA];exact h w' _ (I.tok _) Fe
theorem Wy{Q:Value->Shared->Prop}(hu:A.units+1 < cLine)(I:Inv X ζ σ H s)(g:wb H a y o)(ry:aH y u)(h:∀s',Inv X ζ σ H s'->Q (.bool o.isSome) s'):
  wpAny (model X.prog X.w) A (compareOp .In u (.ref a)) Q E s:=by
 rcases g with ⟨Ρ,k,e,ey,l⟩ | ⟨Ρ,k,b,e,ey,eb,l⟩
 ·subst ey;obtain ⟨z,hd,vs,rel,dd⟩:=nW I.bc e;refine wpAny_in_of (rB ry) hd dd.mapOf ?_;rw [<-(rel.val k).iT,<-l];exact h _ (I.tok _)
 ·subst ey;cases (show u=Value.ref b from ry);obtain ⟨z,hd,xs,rel,dd⟩:=vA I.bc e;refine wpAny_in_heap (tupleKind_room_in1 hu) (rP I.bc eb) hd dd ?_;have q:=(rel.val k).iT;rw [Option.isSome_map] at q;rw [<-q,<-l];exact h _ (I.tok _)
theorem MP{Q:Value->Shared->Prop}(hu:A.units+1 < cLine)(I:Inv X ζ σ H s)(g:wb H a y o)(ry:aH y u)(h:∀s',Inv X ζ σ H s'->Q (.bool (!o.isSome)) s'):
  wpAny (model X.prog X.w) A (compareOp .NotIn u (.ref a)) Q E s:=by
 rcases g with ⟨Ρ,k,e,ey,l⟩ | ⟨Ρ,k,b,e,ey,eb,l⟩
 ·subst ey;obtain ⟨z,hd,vs,rel,dd⟩:=nW I.bc e;refine wpAny_notIn_of (rB ry) hd dd.mapOf ?_;rw [<-(rel.val k).iT,<-l];exact h _ (I.tok _)
 ·subst ey;cases (show u=Value.ref b from ry);obtain ⟨z,hd,xs,rel,dd⟩:=vA I.bc e;refine wpAny_notIn_heap (tupleKind_room_in1 hu) (rP I.bc eb) hd dd ?_;have q:=(rel.val k).iT;rw [Option.isSome_map] at q;rw [<-q,<-l];exact h _ (I.tok _)
theorem qy{h':Heap}{t':Nat}{ob:HO}(I:Inv X ζ σ H s)(mu:RB (H a))(hs:Heap.SameBut a s.heap h')(he:∃q,h'.get? a=some q)(new:b_ X.prog X.w (upd H a ob) h' a ob):
  Inv X ζ σ (upd H a ob) {s with heap:=h',toks:=t'}:=
 I.write (x:=a) (e:=a) mu (.inl rfl) (λb q hb z=>(hs.2 b hb).trans z) he new
theorem tM{P:Program}{w:World}{H':Hp}{h':Heap}{Ρ:List (Key×V)}{vs:List (Key×Value)}(z:Ρ.length<=sizeLine)(hd:(a==sysModules)=false)(rel:KV Ρ vs)(dd:h'.DictOf (bG P w) a vs):
  b_ P w H' h' a (.dK Ρ):=⟨z,hd,vs,rel,dd⟩
theorem E7{H':Hp}{Q:Unit->Shared->Prop}(hu:A.units+1 < cLine)(I:Inv X ζ σ H s)(g:Hn H a y v H')(ry:aH y u)(rv:aH v r)(h:∀s',Inv X ζ σ H' s'->Q () s'):
  wpAny (model X.prog X.w) A (setItem (.ref a) u r) Q E s:=by
 rcases g with ⟨Ρ,k,e,ey,l,eH⟩ | ⟨Ρ,k,b,e,ey,eb,l,eH⟩
 ·subst ey eH;obtain ⟨z,hd,vs,rel,dd⟩:=Dd I.bc e;have hz:vs.length<=sizeLine:=by rw [<-rel.length];exact z
  have hl:(iM Ρ k v).length<=sizeLine:=by have:=kM Ρ k v;omega
  refine wpAny_setItem_pairs (hsz:=hz) (rB ry) dd λh' Mz hs=>h _ ?_;have he:∃q,h'.get? a=some q:=let ⟨q,_,_,hq,_⟩:=Mz;⟨q,hq⟩
  exact qy I (by rw [e];exact True.intro) hs he (tM hl hd (rel.put k rv) Mz)
 ·subst ey eH;cases (show u=Value.ref b from ry);obtain ⟨z,hd,xs,rel,dd⟩:=TC I.bc e;have hz:xs.length<=sizeLine:=by rw [<-Paired.length rel];exact z
  have hl:(iM Ρ k v).length<=sizeLine:=by have:=kM Ρ k v;omega
  refine wpAny_setItem_heap (hsz:=hz) (tupleKind_room_in1 hu) (rP I.bc eb) dd λh' Mz hs=>h _ ?_;obtain ⟨q,es,ep,hq,h2,h3,h4,_,h5⟩:=Mz;refine qy I (by rw [e];exact True.intro) hs ⟨q,hq⟩ ⟨hl,hd,_,(rel.put k eb rv).keeps λc ys ec=> ?_,q,es,ep,hq,h2,h3,h4,h5⟩;rw [Ξ (Sn ec e (λz=>nomatch z))];exact ec
end
section
variable{X:Cx}{ζ:List (Addr×Obj)}{σ:St}{H:Hp}{s:Shared}{a:Addr}{Ρ:List (Key×V)}{k:Key}{u:Value}{A:Around}{E:Value->Shared->Prop}
theorem Te{Q:Value->Shared->Prop}(I:Inv X ζ σ H s)(e:Rd H a (.dK Ρ))(h:∀t s',Inv X ζ σ H s'->Q (.int Ρ.length t) s'):wpAny (model X.prog X.w) A (call (.builtin "len") [.ref a]) Q E s:=by obtain ⟨z,hd,vs,rel,dd⟩:=nW I.bc e;refine call_len_dict hd dd (by rw [<-rel.length];rw [sizeLine_eq] at z;omega) ?_;rw [<-rel.length];exact h _ _ (I.tok _)
end
def BE(i:Expr):Prop:=∀ov iv,subscripted i false ov iv=operate [ov,iv] (getItem ov iv)
theorem wO{prog:Program}{w:World}{A:Around}{E:Value->Shared->Prop}{s:Shared}{env:Env}{value slice:Expr}{pos:Pos}{T id:String}{Q:Value->Shared->Prop}
  (hl:typeLookup (.type T) "__getitem__"=pure (some (.builtin id))) (hs:BE slice)
  (h:wpAny (model prog w) A (eval value env) (λo s₁=>wpAny (model prog w) A (eval slice env) (λi s₂=>s₂.TypeIs o T/\wpAny (model prog w) A (getItem o i) Q E s₂) E s₁) E s):
  wpAny (model prog w) A (eval (.Subscript value slice pos) env) Q E s:=by
 refine Subscript_ (ab8 h (λo s₁ h₁=>ab8 h₁ (λi s₂ h₂=> ?_) λ_ _ x=>x) λ_ _ x=>x);obtain ⟨hT,h₂⟩:=h₂;unfold subscriptTail;refine aaG ?_;rw [getitemInPython_of_ne hT.not_modules];refine aaG (wpAny_specialOf hT hl ?_);have fin:wpAny (model prog w) A (subscripted slice false o i) (λr s₃=>wpAny (model prog w) A (letTemporaryGo value o r >>= λ_=>pure r) Q E s₃) E s₂:=by rw [hs o i];exact wpAny_operating (ab8 h₂ (λr s₃ h₃=>aaG (wpAny_letTemporaryGo (abe h₃))) λ_ _ x=>x)
 first
  | exact abe (aaG fin)
  | exact aaG (abe (aaG fin))
  | exact aaG fin
theorem zW{X:Cx}{ζ:List (Addr×Obj)}{σ:St}{H:Hp}{s:Shared}{a:Addr}{y:V}{o:Option V}(I:Inv X ζ σ H s)(g:wb H a y o):s.TypeIs (.ref a) "dict":=by
 rcases g with ⟨Ρ,k,e,_,_⟩ | ⟨Ρ,k,b,e,_,_,_⟩
 ·obtain ⟨_,_,vs,_,dd⟩:=nW I.bc e;exact dd.typeIs
 ·obtain ⟨_,_,xs,_,dd⟩:=vA I.bc e;exact dd.typeIs
def TN(td ty:TE):TE:=λσ H Q=>td σ H λx H1=>ty σ H1 λy H2=>∃a v,x= .ref a/\wb H2 a y (some v)/\Q v H2
def Tg(td ty tv:TE):TS:=λD σ H=>tv σ H λv H1=>td σ H1 λx H2=>ty σ H2 λy H3=>∃a H4,x= .ref a/\Hn H3 a y v H4/\D.nx σ H4
section
variable{X:Cx}{o i e value:Expr}{pos pos' uA:Pos}{td ty tv:TE}
theorem MG(hu:X.A.units+1 < cLine)(ho:PE X o td)(hi:PE X i ty)(hs:BE i):PE X (.Subscript o i pos) (TN td ty):=by intro ζ s σ H Q I h;refine wO acb.lookup hs (bF (ho ζ s σ H _ I h) λu s1 ⟨x,H1,I1,rx,q1⟩=>bF (hi ζ s1 σ H1 _ I1 q1) λiv s2 ⟨y,H2,I2,ry,a,v,ex,g,q2⟩=> ?_);subst ex;obtain rfl:u=Value.ref a:=rx;exact ⟨zW I2 g,FU hu I2 g ry λw' s3 I3 Fe=>⟨v,H2,I3,Fe,q2⟩⟩
theorem LX(hu:X.A.units+1 < cLine)(ho:PE X o td)(hi:PE X i ty)(hv:PE X value tv)(hs:swapsWith value (some (.Subscript o i pos')) pos.line X.env=pure false):
  PS X (.Assign [.Subscript o i pos'] value pos) (Tg td ty tv):=by
 intro ζ s σ H D I h;refine wpAny_Assign_Subscript (bF (hv ζ s σ H _ I h) λr s1 ⟨v,H1,I1,rv,q1⟩=>bF (ho ζ s1 σ H1 _ I1 q1) λu s2 ⟨x,H2,I2,rx,q2⟩=>bF (hi ζ s2 σ H2 _ I2 q2) λiv s3 ⟨y,H3,I3,ry,a,H4,ex,g,q3⟩=> ?_) hs;subst ex;obtain rfl:u=Value.ref a:=rx;exact E7 hu I3 g ry rv λs4 I4=>⟨σ,H4,I4,q3⟩
end
theorem zg{P:Program}{w:World}{H:Hp}(h:Heap)(hb:sysModules < h.objs.size):b_ P w H (h.push {cls:= .type "dict",data:= .dict #[]}) h.objs.size (.dK []):=
 ⟨ab5 _,beq_eq_false_iff_ne.mpr (Ne.symm (aaU hb)),[], .nil,Heap.DictOf.new h⟩
def O2:TE:=λ_ H Q=>∀p,H p=none->Q (.ref p) (upd H p (.dK []))
section
variable{X:Cx}{pos:Pos}
theorem Jq:PE X (.Dict [] [] pos) O2:=λζ s σ H Q I h=>
 wpAny_Dict_empty ⟨.ref s.heap.objs.size,_,I.laid (a:=s.heap.objs.size) (o:= .dK []) (t':=s.toks) (λ_ _ q=>aal _ q) (aai _) (zg s.heap I.big),rfl,h _ (I.bc.fresh (aai _))⟩
end
def Ca:List (TE×TE)->St->Hp->(List (V×V)->Hp->Prop)->Prop
 | [],_,H,Q=>Q [] H
 | (tk,tv)::r,σ,H,Q=>tk σ H λx H1=>tv σ H1 λy H2=>Ca r σ H2 λps H3=>Q ((x,y)::ps) H3
abbrev VV:List (V×V)->List (Value×Value)->Prop:=Paired λp q=>aH p.1 q.1/\aH p.2 q.2
def Vy(X:Cx)(pos:Pos)(keys:List (Option Expr))(values:List Expr)(MJ:List (TE×TE)):Prop:=
 ∀(ζ:List (Addr×Obj)) (s:Shared) (σ:St) (H:Hp) (Q:List (V×V)->Hp->Prop),Inv X ζ σ H s->Ca MJ σ H Q->
  wpAny (model X.prog X.w) X.A (evalPairs (pairTrees keys values X.env pos)) (λvs s'=>∃ps H',Inv X ζ σ H' s'/\VV ps vs/\Q ps H') X.xe s
theorem Nv{X:Cx}{pos:Pos}:Vy X pos [] [] []:=λζ s σ H Q I h=>pairTrees_nil_walk ⟨[],H,I, .nil,h⟩
theorem HV{X:Cx}{pos:Pos}{k v:Expr}{ks:List (Option Expr)}{vs:List Expr}{tk tv:TE}{MJ:List (TE×TE)}(hk:PE X k tk)(hv:PE X v tv)(hr:Vy X pos ks vs MJ):
  Vy X pos (some k::ks) (v::vs) ((tk,tv)::MJ):=λζ s σ H Q I h=>
 pairTrees_cons_walk (bF (hk ζ s σ H _ I h) λu s1 ⟨x,H1,I1,rx,q1⟩=>bF (hv ζ s1 σ H1 _ I1 q1) λw2 s2 ⟨y,H2,I2,ry,q2⟩=>
  bF (hr ζ s2 σ H2 _ I2 q2) λws s3 ⟨ps,H3,I3,rel,q3⟩=>⟨(x,y)::ps,H3,I3, .cons ⟨rx,ry⟩ rel,q3⟩)
def iL(Ρ more:List (Key×V)):List (Key×V):=more.foldl (λΙ kv=>iM Ι kv.1 kv.2) Ρ
theorem KV.merge:∀{more:List (Key×V)} {rs:List (Key×Value)} {Ρ:List (Key×V)} {vs:List (Key×Value)},KV more rs->KV Ρ vs->KV (iL Ρ more) (merged vs rs):=by
 intro more rs Ρ vs r;unfold KV at r
 induction r generalizing Ρ vs with
 | nil=>intro q;exact q
 | @cons p q ps qs h t ih=>
  intro r0;have e:KV (iM Ρ p.1 p.2) (stored vs q.1 q.2):=by have:=r0.put p.1 h.2;rw [<-h.1];exact this
  exact ih e
theorem iz:∀(more Ρ:List (Key×V)),(iL Ρ more).length<=Ρ.length+more.length
 | [],Ρ=>by show Ρ.length<=Ρ.length+0;omega
 | p::r,Ρ=>by have h1:=iz r (iM Ρ p.1 p.2);have h2:=kM Ρ p.1 p.2;show (iL (iM Ρ p.1 p.2) r).length<=_;rw [aaC];omega
theorem sR{P:Program}{w:World}:∀{Ρ:List (Key×V)} {ws:List (Value×Value)},VV (Ρ.map λkv=>(kV kv.1,kv.2)) ws->∃rs,Carries (bG P w) ws rs/\KV Ρ rs
 | [],_,r=>by rw [List.map_nil] at r;cases r;exact ⟨[],True.intro, .nil⟩
 | p::Ρ,_,r=>by
  rw [aaJ] at r;cases r with
  | @cons a b as bs h t=>
   obtain ⟨rs,c,q⟩:=sR (P:=P) (w:=w) t;obtain ⟨b1,b2⟩:=b;exact ⟨(p.1,b2)::rs,⟨rB h.1,rfl,c⟩, .cons ⟨rfl,h.2⟩ q⟩
def Se(MJ:List (TE×TE)):TE:=λσ H Q=>∀p,H p=none->Ca MJ σ (upd H p (.dK [])) λps H2=>H2 p=some (.dK [])/\∃Ρ:List (Key×V),ps=Ρ.map (λkv=>(kV kv.1,kv.2))/\Ρ.length<=15/\Q (.ref p) (upd H2 p (.dK (iL [] Ρ)))
theorem LD{X:Cx}{pos:Pos}{keys:List (Option Expr)}{values:List Expr}{MJ:List (TE×TE)}(h:Vy X pos keys values MJ)(OO:keys.all (·.isSome)=true)(hl:keys.length=values.length)(h0:keys≠[])
  (h15:keys.length<=15):PE X (.Dict keys values pos) (Se MJ):=by
 intro ζ s σ H Q I q;have hn:=I.bc.fresh (aai s.heap.objs.size);have I1:=I.laid (a:=s.heap.objs.size) (o:= .dK []) (h':=s.heap.push {cls:= .type "dict",data:= .dict #[]}) (t':=s.toks) (λ_ _ q=>aal _ q) (aai _) (zg s.heap I.big);refine wpAny_Dict_walk (knd:=bG X.prog X.w) OO hl h0 h15 (bF (h ζ _ σ _ _ I1 (q _ hn)) λws s2 ⟨ps,H2,I2,rel,e,Ρ,ep,lk,q2⟩=> ?_);subst ep;obtain ⟨rs,c,rk⟩:=sR (P:=X.prog) (w:=X.w) rel;obtain ⟨z,hd,vs0,r0,dd⟩:=Dd I2.bc e;cases r0;refine ⟨rs,c,dd,λh' Mz hs=>⟨.ref s.heap.objs.size,_, ?_,rfl,q2⟩⟩;have hz:(iL [] Ρ).length<=sizeLine:=by have h1:=iz Ρ [];rw [List.length_nil] at h1;rw [sizeLine_eq];omega
 have he:∃q,h'.get? s.heap.objs.size=some q:=let ⟨q,_,_,hq,_⟩:=Mz;⟨q,hq⟩
 exact qy I2 (by rw [e];exact True.intro) hs he (tM hz hd (rk.merge .nil) Mz)
structure M1(X:Cx)(o:Expr)(m:Str)(apos:Pos)(e:Expr)(c8:Pos):Prop where
 base:attributeBase o m X.env (eval o X.env)=eval o X.env
 few:((backTo c8 (starEach [e] X.env)).all (λx=> !x.1)&&(backToKw c8 (keywordEach [] X.env)).all (λx=>x.1.isSome)
  &&decide (([e]:List Expr).length+([]:List Keyword).length+(if ([]:List Keyword).isEmpty then 0 else 1) < 30))=true
 line:(apos.endLine==c8.line)=true
 trees:backTo c8 (starEach [e] X.env)=[(false,eval e X.env)]
def Z2(H:Hp)(a:Addr):Prop:=(∃Ρ,Rd H a (.dK Ρ))\/∃Ρ,Rd H a (.dT Ρ)
theorem Qu{X:Cx}{ζ:List (Addr×Obj)}{σ:St}{H:Hp}{s:Shared}{a:Addr}(I:Inv X ζ σ H s)(d:Z2 H a):
  s.TypeIs (.ref a) "dict"/\(∀b,Value.ref a= .ref b->∃ob,s.heap.get? b=some ob/\ob.dict=none)/\(a==sysModules)=false:=by
 rcases d with ⟨Ρ,e⟩ | ⟨Ρ,e⟩
 ·obtain ⟨_,hd,vs,_,dd⟩:=nW I.bc e;refine ⟨dd.typeIs,λb q=> ?_,hd⟩;cases q;obtain ⟨ob,_,_,h1,h2,_⟩:=dd;exact ⟨ob,h1,h2.2.1⟩
 ·obtain ⟨_,hd,xs,_,dd⟩:=vA I.bc e;refine ⟨dd.typeIs,λb q=> ?_,hd⟩;cases q;obtain ⟨ob,_,_,h1,h2,_⟩:=dd;exact ⟨ob,h1,h2.2.1⟩
section
variable{X:Cx}{ζ:List (Addr×Obj)}{σ:St}{H:Hp}{s:Shared}{a:Addr}{Ρ:List (Key×V)}{A:Around}{E:Value->Shared->Prop}
theorem Jm{Q:Value->Shared->Prop}(I:Inv X ζ σ H s)(e:Rd H a (.dK Ρ))(h:∀p s',H p=none->Inv X ζ σ (upd H p (.dK Ρ)) s'->Q (.ref p) s'):wpAny (model X.prog X.w) A (call (.type "dict") [.ref a]) Q E s:=by obtain ⟨z,hd,vs,rel,dd⟩:=nW I.bc e;refine kt_call_dict hd dd (by rw [<-rel.length];exact z) λh' Mz hs=> ?_;refine h _ _ (I.bc.fresh (aai _)) (I.laid (a:=s.heap.objs.size) (o:= .dK Ρ) (t':=s.toks) (λb q hq=> ?_) (aai _) (tM z (beq_eq_false_iff_ne.mpr (Ne.symm (aaU I.big))) rel Mz));exact (hs.2 b (aaU (aas hq))).trans (aal _ hq)
end
end L2
namespace Att
open PySem PySem.W PySem.Calls PyProof.Rows
end Att
namespace L2
open PySem PySem.Spec PyProof.Rows
end L2
/- THE Zp Mj (shape;LID,My.* are U5):
  My.Adr:a structure of Np addresses X5 Zl SO names (classes,GU);My.Txt K t:a structure (Prop) of Np equations qt K;
  My.CD:{K} {implicit addresses ..} (e1:nsIn K mainGlobals "law"=some (some (.ref f))) (e2:K.lookup f=some ⟨oc,od, .func (fnOf "law" "law" params body scope dV kV doc pm an aY ct),sl⟩) (e3:codeIn K aY "law"=true) .. :∃t,My.Txt K t
set_option maxRecDepth 100000 in
set_option maxHeartbeats 0 in
theorem PySem.Challenge.cw_LID_holds : PySem.Challenge.rw_LID.Holds := by
 w_on;o_law;k_head;(case hw=>w_witness2)
 k_fill
 refine L2.ya (l:=PySem.Challenge.rw_LID) (n:=63) (k:=40) (x:="script") (CX:=fun w=> ..) (sp:=fun _=>My.PM) rfl (by decide) rfl ⟨rfl,by decide,by decide⟩ (fun w h Y=>PySem.W.kIn_of Y) ?F ?S ?C
 case F=>
  intro w mg fa h KX G Ml;have T:∃t,My.Txt (L2.YL KX) t:=by
   dsimp only [L2.YL]
   refine' My.CD ?e1 ?e2 ?e3 ..
   (case e1=>PySem.W.k_is)
   (case e2=>PySem.W.k_is)
   ..
  obtain ⟨t,T⟩:=T;have e0:=Ml.symm.trans (PySem.W.mg_of KX G T.law);cases e0;exact ⟨_,λs u=> .of_eq rfl,λbase kb nb=>My.Cz T kb nb⟩
 case S=>exact λw H a ns hl hO hS=> ..
 case C=>exact ..
(Np tactic k_is has no namespace:write k_is) -/
namespace L2
open PySem PySem.Spec PyProof.Rows
section
variable{X:Cx}
theorem GL:dY X (.builtin "len") (λxs H Q=>∃a Ρ,xs=[V.ref a]/\H a=some (.dK Ρ)/\Q (.int Ρ.length) H):=by intro ζ s σ H xs us Q I r h;obtain ⟨a,Ρ,rfl,ha,q⟩:=h;obtain ⟨u,rfl,ru⟩:=kO r;cases ru;exact Te I (.inl ha) λt s' I'=>⟨.int Ρ.length,H,I',⟨t,rfl⟩,q⟩
end
variable{X:Cx}{G:Hp}{L:List Addr}{d:Dt}{v:V}{R:St->XK}{o i e tg:Expr}{to ti te ta tb:DE}{pos apos:Pos}{p a f:Addr}{k' n:Nat}{x:Str}{ζ:List (Addr×Obj)}{σ:St}{s:Shared}{b:Bool}{M:Ms}{ds:List Dt}{vs:List V}{t:DA}{ks:List Key}{P:Program}{w:World}{Ρ:List (Key×V)}{st:Stmt}{its:Array Value}{fd:FuncData}{ps:List Str}
def zR:Dt->Option Key
 | .int i=>some (.inl i)
 | .str z=>some (.inr z)
 | _=>none
def eh(ks:List Key)(ds:List Dt)(k:Key):Option Dt:=((ks.zip ds).find? λp=>decide (p.1=k)).map (·.2)
theorem kX{K:fI}{k:Key}(h:zR d=some k)(n:Den K G L d v):v=kV k:=by
 cases d with
 | int i=>cases h;exact n
 | str z=>cases h;exact n
 | _=>cases h
theorem oU{K:fI}{G:Hp}{L:List Addr}{k:Key}:∀{ks:List Key} {ds:List Dt} {vs:List V} {d:Dt},Ψ K G L ds vs->eh ks ds k=some d->∃v,jU (ks.zip vs) k=some v/\Den K G L d v
 | [],_,_,_,_,h=>by cases h
 | _::_,[],_,_,_,h=>by cases h
 | c::ks,d0::ds,_,d,⟨v0,vs,e,n0,n⟩,h=>by
  subst e;rw [abo];by_cases hc:c=k
  ·have h':eh (c::ks) (d0::ds) k=some d0:=by unfold eh;rw [List.zip_cons_cons,List.find?_cons_of_pos (by simpa using hc)];rfl
   rw [h'] at h;cases h;exact ⟨v0,eU hc,n0⟩
  ·have h':eh (c::ks) (d0::ds) k=eh ks ds k:=by unfold eh;rw [List.zip_cons_cons,List.find?_cons_of_neg (by simpa using hc)]
   rw [h'] at h;obtain ⟨v,h1,h2⟩:=oU n h;exact ⟨v,by rw [eY hc];exact h1,h2⟩
def NV(to ti:DE):DE:=λρ M q x=>to ρ M (λd M1=>ti ρ M1 (λdi M2=>∃k ks ds key v,d= .loc k/\M2[k]? =some (.eO ks ds)/\zR di=some key/\eh ks ds key=some v/\q v M2) x) x
theorem vy:∀(more Ι:List (Key×V)),(∀p∈more,jU Ι p.1=none)->(more.map (·.1)).Nodup->iL Ι more=Ι++more
 | [],Ι,_,_=>by show Ι=Ι++[];rw [aa8]
 | p::more,Ι,h,nd=>by
  show iL (iM Ι p.1 p.2) more=_;rw [JG p.2 (h p aae),vy more _ (λq hq=> ?_) (abK.mp nd).2]
  ·simp
  ·have e:=vx p.1 q.1 p.2 Ι (h p aae);rw [show (Ι++[(p.1,p.2)])=Ι++[(p.1,p.2)] from rfl,e,aav]
   ·exact h q (aac _ hq)
   ·intro z;exact (abK.mp nd).1 (aah.mpr ⟨q,hq,z⟩)
section
variable{p:Pos}
theorem oy(hr:bR k' X.A)(ho:JE X R o to)(hi:JE X R i ti)(hs:BE i:=by intro _ _;rfl):JE X R (.Subscript o i pos) (NV to ti):=
 .of (MG (Dc hr) ho hi hs) λσ H G L ρ M q x rl n h hx=>by refine ⟨G,L,ρ,M,_,x,rl,n,h,hx,λv H1 ⟨d1,G1,L1,M1,e1,r1,n1,h1⟩=> ?_⟩;refine ⟨G1,L1,ρ,M1,_,x,r1,n.mono e1,h1,hx.on e1,λv2 H2 ⟨d2,G2,L2,M2,e2,r2,n2,k,ks,ds,key,y,ed,hm,hk,hg,h2⟩=> ?_⟩;subst ed;obtain ⟨a,rfl,IQ⟩:=n1;have PV:=e2.l.get IQ;obtain ⟨_,vs,hH,hl,dn⟩:=r2.gJ k a _ PV hm;obtain ⟨u,hu,du⟩:=oU dn hg;refine ⟨a,u,rfl, .inl ⟨_,key, .inl hH,kX hk n2,hu.symm⟩,fin_same (e1.trans e2) r2 du h2⟩
end
structure Ri(K:fI)(w:World)(mg:Str->Option Value)(x:Str)(tab:List (Str×Str)):Prop where
 ex:∃a es n,mg x=some (.ref a)/\K.lookup a=some ⟨.type "dict",none, .dict es n, #[]⟩/\PySem.W.KeysLit w.params es.toList/\∀z y,tab.lookup z=some y->∃tk,PySem.W.nsIn K a z=some (some (.str y tk))
def U3(tab:List (Str×Str))(ti:DE):DE:=λρ M q x=>ti ρ M (λd M1=>∃z y,d= .str z/\tab.lookup z=some y/\q (.str y) M1) x
def Zq(tab:List (Str×Str))(ti:TE):TE:=λσ H Q=>ti σ H λv H1=>∃z y,v= .str z/\tab.lookup z=some y/\Q (.str y) H1
section
variable{p:Pos}{tab:List (Str×Str)}
theorem OZ{ti:TE}(T:Ri X.K X.w X.mg x tab)(hi:PE X i ti)(hs:BE i)(hg:Gl X x)(uH:(x==("__debug__":Str))=false):PE X (.Subscript (.Name x p) i pos) (Zq tab ti):=by obtain ⟨a,es,n,hm,hl,hk,ht⟩:=T.ex;intro ζ s σ H Q I h;refine wO acb.lookup hs (qu I hg hm ?_ uH);refine bF (hi ζ s σ H _ I h) λiv s2 ⟨v,H2,I2,rv,z,y,ev,hy,q2⟩=> ?_;subst ev;obtain ⟨t,rfl⟩:=rv;obtain ⟨tk,hn⟩:=ht z y hy;have hM:=PySem.W.mapOf_K (prog:=X.prog) (w:=X.w) I2.pS hl hk;exact ⟨hM.typeIs,wpAny_getItem_of (strKind_is X.prog X.w z t) hM (PySem.W.find_K hl hn) ⟨.str y,H2,I2.tok _,⟨tk,rfl⟩,q2⟩⟩
theorem Tu(T:Ri X.K X.w X.mg x tab)(hi:JE X R i ti)(hs:BE i:=by intro _ _;rfl)(hg:Gl X x:=by rfl)(uH:(x==("__debug__":Str))=false:=by decide):JE X R (.Subscript (.Name x p) i pos) (U3 tab ti):=
 .of (OZ T hi hs hg uH) λσ H G L ρ M q x rl n h hx=>by refine ⟨G,L,ρ,M,_,x,rl,n,h,hx,λv H1 ⟨d1,G1,L1,M1,e1,r1,n1,z,y,ed,hy,h1⟩=> ?_⟩;subst ed;exact ⟨z,y,n1,hy,bw e1 r1 h1⟩
end
inductive Im(K:fI)(H:Hp):Nat->V->V->Bool->Prop
 | flat {n:Nat} {x y:V} (h1:eR x=true) (h2:eR y=true):Im K H n x y (sU x y)
 | tup {n:Nat} {a b:Addr} {xs ys:List V} {f:Nat->Bool} (h1:nR K H a xs) (h2:nR K H b ys) (h:∀j x y,xs[j]? =some x->ys[j]? =some y->Im K H n x y (f j)):Im K H (n+1) (.ref a) (.ref b) ((List.range (min xs.length ys.length)).all f&&xs.length==ys.length)
 | lst {n:Nat} {a b:Addr} {xs ys:List V} {f:Nat->Bool} (h1:gF K H a xs) (h2:gF K H b ys) (hl:xs.length=ys.length) (h:∀j x y,xs[j]? =some x->ys[j]? =some y->Im K H n x y (f j)):Im K H (n+1) (.ref a) (.ref b) ((List.range xs.length).all f)
 | len {n:Nat} {a b:Addr} {xs ys:List V} (h1:gF K H a xs) (h2:gF K H b ys) (hl:xs.length≠ys.length):Im K H (n+1) (.ref a) (.ref b) false
theorem Jy{x:V}(h:eR x=true):sU x x=true:=by cases x <;> first | rfl | (show (_==_)=true;simp) | cases h
section
variable{H:Hp}
theorem AD(I:Inv X ζ σ H s){x y:V}(h:Im X.K H n x y b):x=y->b=true:=by
 induction h with
 | flat h1 h2=>intro e;subst e;exact Jy h1
 | @tup n a b xs ys f h1 h2 h ih=>
  intro e;cases e;cases I.vz h1 h2;rw [Nat.min_self,beq_self_eq_true,Bool.and_true];refine abQ.mpr λj hj=> ?_;have hj:=aba.mp hj;exact ih j _ _ (aaa hj) (aaa hj) rfl
 | @lst n a b xs ys f h1 h2 hl h ih=>
  intro e;cases e;cases I.hU h1 h2;refine abQ.mpr λj hj=> ?_;have hj:=aba.mp hj;exact ih j _ _ (aaa hj) (aaa hj) rfl
 | len h1 h2 hl=>
  intro e;cases e;cases I.hU h1 h2;exact aaK rfl hl
theorem cP{xs:List V}{its:List Value}(r:aB xs its){j:Nat}(h:j < its.toArray.size):∃x,xs[j]? =some x/\aH x its.toArray[j]:=by
 have hj:j < its.length:=by simpa using h
 have hx:j < xs.length:=by rw [r.length];exact hj
 obtain ⟨u,g,ru⟩:=r.get (aaa hx);rw [aaa hj] at g;cases g;exact ⟨_,List.getElem?_eq_getElem hx,by simpa using ru⟩
theorem wF(I:Inv X ζ σ H s){x y:V}(h:Im X.K H n x y b):∀{A:Around} {u v:Value},aH x u->aH y v->A.units+n < cLine->SeqAt.EqAt A s u v b:=by
 induction h with
 | flat h1 h2=>exact λru rv _=>xh ru rv h1 h2
 | @tup n a b xs ys f h1 h2 h ih=>
  intro A u v ru rv hu;cases ru;cases rv;by_cases e:a=b
  ·have:=AD I (.tup h1 h2 h) (aaZ V.ref e);rw [this,e];exact SeqAt.EqAt.same _
  ·obtain ⟨i1,v1,t1,_⟩:=I.tuple h1;obtain ⟨i2,v2,t2,_⟩:=I.tuple h2
   have:=SeqAt.RcAt.tuples (A:=A) (e:=f) (show s.heap.IsTuple a i1.toArray from t1) (show s.heap.IsTuple b i2.toArray from t2) (by omega) (λj g1 g2=>by
    obtain ⟨x,hx,rx⟩:=cP v1 g1;obtain ⟨y,hy,ry⟩:=cP v2 g2
    exact ih j x y hx hy rx ry (by show A.units+1+n < cLine;omega))
   rw [aay,aay,<-v1.length,<-v2.length] at this;exact SeqAt.EqAt.of_refs e this
 | @lst n a b xs ys f h1 h2 hl h ih=>
  intro A u v ru rv hu;cases ru;cases rv;by_cases e:a=b
  ·have:=AD I (.lst h1 h2 hl h) (aaZ V.ref e);rw [this,e];exact SeqAt.EqAt.same _
  ·obtain ⟨i1,v1,t1,_⟩:=I.list h1;obtain ⟨i2,v2,t2,_⟩:=I.list h2
   have:=SeqAt.RcAt.lists (A:=A) (e:=f) t1.isList t2.isList (by rw [aay,aay,<-v1.length,<-v2.length];exact hl) (by omega) (λj g1 g2=>by
    obtain ⟨x,hx,rx⟩:=cP v1 g1;obtain ⟨y,hy,ry⟩:=cP v2 g2
    exact ih j x y hx hy rx ry (by show A.units+1+n < cLine;omega))
   rw [aay,<-v1.length] at this;exact SeqAt.EqAt.of_refs e this
 | @len n a b xs ys h1 h2 hl=>
  intro A u v ru rv hu;cases ru;cases rv;have e:a≠b:=λe=>by subst e;cases I.hU h1 h2;exact hl rfl
  obtain ⟨i1,v1,t1,_⟩:=I.list h1;obtain ⟨i2,v2,t2,_⟩:=I.list h2;exact SeqAt.EqAt.of_refs e (SeqAt.RcAt.lists_lengths t1.isList t2.isList (by rw [List.size_toArray,List.size_toArray,<-v1.length,<-v2.length];simpa using hl) (by omega))
end
def Ue(K:fI)(n:Nat):R2:=λx y H Q=>∃a b c,x= .ref a/\y= .ref b/\Im K H n x y c/\Q (.bl c) H
def Ui(K:fI)(n:Nat):R2:=λx y H Q=>∃a b c,x= .ref a/\y= .ref b/\Im K H n x y c/\Q (.bl (!c)) H
section
theorem QR(hu:X.A.units+n < cLine):jL X (compareOp .Eq) (Ue X.K n):=by
 intro ζ s σ H x y v u Q I rx ry h;obtain ⟨a,b,c,rfl,rfl,h,q⟩:=h;cases rx;cases ry;cases h with
 | flat h1 h2=>cases h1
 | @tup n _ _ xs ys f h1 h2 h=>
  obtain ⟨i1,v1,t1,_⟩:=I.tuple h1;obtain ⟨i2,v2,t2,_⟩:=I.tuple h2;refine SeqAt.eq_tupleAt (e:=f) (show s.heap.IsTuple a i1.toArray from t1) (show s.heap.IsTuple b i2.toArray from t2) (by omega) (λj g1 g2=> ?_) ?_
  ·obtain ⟨x,hx,rx⟩:=cP v1 g1;obtain ⟨y,hy,ry⟩:=cP v2 g2;exact wF I (h j x y hx hy) rx ry (by show X.A.units+1+n < cLine;omega)
  ·rw [aay,aay,<-v1.length,<-v2.length];exact ⟨.bl _,H,I,rfl,q⟩
 | @lst n _ _ xs ys f h1 h2 hl h=>
  obtain ⟨i1,v1,t1,_⟩:=I.list h1;obtain ⟨i2,v2,t2,_⟩:=I.list h2;refine SeqAt.eq_listAt (e:=f) t1.isList t2.isList (by rw [aay,aay,<-v1.length,<-v2.length];exact hl) (by omega) (λj g1 g2=> ?_) ?_
  ·obtain ⟨x,hx,rx⟩:=cP v1 g1;obtain ⟨y,hy,ry⟩:=cP v2 g2;exact wF I (h j x y hx hy) rx ry (by show X.A.units+1+n < cLine;omega)
  ·rw [aay,<-v1.length];exact ⟨.bl _,H,I,rfl,q⟩
 | @len n _ _ xs ys h1 h2 hl=>
  obtain ⟨i1,v1,t1,_⟩:=I.list h1;obtain ⟨i2,v2,t2,_⟩:=I.list h2;exact SeqAt.eq_list_lengthsAt t1.isList t2.isList (by rw [List.size_toArray,List.size_toArray,<-v1.length,<-v2.length];simpa using hl) (by omega) ⟨.bl _,H,I,rfl,q⟩
theorem O_(hu:X.A.units+n < cLine):jL X (compareOp .NotEq) (Ui X.K n):=by
 intro ζ s σ H x y v u Q I rx ry h;obtain ⟨a,b,c,rfl,rfl,h,q⟩:=h;cases rx;cases ry;cases h with
 | flat h1 h2=>cases h1
 | @tup n _ _ xs ys f h1 h2 h=>
  obtain ⟨i1,v1,t1,_⟩:=I.tuple h1;obtain ⟨i2,v2,t2,_⟩:=I.tuple h2;refine SeqAt.RcNeAt.tuples (e:=f) (show s.heap.IsTuple a i1.toArray from t1) (show s.heap.IsTuple b i2.toArray from t2) (by omega) (λj g1 g2=> ?_) _ _ _ _ ?_
  ·obtain ⟨x,hx,rx⟩:=cP v1 g1;obtain ⟨y,hy,ry⟩:=cP v2 g2;exact wF I (h j x y hx hy) rx ry (by show X.A.units+1+n < cLine;omega)
  ·rw [aay,aay,<-v1.length,<-v2.length];exact ⟨.bl _,H,I,rfl,q⟩
 | @lst n _ _ xs ys f h1 h2 hl h=>
  obtain ⟨i1,v1,t1,_⟩:=I.list h1;obtain ⟨i2,v2,t2,_⟩:=I.list h2;refine SeqAt.RcNeAt.lists (e:=f) t1.isList t2.isList (by rw [aay,aay,<-v1.length,<-v2.length];exact hl) (by omega) (λj g1 g2=> ?_) _ _ _ _ ?_
  ·obtain ⟨x,hx,rx⟩:=cP v1 g1;obtain ⟨y,hy,ry⟩:=cP v2 g2;exact wF I (h j x y hx hy) rx ry (by show X.A.units+1+n < cLine;omega)
  ·rw [aay,<-v1.length];exact ⟨.bl _,H,I,rfl,q⟩
 | @len n _ _ xs ys h1 h2 hl=>
  obtain ⟨i1,v1,t1,_⟩:=I.list h1;obtain ⟨i2,v2,t2,_⟩:=I.list h2;exact SeqAt.RcNeAt.lists_lengths t1.isList t2.isList (by rw [List.size_toArray,List.size_toArray,<-v1.length,<-v2.length];simpa using hl) (by omega) _ _ _ _ ⟨.bl _,H,I,rfl,q⟩
end
def mS(M:Ms):Dt->Option (List Dt)
 | .lst xs=>some xs
 | .h_ ns=>some (ns.map .int)
 | .loc k=>match M[k]? with
  | some (.lst xs)=>some xs
  | _=>none
 | _=>none
inductive uc(M:Ms):Nat->Dt->Dt->Bool->Prop
 | flat {n:Nat} {d e:Dt} {x y:V} (h1:vp d=some x) (h2:vp e=some y):uc M n d e (sU x y)
 | tup {n:Nat} {ds es:List Dt} {f:Nat->Bool} (h:∀j d e,ds[j]? =some d->es[j]? =some e->uc M n d e (f j)):uc M (n+1) (.tup ds) (.tup es) ((List.range (min ds.length es.length)).all f&&ds.length==es.length)
 | lst {n:Nat} {d e:Dt} {ds es:List Dt} {f:Nat->Bool} (h1:mS M d=some ds) (h2:mS M e=some es) (hl:ds.length=es.length) (h:∀j d e,ds[j]? =some d->es[j]? =some e->uc M n d e (f j)):uc M (n+1) d e ((List.range ds.length).all f)
 | len {n:Nat} {d e:Dt} {ds es:List Dt} (h1:mS M d=some ds) (h2:mS M e=some es) (hl:ds.length≠es.length):uc M (n+1) d e false
theorem gu{K:fI}{H:Hp}{xs:List Dt}(r:Rl K G L M H)(n:Den K G L d v)(h:mS M d=some xs):∃a vs,v= .ref a/\gF K H a vs/\Ψ K G L xs vs:=by
 cases d with
 | lst ds=>cases h;obtain ⟨a,vs,rfl,e,m⟩:=n;exact ⟨a,vs,rfl, .of (r.sub _ _ e),m⟩
 | h_ ns=>cases h;obtain ⟨a,rfl,e⟩:=n;exact ⟨a,_,rfl,r.sub.seq e,iW⟩
 | loc k=>
  obtain ⟨a,rfl,e⟩:=n;have h:(match M[k]? with | some (.lst xs)=>some xs | _=>none)=some xs:=h;split at h
  ·rename_i ys hm;cases h;obtain ⟨_,vs,e1,m1⟩:=r.gJ k a _ e hm;exact ⟨a,vs,rfl, .of e1,m1⟩
  ·cases h
 | _=>cases h
theorem Ψ.back{K:fI}{i:Nat}(h:Ψ K G L ds vs)(e:vs[i]? =some v):∃d,ds[i]? =some d/\Den K G L d v:=by
 have hi:i < ds.length:=by rw [h.length];exact (aaf.mp e).1
 obtain ⟨v',e',n⟩:=h.get (aaa hi);rw [e] at e';cases e';exact ⟨_,aaa hi,n⟩
theorem NZ{K:fI}{H:Hp}(r:Rl K G L M H){e:Dt}(h:uc M n d e b):∀{v u:V},Den K G L d v->Den K G L e u->Im K H n v u b:=by
 induction h with
 | flat h1 h2=>
  intro v u n1 n2;obtain ⟨rfl,f1⟩:=kn h1 n1;obtain ⟨rfl,f2⟩:=kn h2 n2;exact .flat f1 f2
 | @tup n ds es f h ih=>
  intro v u n1 n2;obtain ⟨a,vs,rfl,e1,m1⟩:=n1;obtain ⟨b,us,rfl,e2,m2⟩:=n2;rw [m1.length,m2.length];refine .tup (.of (r.sub _ _ e1)) (.of (r.sub _ _ e2)) λj x y hx hy=> ?_;obtain ⟨d,hd,dn⟩:=m1.back hx;obtain ⟨e,he,en⟩:=m2.back hy;exact ih j d e hd he dn en
 | @lst n d e ds es f h1 h2 hl h ih=>
  intro v u n1 n2;obtain ⟨a,vs,rfl,s1,m1⟩:=gu r n1 h1;obtain ⟨b,us,rfl,s2,m2⟩:=gu r n2 h2;rw [m1.length];refine .lst s1 s2 (by rw [<-m1.length,<-m2.length];exact hl) λj x y hx hy=> ?_;obtain ⟨d,hd,dn⟩:=m1.back hx;obtain ⟨e,he,en⟩:=m2.back hy;exact ih j d e hd he dn en
 | @len n d e ds es h1 h2 hl=>
  intro v u n1 n2;obtain ⟨a,vs,rfl,s1,m1⟩:=gu r n1 h1;obtain ⟨b,us,rfl,s2,m2⟩:=gu r n2 h2;exact .len s1 s2 (by rw [<-m1.length,<-m2.length];exact hl)
def J8(M:Ms)(d:Dt):Prop:=(∃ds,d= .tup ds)\/∃xs,mS M d=some xs
theorem qH{K:fI}{H:Hp}(r:Rl K G L M H)(n:Den K G L d v)(h:J8 M d):∃a,v= .ref a:=by
 rcases h with ⟨ds,rfl⟩ | ⟨xs,h⟩
 ·obtain ⟨a,vs,rfl,_⟩:=n;exact ⟨a,rfl⟩
 ·obtain ⟨a,vs,rfl,_⟩:=gu r n h;exact ⟨a,rfl⟩
def Ux(n:Nat):Dt->Dt->Ms->DQ->Prop:=λd e M q=>∃b,J8 M d/\J8 M e/\uc M n d e b/\q (.bl b) M
def US(n:Nat):Dt->Dt->Ms->DQ->Prop:=λd e M q=>∃b,J8 M d/\J8 M e/\uc M n d e b/\q (.bl (!b)) M
theorem Yc{K:fI}:m_ K (Ue K n) (Ux n):=by intro G0 L0 H0 G L M H v1 v2 d1 d2 q e r n1 n2 ⟨b,h1,h2,h,hq⟩;obtain ⟨a,rfl⟩:=qH r n1 h1;obtain ⟨a',rfl⟩:=qH r n2 h2;exact ⟨a,a',b,rfl,rfl,NZ r h n1 n2,bw e r hq⟩
theorem WC{K:fI}:m_ K (Ui K n) (US n):=by intro G0 L0 H0 G L M H v1 v2 d1 d2 q e r n1 n2 ⟨b,h1,h2,h,hq⟩;obtain ⟨a,rfl⟩:=qH r n1 h1;obtain ⟨a',rfl⟩:=qH r n2 h2;exact ⟨a,a',b,rfl,rfl,NZ r h n1 n2,bw e r hq⟩
section
variable{a b l u:Expr}{tl tu:DE}{p p2:Pos}
theorem UA{A:Around}{k:Nat}(hr:bR k A)(hn:n<=64):A.units+n < cLine:=aaT (Nat.add_le_add_left hn _) hr.units
theorem Uc(n:Nat)(hr:bR k' X.A)(ja:JE X R a ta)(jb:JE X R b tb)(hn:n<=64:=by decide)(hm:behindInMarks .Eq b=false:=by rfl):JE X R (.Compare a [.Eq] [b] pos) (jX (Ux n) ta tb):=vq (QR (UA hr hn)) Yc ja jb hm
theorem OH(n:Nat)(hr:bR k' X.A)(ja:JE X R a ta)(jb:JE X R b tb)(hn:n<=64:=by decide)(hm:behindInMarks .NotEq b=false:=by rfl):JT X R (.Compare a [.NotEq] [b] pos) (lP (jX (US n) ta tb)):=g9 (O_ (UA hr hn)) WC ja jb hm
theorem Fx(xs:List V)(k:Nat):uu xs none (some (k:Int))=xs.take k:=by
 unfold uu;rw [HT.qJ,HT.zy,acw,Nat.sub_zero];by_cases h:k<=xs.length
 ·rw [acp h]
 ·rw [Nat.min_eq_right (by omega),abN (aai _),abN (by omega)]
def Td(te tl:DE):DE:=λρ M q x=>te ρ M (λd M1=>tl ρ M1 (λdi M2=>∃ds n,mS M2 d=some ds/\di= .int (n:Nat)/\q (.loc M2.length) (M2++[.lst (ds.drop n)])) x) x
theorem pC(he:JE X R e te)(hl:JE X R l tl):JE X R (.Subscript e (.Slice (some l) none none p2) pos) (Td te tl):=
 .of (sj w4 he (kY hl) EA) λσ H G L ρ M q x rl n h hx=>by refine ⟨G,L,ρ,M,_,x,rl,n,h,hx,λv H1 ⟨d1,G1,L1,M1,e1,r1,n1,h1⟩=> ?_⟩;refine ⟨G1,L1,ρ,M1,_,x,r1,n.mono e1,h1,hx.on e1,λv2 H2 ⟨d2,G2,L2,M2,e2,r2,n2,ds,k,ed,ei,h2⟩=> ?_⟩;subst ei;obtain ⟨a,vs,rfl,sq,m⟩:=gu r2 (Den.mono e2.g e2.l _ _ n1) ed;have n2:v2= .int k:=n2;subst n2;refine ⟨k,rfl,a,vs,rfl,sq,λp hp=> ?_⟩;rw [Gf];exact jM (e1.trans e2) r2 hp (Ψ.of (qP k m.pair)) h2
end
open PySem PySem.SeqAt
def Aa(M:Ms):Dt->Option (List Dt)
 | .lst xs=>some xs
 | .loc k=>match M[k]? with
  | some (.lst xs)=>some xs
  | _=>none
 | _=>none
theorem wU{K:fI}{H:Hp}{xs:List Dt}(r:Rl K G L M H)(n:Den K G L d v)(h:Aa M d=some xs):∃a vs,v= .ref a/\H a=some (.lst vs)/\Ψ K G L xs vs:=by
 cases d with
 | lst ds=>cases h;obtain ⟨a,vs,rfl,e,m⟩:=n;exact ⟨a,vs,rfl,r.sub _ _ e,m⟩
 | loc k=>
  obtain ⟨a,rfl,e⟩:=n;have h:(match M[k]? with | some (.lst xs)=>some xs | _=>none)=some xs:=h;split at h
  ·rename_i ys hm;cases h;obtain ⟨_,vs,e1,m1⟩:=r.gJ k a _ e hm;exact ⟨a,vs,rfl,e1,m1⟩
  ·cases h
 | _=>cases h
def NM:Dt->Dt->Ms->DQ->Prop:=λd e M q=>∃xs ys,Aa M d=some xs/\Aa M e=some ys/\xs.length+ys.length<=sizeLine/\q (.lst (xs++ys)) M
theorem UG{K:fI}:m_ K Qx NM:=by intro G0 L0 H0 G L M H v1 v2 d1 d2 q e r n1 n2 ⟨xs,ys,h1,h2,hz,hq⟩;obtain ⟨p1,w1,rfl,e1,m1⟩:=wU r n1 h1;obtain ⟨p2,w2,rfl,e2,m2⟩:=wU r n2 h2;refine ⟨p1,p2,w1,w2,rfl,rfl,e1,e2,by rw [<-m1.length,<-m2.length];exact hz,λp hp=> ?_⟩;exact kU e r hp (qI r hp (m1.app m2)) hq
section
variable{a b:Expr}
theorem mY(ja:JE X R a ta)(jb:JE X R b tb):JE X R (.BinOp a .Add b pos) (jX NM ta tb):=wY Jg UG ja jb
end
section
variable{l:Expr}{tl:DE}{p2:Pos}
def Kv(te tl:DE):DE:=λρ M q x=>te ρ M (λd M1=>tl ρ M1 (λdi M2=>∃ds n,mS M2 d=some ds/\di= .int (n:Nat)/\q (.loc M2.length) (M2++[.lst (ds.take n)])) x) x
theorem x8(he:JE X R e te)(hl:JE X R l tl):JE X R (.Subscript e (.Slice none (some l) none p2) pos) (Kv te tl):=
 .of (sj w4 he EA (kY hl)) λσ H G L ρ M q x rl n h hx=>by refine ⟨G,L,ρ,M,_,x,rl,n,h,hx,λv H1 ⟨d1,G1,L1,M1,e1,r1,n1,h1⟩=> ?_⟩;refine ⟨G1,L1,ρ,M1,_,x,r1,n.mono e1,h1,hx.on e1,λv2 H2 ⟨d2,G2,L2,M2,e2,r2,n2,ds,k,ed,ei,h2⟩=> ?_⟩;subst ei;obtain ⟨a,vs,rfl,sq,m⟩:=gu r2 (Den.mono e2.g e2.l _ _ n1) ed;have n2:v2= .int k:=n2;subst n2;refine ⟨k,rfl,a,vs,rfl,sq,λp hp=> ?_⟩;rw [Fx];exact jM (e1.trans e2) r2 hp (Ψ.of (sN k m.pair)) h2
end
def yQ(g:Dt->En->(En->Prop)->Prop)(te:DE)(ρ0:En)(ok:Ms->Prop):List Dt->List Dt->Ms->(List Dt->Ms->Prop)->Prop
 | [],Ι,M,k=>ok M/\k Ι M
 | x::xs,Ι,M,k=>ok M/\g x ρ0 λρ'=>te ρ' M (λd M2=>yQ g te ρ0 ok xs (Ι++[d]) M2 k) lD
def Be(n:Nat)(ti:DK)(g:Dt->En->(En->Prop)->Prop)(te:DE)(ah:List Nat):DE:=λρ M q x=>ti ρ M (λxs ok M1=>xs.length<=sizeLine/\yQ g te (List.replicate n none++qc ah ρ) ok xs [] M1 (λys M2=>q (.lst ys) M2)) x
theorem Dp{g:Dt->En->(En->Prop)->Prop}{te:DE}{cs:En}{ok:Ms->Prop}:∀xs,yQ g te cs ok xs=i0 g rK te cs ok xs
 | []=>rfl
 | x::xs=>funext λΙ=>funext λM=>funext λk=>by show (ok M/\g x cs λρ'=>te ρ' M (λd M1=>yQ g te cs ok xs (Ι++[d]) M1 k) lD)=(ok M/\g x cs λρ'=>te ρ' M (λd M1=>i0 g rK te cs ok xs (Ι++[d]) M1 k) lD);rw [Dp xs]
section
variable{elt iter:Expr}{y:Str}{px py tp:Pos}{scope:Scope}{ti:DK}{ys:List Str}{ah:List Nat}{kk:Nat}
theorem EC(S:aK X scope [x,y] ys ah)(hi:JK X R (.Tuple [.Name x px, .Name y py] kk tp) iter ti)(he:∀C s H fp,JE (Cx.comp X (x::y::ys) scope C s H fp) (λ_=>E0) elt te)(hc:X.calm=true:=by rfl)(hs:∀x,foldedSetIterable iter X.env x=pure x:=by intro _;rfl):JE X R (.ListComp elt [⟨.Tuple [.Name x px, .Name y py] kk tp,iter,[],0⟩] scope pos) (Be 2 ti (g2 0 1) te ah):=Sv false S hi (Er hc S) pq (uP (Nat.zero_lt_succ 1) (Nat.lt_succ_self 1)) (λ_ _ _ _=>qL) he hc hs λρ M q x h=>by unfold Be at h;simp only [Dp] at h;exact h
end
theorem pw{g:Dt->En->(En->Prop)->Prop}{te:DE}{ρ0:En}{ok:Ms->Prop}{M:Ms}{k:List Dt->Ms->Prop}(ho:ok M)(f:Dt->Dt):∀(xs Ι:List Dt),(∀x∈xs,∀q:DQ,q (f x) M->g x ρ0 λρ'=>te ρ' M q lD)->k (Ι++xs.map f) M->yQ g te ρ0 ok xs Ι M k
 | [],Ι,_,h=>⟨ho,by simpa using h⟩
 | x::xs,Ι,ht,h=>⟨ho,ht x List.mem_cons_self _ (pw ho f xs _ (λy hy=>ht y (List.mem_cons_of_mem _ hy)) (by simpa using h))⟩
theorem Ge(xs:List V)(a b:Nat):uu xs (some (a:Int)) (some (b:Int))=(xs.drop a).take (b - a):=by
 unfold uu;rw [HT.qJ,HT.qJ];by_cases ha:a<=xs.length
 ·rw [acp ha];by_cases hb:b<=xs.length
  ·rw [acp hb]
  ·rw [Nat.min_eq_right (by omega),abN (by rw [abH];omega),abN (by rw [abH];omega)]
 ·have h1:min a xs.length=xs.length:=Nat.min_eq_right (by omega);rw [h1,List.drop_of_length_le (aai xs.length),List.drop_of_length_le (show xs.length<=a by omega)];simp
section
variable{l u a b:Expr}{tl tu:DE}{p2:Pos}
def T9(te tl tu:DE):DE:=λρ M q x=>te ρ M (λd M1=>tl ρ M1 (λdi M2=>∃n:Nat,di= .int n/\tu ρ M2 (λdu M3=>∃ds m,mS M3 d=some ds/\du= .int (m:Nat)/\q (.loc M3.length) (M3++[.lst ((ds.drop n).take (m - n))])) x) x) x
theorem vf(he:JE X R e te)(hl:JE X R l tl)(hu:JE X R u tu):JE X R (.Subscript e (.Slice (some l) (some u) none p2) pos) (T9 te tl tu):=
 .of (sj w4 he (kY hl) (kY hu)) λσ H G L ρ M q x rl n h hx=>by refine ⟨G,L,ρ,M,_,x,rl,n,h,hx,λv H1 ⟨d1,G1,L1,M1,e1,r1,n1,h1⟩=> ?_⟩;refine ⟨G1,L1,ρ,M1,_,x,r1,n.mono e1,h1,hx.on e1,λv2 H2 ⟨d2,G2,L2,M2,e2,r2,n2,k,ek,h2⟩=> ?_⟩;subst ek;have n2:v2= .int k:=n2;subst n2;refine ⟨k,rfl,G2,L2,ρ,M2,_,x,r2,(n.mono e1).mono e2,h2,(hx.on e1).on e2,λv3 H3 ⟨d3,G3,L3,M3,e3,r3,n3,ds,m,ed,em,h3⟩=> ?_⟩;subst em;have FD:=e2.trans e3;obtain ⟨a,vs,rfl,sq,dn⟩:=gu r3 (Den.mono FD.g FD.l _ _ n1) ed;have n3:v3= .int m:=n3;subst n3;refine ⟨m,rfl,a,vs,rfl,sq,λp hp=> ?_⟩;rw [Ge];exact jM (e1.trans FD) r3 hp (Ψ.of (sN (m - k) (qP k dn.pair))) h3
def Oq:Dt->Dt->Ms->DQ->Prop:=λd e M q=>∃xs k,Aa M d=some xs/\e= .int k/\ -(2 ^ 63)<=k/\k < 2 ^ 63/\xs.length * k.toNat<=sizeLine/\q (.loc M.length) (M++[.lst (List.replicate k.toNat xs).flatten])
theorem Tw{K:fI}:m_ K QB Oq:=by intro G0 L0 H0 G L M H v1 v2 d1 d2 q e r n1 n2 ⟨xs,k,h1,h2,a,b,hz,hq⟩;obtain ⟨p1,w1,rfl,e1,m1⟩:=wU r n1 h1;subst h2;have n2:v2= .int k:=n2;subst n2;refine ⟨p1,k,w1,rfl,rfl,e1,a,b,by rw [<-m1.length];exact hz,λp hp=> ?_⟩;exact jM e r hp (Ψ.of (xK m1.pair k.toNat)) hq
theorem Cu(ja:JE X R a ta)(jb:JE X R b tb):JE X R (.BinOp a .Mult b pos) (jX Oq ta tb):=wY Kg Tw ja jb
end
def Ld(ks:List Key)(k:Key):Bool:=ks.any λc=>decide (c=k)
theorem nN{k:Key}:∀{ks:List Key} {vs:List V},ks.length=vs.length->(jU (ks.zip vs) k).isSome=Ld ks k
 | [],[],_=>rfl
 | c::ks,v::vs,h=>by
  have h:ks.length=vs.length:=by simpa using h
  rw [abo];by_cases e:c=k
  ·rw [eU e];subst e;simp [Ld]
  ·rw [eY e,nN h];unfold Ld;rw [abZ,aaI e,Bool.false_or]
section
variable{a b:Expr}{p:Pos}
theorem xS:JE X R (.Dict [] [] pos) (λ_ M q _=>q (.loc M.length) (M++[.eO [] []])):=
 .of Jq λσ H G L ρ M q x rl n h hx=>by intro p hp;exact ⟨.loc M.length,G,L++[p],_,rl.Vl hp,rl.Mr (m:= .eO [] []) hp ⟨[],au,rfl,rfl⟩,⟨p,rfl,by rw [<-rl.len,List.getElem?_append_right (Nat.le_refl _)];simp⟩,h⟩
def Tz:Dt->Dt->Ms->DQ->Prop:=λdi d M q=>∃k ks ds key,d= .loc k/\M[k]? =some (.eO ks ds)/\zR di=some key/\q (.bl (Ld ks key)) M
theorem PB(hu:X.A.units+1 < cLine):jL X (compareOp .In) (λy x H Q=>∃a o,x=V.ref a/\wb H a y o/\Q (.bl o.isSome) H):=by intro ζ s σ H x y u v Q I rx ry ⟨a,o,ex,g,q⟩;subst ex;obtain rfl:v=Value.ref a:=ry;exact Wy hu I g rx λs3 I3=>⟨.bl o.isSome,H,I3,rfl,q⟩
theorem Wq{K:fI}:m_ K (λy x H Q=>∃a o,x=V.ref a/\wb H a y o/\Q (.bl o.isSome) H) Tz:=by intro G0 L0 H0 G L M H v1 v2 d1 d2 q e r n1 n2 ⟨k,ks,ds,key,ed,hm,hk,h⟩;subst ed;obtain ⟨a,rfl,IQ⟩:=n2;obtain ⟨_,vs,hH,hl,dn⟩:=r.gJ k a _ IQ hm;refine ⟨a,_,rfl, .inl ⟨_,key, .inl hH,kX hk n1,rfl⟩, ?_⟩;have Gk:ks.length=vs.length:=hl.trans dn.length;rw [nN Gk];exact bw e r h
theorem Ua(hr:bR k' X.A)(ja:JE X R a ta)(jb:JE X R b tb)(hm:behindInMarks .In b=false:=by rfl):JE X R (.Compare a [.In] [b] pos) (jX Tz ta tb):=vq (PB (Dc hr)) Wq ja jb hm
end
def fY(ks:List Key)(k:Key):List Key:=if Ld ks k=true then ks else ks++[k]
def lE{α:Type}(k:Key)(v:α):List Key->List α->List α
 | c::ks,x::xs=>(if c=k then v else x)::lE k v ks xs
 | _,_=>[]
def eW{α:Type}(ks:List Key)(k:Key)(xs:List α)(v:α):List α:=if Ld ks k=true then lE k v ks xs else xs++[v]
theorem pb{α:Type}{k:Key}{v:α}:∀{ks:List Key} {xs:List α},ks.length=xs.length->(lE k v ks xs).length=ks.length
 | [],[],_=>rfl
 | _::ks,_::xs,h=>by
  have h:ks.length=xs.length:=by simpa using h
  show (lE k v ks xs).length+1=ks.length+1;rw [pb h]
theorem vo{k:Key}{v:V}:∀{ks:List Key} {vs:List V},ks.length=vs.length->(ks.zip vs).map (λkv=>if kv.1=k then (kv.1,v) else kv)=ks.zip (lE k v ks vs)
 | [],[],_=>rfl
 | c::ks,x::vs,h=>by
  have h:ks.length=vs.length:=by simpa using h
  rw [abo,aaJ,vo h];show _=(c,if c=k then v else x)::ks.zip (lE k v ks vs)
  congr 1
  show (if c=k then (c,v) else (c,x))=_;split <;> rfl
theorem oN{K:fI}{G:Hp}{L:List Addr}{k:Key}{d:Dt}{v:V}(n:Den K G L d v):∀{ks:List Key} {ds:List Dt} {vs:List V},Ψ K G L ds vs->ks.length=ds.length->Ψ K G L (lE k d ks ds) (lE k v ks vs)
 | [],[],_,h,_=>by cases h;rfl
 | c::ks,x::ds,_,⟨y,vs,e,n0,ns⟩,hl=>by
  subst e;have hl:ks.length=ds.length:=by simpa using hl
  refine ⟨_,_,rfl, ?_,oN n ns hl⟩;show Den K G L (if c=k then d else x) (if c=k then v else y);split
  ·exact n
  ·exact n0
theorem Jz{k:Key}(h:ks.length=vs.length):iM (ks.zip vs) k v=(fY ks k).zip (eW ks k vs v):=by
 unfold iM fY eW;rw [nB,nN h];split
 ·exact vo h
 ·rw [List.zip_append h];rfl
def yk(to ti tv:DE):DS:=λDn ρ M=>tv ρ M (λy M1=>to ρ M1 (λd M2=>ti ρ M2 (λdi M3=>∃k ks ds key,d= .loc k/\M3[k]? =some (.eO ks ds)/\zR di=some key/\ks.length < 1000/\Dn.nx ρ (M3.set k (.eO (fY ks key) (eW ks key ds y)))) Dn.x) Dn.x) Dn.x
section
variable{value:Expr}{tv:DE}{pos':Pos}
theorem qK(hr:bR k' X.A)(ho:JE X R o to)(hi:JE X R i ti)(hv:JE X R value tv)(hs:swapsWith value (some (.Subscript o i pos')) pos.line X.env=pure false:=by rfl):JS X R (.Assign [.Subscript o i pos'] value pos) (yk to ti tv):=
 .of (LX (Dc hr) ho hi hv hs) λσ H G L ρ M Dn rl n h hx=>by
  refine ⟨G,L,ρ,M,_,_,rl,n,h,hx,λv H1 ⟨dv,G1,L1,M1,e1,r1,n1,h1⟩=> ?_⟩;refine ⟨G1,L1,ρ,M1,_,_,r1,n.mono e1,h1,hx.on e1,λov H2 ⟨d,G2,L2,M2,e2,r2,n2,h2⟩=> ?_⟩;refine ⟨G2,L2,ρ,M2,_,_,r2,(n.mono e1).mono e2,h2,(hx.on e1).on e2,λiv H3 ⟨di,G3,L3,M3,e3,r3,n3,k,ks,ds,key,ed,hm,hk,hlen,h3⟩=> ?_⟩;subst ed;obtain ⟨a,rfl,Ku⟩:=n2;have C5:=e3.l.get Ku;obtain ⟨_,vs,hH,hl,dn⟩:=r3.gJ k a _ C5 hm;have FD:=e2.trans e3;have Vn:=Den.mono FD.g FD.l _ _ n1;have Gk:ks.length=vs.length:=hl.trans dn.length;obtain rfl:iv=kV key:=kX hk n3;have z:(ks.zip vs).length < sizeLine:=by rw [abw];exact aaT (Nat.min_le_left _ _) (Nat.lt_trans hlen (by decide))
  refine ⟨a,_,rfl,Hn.k hH z,ρ,G3,L3,_,((e1.trans e2).trans e3).trans (r3.HC C5),r3.setM (m:= .eO (fY ks key) (eW ks key ds dv)) C5 ⟨eW ks key vs v,by rw [au,Jz Gk], ?_, ?_⟩,(((n.mono e1).mono e2).mono e3).mono (r3.HC (o:= .own a) C5),h3⟩
  ·unfold fY eW;split
   ·rw [pb hl]
   ·rw [aag,aag,hl];rfl
  ·unfold eW;split
   ·exact oN Vn dn hl
   ·exact dn.app ⟨_,_,rfl,Vn,rfl⟩
end
section
variable{f a b v1 v2:Expr}{tx t1 t2:DE}{p c8:Pos}
def D9:Dt->Dt->Ms->DQ->Prop:=λdi d M q=>∃k ks ds key,d= .loc k/\M[k]? =some (.eO ks ds)/\zR di=some key/\q (.bl (!Ld ks key)) M
theorem EY(hu:X.A.units+1 < cLine):jL X (compareOp .NotIn) (λy x H Q=>∃a o,x=V.ref a/\wb H a y o/\Q (.bl (!o.isSome)) H):=by intro ζ s σ H x y u v Q I rx ry ⟨a,o,ex,g,q⟩;subst ex;obtain rfl:v=Value.ref a:=ry;exact MP hu I g rx λs3 I3=>⟨.bl (!o.isSome),H,I3,rfl,q⟩
theorem Mc{K:fI}:m_ K (λy x H Q=>∃a o,x=V.ref a/\wb H a y o/\Q (.bl (!o.isSome)) H) D9:=by intro G0 L0 H0 G L M H v1 v2 d1 d2 q e r n1 n2 ⟨k,ks,ds,key,ed,hm,hk,h⟩;subst ed;obtain ⟨a,rfl,IQ⟩:=n2;obtain ⟨_,vs,hH,hl,dn⟩:=r.gJ k a _ IQ hm;refine ⟨a,_,rfl, .inl ⟨_,key, .inl hH,kX hk n1,rfl⟩, ?_⟩;have Gk:ks.length=vs.length:=hl.trans dn.length;rw [nN Gk];exact bw e r h
theorem GC(hr:bR k' X.A)(ja:JE X R a ta)(jb:JE X R b tb)(hm:behindInMarks .NotIn b=false:=by rfl):JT X R (.Compare a [.NotIn] [b] pos) (lP (jX D9 ta tb)):=g9 (EY (Dc hr)) Mc ja jb hm
theorem xa:dY X (.type "dict") (λxs H Q=>∃a Ρ,xs=[V.ref a]/\Rd H a (.dK Ρ)/\∀p,H p=none->Q (.ref p) (upd H p (.dK Ρ))):=by
 intro ζ s σ H xs us Q I r ⟨a,Ρ,ex,e,q⟩;subst ex;cases r with
 | cons r1 r2=>
  cases r2;cases r1;exact Jm I e λp s' hp I'=>⟨.ref p,_,I',rfl,q p hp⟩
def Hm:List Dt->Ms->DQ->Prop
 | [d],M,q=>∃k ks ds,d= .loc k/\M[k]? =some (.eO ks ds)/\q (.loc M.length) (M++[.eO ks ds])
 | _,_,_=>False
theorem Ub{K:fI}:EB K (λxs H Q=>∃a Ρ,xs=[V.ref a]/\Rd H a (.dK Ρ)/\∀p,H p=none->Q (.ref p) (upd H p (.dK Ρ))) Hm:=by
 intro G0 L0 H0 G L M H vs ds q e r n h;unfold Hm at h;split at h
 ·rename_i d;obtain ⟨v,rfl,n1⟩:=bu n;obtain ⟨k,ks,ds,ed,hm,h⟩:=h;subst ed;obtain ⟨a,rfl,hk⟩:=n1;obtain ⟨_,vs,hH,hl,dn⟩:=r.gJ k a _ hk hm;refine ⟨a,_,rfl, .inl hH,λp hp=> ?_⟩;exact ⟨.loc M.length,G,L++[p],_,e.trans (r.Vl hp),r.Mr (m:= .eO ks ds) hp ⟨vs,au,hl,Ψ.mono (.refl _) ⟨[p],rfl⟩ _ _ dn⟩,⟨p,rfl,by rw [<-r.len,List.getElem?_append_right (Nat.le_refl _)];simp⟩,h⟩
 ·exact h.elim
theorem Bo:bootBuiltins "dict"=some (.type "dict"):=by decide+kernel
theorem Hz(hm:X.mg "dict"=none)(ha:JA X R [e] t)(hg:Gl X "dict":=by rfl)(he:starEach [e] X.env=(false,eval e X.env)::starEach [] X.env:=by rfl)(gy:(backTo pos (starEach [] X.env)).any (·.1)=false:=by rfl):JE X R (.Call (.Name "dict" p) [e] [] pos) (BS Hm t):=
 rC xa Ub hm Bo ha hg (by decide) (by decide) he gy
end
section
variable{f v1 v2:Expr}{tx t1 t2:DE}{c8:Pos}
theorem Ly{K:fI}{G1:Hp}{L1:List Addr}{H1:Hp}{H:Hp}{q:DQ}(e:Ex G1 L1 H1 G L H)(r:Rl K G L M H)(N0:H1 p=none)(hg:G p=none)(hl:p∉L)(h:H p=some (.dK (ks.zip vs)))(hk:ks.length=ds.length)(n:Ψ K G L ds vs)(k:q (.loc M.length) (M++[.eO ks ds])):Fin K G1 L1 H1 q (.ref p) H:=by
 refine ⟨.loc M.length,G,L++[p],M++[.eO ks ds],⟨e.g,e.l.trans ⟨[p],rfl⟩,e.fr,e.out,λb hb=> ?_,e.EG⟩,⟨r.sub,by rw [List.length_append,List.length_append,r.len];rfl,List.nodup_append.mpr ⟨r.nd,by simp,λa ha b hb=> ?_⟩,λk a m h1 h2=> ?_⟩,⟨p,rfl,by rw [<-r.len,List.getElem?_append_right (Nat.le_refl _)];simp⟩,k⟩
 ·rcases aaQ.mp hb with z | z
  ·exact e.new b z
  ·have e:b=p:=by simpa using z
   right;rw [e];exact N0
 ·have e:b=p:=by simpa using hb
  rw [e];exact λz=>hl (z▸ha)
 ·by_cases qo:k < L.length
  ·rw [aau qo] at h1;rw [aau (by rw [<-r.len];exact qo)] at h2;obtain ⟨q1,q2⟩:=r.gJ k a m h1 h2;exact ⟨q1,q2.mono (.refl _) ⟨[p],rfl⟩ rfl⟩
  ·have e:k=L.length:=by have:=(aaf.mp h1).1;rw [aag] at this;simp at this;omega
   rw [e,aak (aai _)] at h1;rw [e,r.len,aak (aai _)] at h2;simp at h1 h2;subst h1 h2;exact ⟨hg,vs,h,hk,Ψ.mono (.refl _) ⟨[p],rfl⟩ _ _ n⟩
end
def Pa:Dt->Bool
 | .aU=>true
 | _=>false
theorem EI{K:fI}(n:Den K G L d v):decide (v= .aU)=Pa d:=by
 cases d with
 | aU=>cases n;rfl
 | bl b=>cases n;rfl
 | int i=>cases n;rfl
 | str x=>cases n;rfl
 | tup ds=>obtain ⟨a,vs,rfl,_⟩:=n;rfl
 | lst ds=>obtain ⟨a,vs,rfl,_⟩:=n;rfl
 | obj C ns ds=>obtain ⟨a,dx,vs,rfl,_⟩:=n;rfl
 | loc k=>obtain ⟨a,rfl,_⟩:=n;rfl
 | ref a=>cases n;rfl
 | ty m=>cases n;rfl
 | h_ ns=>obtain ⟨a,rfl,_⟩:=n;rfl
 | kt ds=>obtain ⟨a,vs,rfl,_⟩:=n;rfl
 | exc C ns ds=>obtain ⟨a,od,vs,rfl,_⟩:=n;rfl
 | Ro x C od ns ds=>obtain ⟨vs,rfl,_⟩:=n;rfl
def UC:Dt->Dt->Ms->DQ->Prop:=λd e M q=>e= .aU/\q (.bl (Pa d)) M
def Oz:Dt->Dt->Ms->DQ->Prop:=λd e M q=>e= .aU/\q (.bl (!Pa d)) M
theorem Yu{K:fI}:m_ K (λx y H Q=>y= .aU/\Q (.bl (decide (x= .aU))) H) UC:=by intro G0 L0 H0 G L M H v1 v2 d1 d2 q e r n1 n2 ⟨e2,h⟩;subst e2;refine ⟨n2, ?_⟩;rw [EI n1];exact bw e r h
theorem Ss{K:fI}:m_ K (λx y H Q=>y= .aU/\Q (.bl (!decide (x= .aU))) H) Oz:=by intro G0 L0 H0 G L M H v1 v2 d1 d2 q e r n1 n2 ⟨e2,h⟩;subst e2;refine ⟨n2, ?_⟩;rw [EI n1];exact bw e r h
section
variable{a b:Expr}
theorem Pd(ja:JE X R a ta)(jb:JE X R b tb):JT X R (.Compare a [.Is] [b] pos) (lP (jX UC ta tb)):=g9 K0 Yu ja jb (gM _)
theorem MU(ja:JE X R a ta)(jb:JE X R b tb):JT X R (.Compare a [.IsNot] [b] pos) (lP (jX Oz ta tb)):=g9 Mt Ss ja jb (gM _)
end
def i8{α:Type}(is:List Nat)(xs:List α):List α:=is.filterMap λi=>xs[i]?
theorem Bb{α β:Type}{F:α->β->Prop}:∀{xs:List α} {ys:List β},Paired F xs ys->∀{i:Nat} {x:α},xs[i]? =some x->∃y,ys[i]? =some y/\F x y
 | _,_, .nil,i,x,h=>by simp at h
 | _,_, .cons r t,0,x,h=>by obtain rfl:=aaz h;exact ⟨_,rfl,r⟩
 | _,_, .cons r t,i+1,x,h=>by obtain ⟨y,e,f⟩:=Bb t (show _=some x by simpa using h);exact ⟨y,by simpa using e,f⟩
theorem tO{α β:Type}{F:α->β->Prop}{xs:List α}{ys:List β}(p:Paired F xs ys):∀is:List Nat,Paired F (i8 is xs) (i8 is ys)
 | []=> .nil
 | i::is=>by
  have ih:=tO p is;unfold i8 at ih⊢;rw [acg,acg];cases hx:xs[i]? with
  | none=>
   have:ys[i]? =none:=by rw [List.getElem?_eq_none_iff] at hx⊢;rw [<-Paired.length p];exact hx
   rw [this];exact ih
  | some x=>
   obtain ⟨y,hy,r⟩:=Bb p hx;rw [hy];exact .cons r ih
theorem Fl{a b:Nat}(its:List Value)(hb:0 < b)(ha:a<=its.length):slicePick its.toArray (some (a:Int)) none (some (b:Int))=(i8 (sliceRange a its.length b) its).toArray:=by
 have hs:sliceBounds (some (a:Int)) none (some (b:Int)) its.length=((a:Int),(its.length:Int),(b:Int)):=by
  unfold sliceBounds;have h1:(b:Int) > 0:=by omega
  have h2:¬(a:Int) < 0:=by omega
  simp only [Option.getD_some,h1,if_true,h2,if_false];refine Prod.ext ?_ rfl;show max (0:Int) (min (a:Int) (its.length:Int))=a;omega
 unfold slicePick;rw [aay,hs]
 congr 1
 unfold i8
 congr 1
 funext i
 simp
section
variable{l k:Expr}{te tl tk:TE}{p2:Pos}
def R4(K:fI)(a b:Nat)(te tl tk:TE):TE:=λσ H Q=>te σ H λx H1=>tl σ H1 λy H2=>∃i:Int,y= .int i/\some i=some (a:Int)/\tk σ H2 λz H3=>∃j:Int,z= .int j/\some j=some (b:Int)/\∃c xs,x= .ref c/\gF K H3 c xs/\a<=xs.length/\(sliceRange a xs.length b).length<=xs.length/\∀p,H3 p=none->Q (.ref p) (upd H3 p (.lst (i8 (sliceRange a xs.length b) xs)))
theorem HG{α:Type}{xs:List α}:∀is:List Nat,(i8 is xs).length<=is.length:=λis=>List.length_filterMap_le _ _
theorem LG{a b:Nat}(hb:0 < b)(he:PE X e te)(hl:PE X l tl)(hk:PE X k tk):PE X (.Subscript e (.Slice (some l) none (some k) p2) pos) (R4 X.K a b te tl tk):=by intro ζ s σ H Q I h;refine Subscript_ (bF (he ζ s σ H _ I h) λv s1 ⟨x,H1,I1,r1,q1⟩=> ?_);refine wpAny_Slice (bF (kY hl ζ s1 σ H1 (λo H2=>o=some (a:Int)/\tk σ H2 λz H3=>∃j:Int,z= .int j/\some j=some (b:Int)/\∃c xs,x= .ref c/\gF X.K H3 c xs/\a<=xs.length/\(sliceRange a xs.length b).length<=xs.length/\∀p,H3 p=none->Q (.ref p) (upd H3 p (.lst (i8 (sliceRange a xs.length b) xs)))) I1 q1) λvl s2 ⟨o1,H2,I2,pl,el,q2⟩=> ?_);rw [evalPart_none];refine abe ?_;refine bF (kY hk ζ s2 σ H2 (λo H3=>o=some (b:Int)/\∃c xs,x= .ref c/\gF X.K H3 c xs/\a<=xs.length/\(sliceRange a xs.length b).length<=xs.length/\∀p,H3 p=none->Q (.ref p) (upd H3 p (.lst (i8 (sliceRange a xs.length b) xs)))) I2 q2) λvs s3 ⟨o,H3,I3,ps,eo,c,xs,ex,hx,ha,hn,q⟩=> ?_;subst el eo ex;cases r1;have I4:Inv X ζ σ H3 {s3 with heap:=s3.heap.push {cls:= .type "slice",data:= .fields #[vl, .none,vs]}}:=I3.kept (t':=s3.toks) λb ob q=>aal _ q;obtain ⟨its,r,ht,hz⟩:=I4.list hx;have hlen:=r.length;show wpAny (model X.prog X.w) X.A (subscriptTail e (.Slice (some l) none (some k) p2) (.ref c) (.ref s3.heap.objs.size)) (EP X ζ σ Q) X.xe {s3 with heap:=s3.heap.push {cls:= .type "slice",data:= .fields #[vl, .none,vs]}};refine tail_any (ops:=[.ref c, .ref s3.heap.objs.size]) ht.isList.typeIs slot_list_getitem.lookup ?_ (by with_unfolding_all rfl);refine wpAny_getItem_list_slice ht.isList (Heap.IsSliceOf.new ..) pl .none ps (λz=>by injection z with z;omega) ?_ (by rw [aay] <;> omega);rw [Fl its hb (by omega),<-hlen];refine ⟨.ref _,_,I4.laid (t':=s3.toks) (o:= .lst (i8 (sliceRange a xs.length b) xs)) (λb ob q=>aal _ q) (aai _) ?_,rfl,q _ (I4.bc.fresh (aai _))⟩;exact ⟨aax (HG _) (aax hn hz),_,0,tO r _,aaR _ rfl⟩
end
def SN(td te:TE):TE:=λσ H Q=>td σ H λx H1=>∃a,x= .ref a/\Z2 H1 a/\te σ H1 λy H2=>∃b Ρ more,y= .ref b/\a≠b/\H2 a=some (.dK Ρ)/\Rd H2 b (.dK more)/\Ρ.length+more.length<=sizeLine/\Q .aU (upd H2 a (.dK (iL Ρ more)))
section
variable{c8:Pos}{td te:TE}
theorem Ll(ho:PE X o td)(he:PE X e te)(m:M1 X o "update" apos e c8):PE X (.Call (.Attribute o "update" apos) [e] [] c8) (SN td te):=by
 intro ζ s σ H Q I h;refine wpAny_Call_method m.base m.few m.line PySem.F.plainAttrs_dict PySem.F.slot_dict_update PySem.F.type_dict_update (bF (ho ζ s σ H _ I h) λu s1 ⟨x,H1,I1,rx,a,ex,d,q1⟩=> ?_);subst ex;obtain rfl:u=Value.ref a:=rx;obtain ⟨t1,t2,_⟩:=Qu I1 d;refine ⟨t1,t2, ?_⟩;rw [m.trees];refine Calls.callWith_builtin rfl (Calls.evalArgs_plain (Calls.spliced_cons (bF (he ζ s1 σ H1 _ I1 q1) λiv s2 ⟨y,H2,I2,ry,b,Ρ,more,ey,lF,hA,hB,hz,q2⟩=>Calls.spliced_nil ?_)));subst ey;obtain rfl:iv=Value.ref b:=ry;obtain ⟨z1,d1,vs,r1,dd1⟩:=Dd I2.bc hA;obtain ⟨z2,d2,rs,r2,Vf⟩:=nW I2.bc hB;refine call_meetsIn PySem.F.slot_dict_update dd1.typeIs PySem.F.entry_dict_update (PySem.F.args_dict_update_2 _ _) (meets_dict_update (bG X.prog X.w) a b lF d2) ⟨vs,rs,dd1,Vf,by rw [<-r1.length,<-r2.length];exact hz,λh' hm _ hs=> ?_⟩;have hex:∃q,h'.get? a=some q:=let ⟨q,_,_,hq,_⟩:=hm;⟨q,hq⟩
 exact ⟨.aU,_,qy (t':=s2.toks) I2 (by rw [hA];exact True.intro) hs hex (tM (aax (iz more Ρ) hz) d1 (KV.merge r2 r1) hm),rfl,q2⟩
end
section
variable{l k a b:Expr}{tl tk:DE}{p2 c8:Pos}
def NP(a b:Nat)(te tl tk:DE):DE:=λρ M q x=>te ρ M (λd M1=>tl ρ M1 (λdi M2=>di= .int a/\tk ρ M2 (λdk M3=>∃ds,mS M3 d=some ds/\dk= .int b/\a<=ds.length/\(sliceRange a ds.length b).length<=ds.length/\q (.loc M3.length) (M3++[.lst (i8 (sliceRange a ds.length b) ds)])) x) x) x
theorem QY{a b:Nat}(he:JE X R e te)(hl:JE X R l tl)(hk:JE X R k tk)(hb:0 < b:=by decide):JE X R (.Subscript e (.Slice (some l) none (some k) p2) pos) (NP a b te tl tk):=
 .of (LG hb he hl hk) λσ H G L ρ M q x rl n h hx=>by refine ⟨G,L,ρ,M,_,x,rl,n,h,hx,λv H1 ⟨d1,G1,L1,M1,e1,r1,n1,h1⟩=> ?_⟩;refine ⟨G1,L1,ρ,M1,_,x,r1,n.mono e1,h1,hx.on e1,λv2 H2 ⟨d2,G2,L2,M2,e2,r2,n2,ei,h2⟩=> ?_⟩;subst ei;have n2:v2= .int a:=n2;subst n2;refine ⟨_,rfl,rfl,G2,L2,ρ,M2,_,x,r2,(n.mono e1).mono e2,h2,(hx.on e1).on e2,λv3 H3 ⟨d3,G3,L3,M3,e3,r3,n3,ds,ed,ek,ha,hn,h3⟩=> ?_⟩;subst ek;have n3:v3= .int b:=n3;subst n3;have FD:=e2.trans e3;obtain ⟨c,vs,rfl,sq,m⟩:=gu r3 (Den.mono FD.g FD.l _ _ n1) ed;have hl:=m.length;refine ⟨_,rfl,rfl,c,vs,rfl,sq,by rw [<-hl];exact ha,by rw [<-hl];exact hn,λp hp=> ?_⟩;rw [<-hl];exact jM (e1.trans FD) r3 hp (Ψ.of (tO m.pair _)) h3
def pV(ks:List Key):List Key->List Key
 | []=>ks
 | k::r=>pV (fY ks k) r
def tJ(ks:List Key)(ds:List Dt):List Key->List Dt->List Dt
 | k::r,d::Ay=>tJ (fY ks k) (eW ks k ds d) r Ay
 | _,_=>ds
theorem QZ{α:Type}{k:Key}{xs:List α}{v:α}(h:ks.length=xs.length):(fY ks k).length=(eW ks k xs v).length:=by
 unfold fY eW;split
 ·rw [pb h]
 ·rw [aag,aag,h];rfl
theorem Q6{K:fI}{k:Key}(n:Den K G L d v)(h:Ψ K G L ds vs)(hl:ks.length=ds.length):Ψ K G L (eW ks k ds d) (eW ks k vs v):=by
 unfold eW;split
 ·exact oN n h hl
 ·exact h.app ⟨_,_,rfl,n,rfl⟩
theorem Eh{K:fI}{G:Hp}{L:List Addr}:∀{u_:List Key} {Ay:List Dt} {Lb:List V} {ks:List Key} {ds:List Dt} {vs:List V},u_.length=Ay.length->Ψ K G L Ay Lb->ks.length=ds.length->Ψ K G L ds vs->
  ∃us,iL (ks.zip vs) (u_.zip Lb)=(pV ks u_).zip us/\(pV ks u_).length=(tJ ks ds u_ Ay).length/\Ψ K G L (tJ ks ds u_ Ay) us
 | [],[],_,ks,ds,vs,_,h2,hl,h=>by cases h2;exact ⟨vs,rfl,hl,h⟩
 | k::u_,d::Ay,_,ks,ds,vs,Gk,⟨v,Lb,e,n0,ns⟩,hl,h=>by
  subst e;have Gk:u_.length=Ay.length:=by simpa using Gk
  obtain ⟨us,e1,e2,e3⟩:=Eh (ks:=fY ks k) (ds:=eW ks k ds d) (vs:=eW ks k vs v) Gk ns (QZ hl) (Q6 n0 h hl);refine ⟨us, ?_,e2,e3⟩;rw [abo];show iL (iM (ks.zip vs) k v) (u_.zip Lb)=(pV (fY ks k) u_).zip us;rw [Jz (hl.trans h.length),e1]
def DY(to te:DE):DE:=λρ M q x=>to ρ M (λd M1=>(∃k ks ds,d= .loc k/\M1[k]? =some (.eO ks ds))/\te ρ M1 (λd2 M2=>∃k k2 ks ds u_ Ay,d= .loc k/\d2= .loc k2/\k≠k2/\M2[k]? =some (.eO ks ds)/\M2[k2]? =some (.eO u_ Ay)/\ks.length+u_.length<=1000/\q .aU (M2.set k (.eO (pV ks u_) (tJ ks ds u_ Ay)))) x) x
theorem Cp(ho:JE X R o to)(he:JE X R e te)(m:M1 X o "update" apos e c8:=by exact ⟨rfl,rfl,rfl,rfl⟩):JE X R (.Call (.Attribute o "update" apos) [e] [] c8) (DY to te):=
 .of (Ll ho he m) λσ H G L ρ M q x rl n h hx=>by
  refine ⟨G,L,ρ,M,_,x,rl,n,h,hx,λv H1 ⟨d1,G1,L1,M1,e1,r1,n1,⟨k0,ks0,ds0,ed0,hm0⟩,h1⟩=> ?_⟩;subst ed0;obtain ⟨a,rfl,hk⟩:=n1;obtain ⟨_,vs0,hH0,_,_⟩:=r1.gJ k0 a _ hk hm0;refine ⟨a,rfl, .inl ⟨_, .inl hH0⟩,G1,L1,ρ,M1,_,x,r1,n.mono e1,h1,hx.on e1,λv2 H2 ⟨d2,G2,L2,M2,e2,r2,n2,k,k2,ks,ds,u_,Ay,ed,ed2,lF,hm,YJ,hz,h3⟩=> ?_⟩;cases ed;subst ed2;have C5:=e2.l.get hk;obtain ⟨b,rfl,TM⟩:=n2;obtain ⟨_,vs,hH,hl,dn⟩:=r2.gJ k0 a _ C5 hm;obtain ⟨_,Lb,VM,Gk,RJ⟩:=r2.gJ k2 b _ TM YJ;have z1:(ks.zip vs).length<=ks.length:=by rw [abw];exact Nat.min_le_left _ _
  have z2:(u_.zip Lb).length<=u_.length:=by rw [abw];exact Nat.min_le_left _ _
  have sz:(1000:Nat)<=sizeLine:=by decide
  obtain ⟨us,u1,u2,u3⟩:=Eh Gk RJ hl dn;have ab:a≠b:=λz=>by subst z;have i1:=(aaf.mp C5).1;have:=(List.getElem?_inj (l:=L2) i1 r2.nd).mp (C5.trans TM.symm);exact lF this
  refine ⟨b,_,_,rfl,ab,hH, .inl VM,by omega, ?_⟩;exact ⟨.aU,G2,L2,_,(e1.trans e2).trans (r2.HC C5),r2.setM (m:= .eO (pV ks u_) (tJ ks ds u_ Ay)) C5 ⟨us,by rw [au,u1],u2,u3⟩,rfl,h3⟩
end
def JY(P:Program)(w:World)(a:Addr)(Ρ:List (Key×V))(ep:Nat)(h:Heap):Prop:=Ρ.length<=sizeLine/\(a==sysModules)=false/\∃vs,KV Ρ vs/\h.DictAt (bG P w) a vs ep
def Co(P:Program)(w:World)(a:Addr)(Ρ:List (Key×V))(ep:Nat):HO:= .ext (JY P w a Ρ ep)
section
variable{P':Program}{w':World}{H:Hp}{h:Heap}{ep:Nat}
theorem D0(ok:ly P w H h)(e:H a=some (Co P' w' a Ρ ep)):JY P' w' a Ρ ep h:=(ok a _ e).1
theorem O5(x:JY P' w' a Ρ ep h):b_ P w H h a (Co P' w' a Ρ ep):=by
 refine ⟨x, ?_,λh1 h2 y k=> ?_⟩
 ·obtain ⟨_,_,vs,_,o,es,e,_⟩:=x;exact ⟨o,e⟩
 ·obtain ⟨z,hd,vs,r,o,es,e,c⟩:=y;exact ⟨z,hd,vs,r,o,es,k _ e,c⟩
end
section
variable{H:Hp}{ep:Nat}
theorem Inv.QT(I:Inv X ζ σ H s)(mu:RB (H a))(x:JY X.prog X.w a Ρ ep s.heap):Inv X ζ σ (upd H a (Co X.prog X.w a Ρ ep)) s:=by
 have he:∃u,s.heap.get? a=some u:=let ⟨_,_,_,_,o,_,e,_⟩:=x;⟨o,e⟩
 exact I.write (x:=a) (e:=a) (h':=s.heap) (t':=s.toks) mu (.inl rfl) (λb u _ q=>q) he (O5 x)
theorem Inv.walkOut(I:Inv X ζ σ H s)(e:H a=some (Co X.prog X.w a Ρ ep)):Inv X ζ σ (upd H a (.dK Ρ)) s:=by
 obtain ⟨z,hd,vs,r,dd⟩:=D0 I.bc e;have he:∃u,s.heap.get? a=some u:=let ⟨o,_,e,_⟩:=dd;⟨o,e⟩
 exact I.write (x:=a) (e:=a) (h':=s.heap) (t':=s.toks) (by rw [e];exact True.intro) (.inl rfl) (λb u _ q=>q) he (tM z hd r dd.dictOf)
theorem Ud{k:Key}{u:Value}(h:(bG P w).is k u=true):aH (kV k) u:=by
 rcases bA h with ⟨i,t,rfl,rfl⟩ | ⟨x,t,rfl,rfl⟩
 ·exact ⟨t,rfl⟩
 ·exact ⟨t,rfl⟩
end
def WY(P:Program)(w:World)(a:Addr)(Ρ:List (Key×V))(ep:Nat):It:=
 ⟨λi H=>H a=some (Co P w a Ρ ep)/\i < Ρ.length,λi H x H'=>H'=H/\∃kv,Ρ[i]? =some kv/\x=kV kv.1,λi H=>H a=some (Co P w a Ρ ep)/\Ρ.length<=i⟩
theorem Gr{K:fI}(a it:Addr)(Ρ:List (Key×V))(ep:Nat):Turn P w K tg (WY P w a Ρ ep) [it] it (λi h=>h.IsKeyIter it a i Ρ.length ep) where
 mem:=by simp
 obj:=λi h st b hb=>by
  have e:b=it:=by simpa using hb
  subst e;obtain ⟨o,e,c,d⟩:=st;exact ⟨o,e,λv z=>by rw [d] at z;cases z⟩
 keep:=λi h h' st k=>by obtain ⟨o,e,r⟩:=st;exact ⟨o,k it (by simp) o e,r⟩
 item:=by
  intro X hP hw hK hc i ζ s σ H E I hf st hg;subst hP hw hK;obtain ⟨hq,hi⟩:=hg;obtain ⟨z,hd,vs,rel,dd⟩:=D0 I.bc hq;obtain ⟨f0,f1,f2,f3,f4,f5⟩:=hf it (by simp);have hx:Ρ[i]? =some Ρ[i]:=aaa hi;obtain ⟨q,RE,r1,r2⟩:=Bb rel hx;obtain ⟨k,v⟩:=q;have XO:s.heap.IsKeyIter it a i vs.length ep:=by rw [<-rel.length];exact st
  refine wpAny_pyNext_dict_item XO dd RE λkey h' hk yd sb=> ?_;have yd:h'.IsKeyIter it a (i+1) Ρ.length ep:=by rw [rel.length];exact yd
  have I1:Inv X ζ σ H {s with heap:=h'}:=I.turned (t':=s.toks) (λb o hb e=>(sb.2 b hb).trans e) f0 f1 f3 f4 f5;obtain ⟨o,e,c,d⟩:=id yd;exact ⟨key,rfl,u6 (s:={s with heap:=h'}) e c d (by decide) ⟨kV k,H,I1,Ud hk,⟨rfl,Ρ[i],hx,by rw [r1]⟩,yd,λb hb=>(hf b hb).1⟩⟩
 done:=by
  intro X hP hw hK hc i ζ s σ H E I hf st hg;subst hP hw hK;obtain ⟨hq,hi⟩:=hg;obtain ⟨z,hd,vs,rel,dd⟩:=D0 I.bc hq;obtain ⟨f0,f1,f2,f3,f4,f5⟩:=hf it (by simp);have XO:s.heap.IsKeyIter it a i vs.length ep:=by rw [<-rel.length];exact st
  exact wpAny_pyNext_dict_end (I.ok.hd hc) XO dd (ab6 (by rw [<-rel.length];exact hi)) λh' eb=>⟨rfl,I.turned (t':=s.toks) (λb o hb e=>eb b o hb e) f0 f1 f3 f4 f5⟩
 self:=λ_ _ _ _ _ st h=>wpAny_pyIter_keyiter st h
section
variable{H:Hp}{Q:It->Hp->Prop}{E:Value->Shared->Prop}
theorem Mf(I:Inv X ζ σ H s)(e:H a=some (.dK Ρ))(q:∀ep,Q (WY X.prog X.w a Ρ ep) (upd H a (Co X.prog X.w a Ρ ep))):wpAny (model X.prog X.w) X.A (pyIter (.ref a)) (K_ X ζ σ tg Q) E s:=by
 obtain ⟨z,hd,vs,rel,dd⟩:=Dd I.bc e;obtain ⟨ep,dd⟩:=dd.dictAt;refine wpAny_pyIter_dict hd dd ?_;have I1:=I.QT (by rw [e];exact True.intro) (show JY X.prog X.w a Ρ ep s.heap from ⟨z,hd,vs,rel,dd⟩);refine ⟨s.heap.objs.size,[s.heap.objs.size],_,_,_,rfl,I1.kept (t':=s.toks) λb o e=>aal _ e,Gr a _ Ρ ep,⟨_,aaR _ rfl,rfl,by rw [rel.length];rfl⟩,λb hb=> ?_,q ep⟩;have e:b=s.heap.objs.size:=by simpa using hb
 subst e;exact I1.Cn (aai _) (I1.bc.fresh (aai _))
end
def ZT(P:Program)(w:World)(D:yq):St->Hp->Prop:=λσ H=>∃a Ρ ep,H a=some (Co P w a Ρ ep)/\D.nx σ (upd H a (.dK Ρ))
section
variable{t:TS}{td ty:TE}
theorem Fm(h:PS X st t):PS X st (λD σ H=>t {D with nx:=ZT X.prog X.w D} σ H):=by
 intro ζ s σ H D I h';refine bF (h ζ s σ H _ I h') λf s' sp=> ?_;cases f with
 | next=>
  obtain ⟨σ',H',I',a,Ρ,ep,e,q⟩:=sp;exact ⟨σ',_,I'.walkOut e,q⟩
 | brk=>exact sp
 | cont=>exact sp
 | ret u=>exact sp
def Pj(P:Program)(w:World)(td ty:TE):TE:=λσ H Q=>td σ H λx H1=>ty σ H1 λy H2=>∃a Ρ ep k v,x= .ref a/\H2 a=some (Co P w a Ρ ep)/\y=kV k/\jU Ρ k=some v/\Q v H2
theorem Jd(ho:PE X o td)(hi:PE X i ty)(hs:BE i):PE X (.Subscript o i pos) (Pj X.prog X.w td ty):=by intro ζ s σ H Q I h;refine wO acb.lookup hs (bF (ho ζ s σ H _ I h) λu s1 ⟨x,H1,I1,rx,q1⟩=>bF (hi ζ s1 σ H1 _ I1 q1) λiv s2 ⟨y,H2,I2,ry,a,Ρ,ep,k,v,ex,e,ey,l,q2⟩=> ?_);subst ex ey;obtain rfl:u=Value.ref a:=rx;obtain ⟨z,hd,vs,rel,dd⟩:=D0 I2.bc e;have dd:=dd.dictOf;obtain ⟨w',hw,Fe⟩:=kz.some_of (v:=v) (o:=valueAt vs k) (by rw [<-l];exact rel.val k);exact ⟨dd.typeIs,wpAny_getItem_of (rB ry) dd.mapOf hw ⟨v,H2,I2.tok _,Fe,q2⟩⟩
end
def JZ:Key->Dt
 | .inl i=> .int i
 | .inr x=> .str x
theorem MB{K:fI}{G:Hp}{L:List Addr}:∀k:Key,Den K G L (JZ k) (kV k)
 | .inl _=>rfl
 | .inr _=>rfl
theorem qO{K:fI}{G:Hp}{L:List Addr}:∀is:List Int,Ψ K G L (is.map Dt.int) (is.map V.int)
 | []=>rfl
 | _::is=>⟨_,_,rfl,rfl,qO is⟩
theorem za{K:fI}{G:Hp}{L:List Addr}:∀{is:List Int} {vs:List V},Ψ K G L (is.map Dt.int) vs->vs=is.map V.int
 | [],vs,h=>h
 | i::is,vs,h=>by obtain ⟨v,r,rfl,h1,h2⟩:=h;have h1:v= .int i:=h1;rw [h1,za h2];rfl
def Ob(P:Program)(w:World)(ks:List Key)(is:List Int)(ep:Nat):Addr->HO:=λa=>Co P w a (ks.zip (is.map V.int)) ep
def ug(g:Dt->En->(En->Prop)->Prop)(tb:DS)(Dn:lI)(k:Nat)(u:Addr->HO)(m:MO):List Key->En->Ms->Prop
 | [],ρ,M=>M[k]? =some (.raw u)/\Dn.nx ρ (M.set k m)
 | x::xs,ρ,M=>M[k]? =some (.raw u)/\g (JZ x) ρ λρ'=>tb {Dn with nx:=ug g tb Dn k u m xs,ct:=ug g tb Dn k u m xs,bk:=λρ M=>M[k]? =some (.raw u)/\Dn.nx ρ (M.set k m)} ρ' M
def R_(P:Program)(w:World)(te:DE)(g:Dt->En->(En->Prop)->Prop)(tb:DS):DS:=λDn ρ M=>te ρ M (λd M1=>∃k ks is,d= .loc k/\M1[k]? =some (.eO ks (is.map Dt.int))/\∀ep,ug g tb Dn k (Ob P w ks is ep) (.eO ks (is.map Dt.int)) ks ρ (M1.set k (.raw (Ob P w ks is ep)))) Dn.x
def OP(P:Program)(w:World)(t:TE):TI:=λσ H R=>t σ H λv H1=>∃a Ρ,v= .ref a/\H1 a=some (.dK Ρ)/\∀ep,R (WY P w a Ρ ep) (upd H1 a (Co P w a Ρ ep))
theorem Md{t:TE}(h:PE X e t):PI X tg e (OP X.prog X.w t):=by intro ζ s σ H R I ht;refine bF (h ζ s σ H _ I ht) λu s1 ⟨v,H1,I1,rv,a,Ρ,ev,ha,q⟩=> ?_;subst ev;obtain rfl:u=Value.ref a:=rv;exact Mf I1 ha q
section
variable{iter:Expr}{body:List Stmt}{gg:TG}{g:Dt->En->(En->Prop)->Prop}{tb:DS}
theorem NA(hi:JE X R iter te)(hg:PG X tg gg)(gd:GD X.K gg g)(hb:Bk X R body tb)(hp:PassesOwn (model X.prog X.w) X.A X.env X.xe:=by first | exact PassesOwn.never | exact PassesOwn.leaving)(hc:X.calm=true:=by rfl)(hs:∀x,foldedSetIterable iter X.env x=pure x:=by intro _;rfl):
  JS X R (.For tg iter body [] pos) (R_ X.prog X.w te g tb):= .of (Fm (C2 hp hc (Md hi) hg hb hs)) λσ H G L ρ M Dn rl n h hx=>by
 refine ⟨G,L,ρ,M,_,_,rl,n,h,hx,λv H1 ⟨d,G1,L1,M1,e1,r1,n1,k,ks,is,ed,hk,h1⟩=> ?_⟩;subst ed;obtain ⟨a,rfl,Ku⟩:=n1;obtain ⟨hGa,vs,hH,hl,dn⟩:=r1.gJ k a _ Ku hk;have hvs:=za dn;subst hvs;rw [aad] at hl;refine ⟨a,_,rfl,hH,λep=> ?_⟩;have h1:=h1 ep;generalize hu:Ob X.prog X.w ks is ep=u at h1;have Va:Co X.prog X.w a (ks.zip (is.map V.int)) ep=u a:=by rw [<-hu];rfl
 have r2:Rl X.K G1 L1 (M1.set k (.raw u)) (upd H1 a (Co X.prog X.w a (ks.zip (is.map V.int)) ep)):=r1.setM (m:= .raw u) Ku (show upd H1 a _ a=some (u a) by rw [au,Va]);have e2:Ex G1 L1 H1 G1 L1 (upd H1 a (Co X.prog X.w a (ks.zip (is.map V.int)) ep)):=r1.HC Ku;have zl:(ks.zip (is.map V.int)).length=ks.length:=by rw [abw,aad];omega
 generalize VM:upd H1 a (Co X.prog X.w a (ks.zip (is.map V.int)) ep)=H2 at r2 e2;have KC:=e1.trans e2;have out:∀{G':Hp} {L':List Addr} {H':Hp} {M':Ms} {ρ':En} {σ':St},Ex G1 L1 H2 G' L' H'->Rl X.K G' L' M' H'->lK X.K G' L' ρ' σ'->M'[k]? =some (.raw u)->Dn.nx ρ' (M'.set k (.eO ks (is.map Dt.int)))->ZT X.prog X.w (um X.K G L H Dn) σ' H':=λ{G' L' H' M' ρ' σ'} e' r' n' hm S6=>by have Bf:=e'.l.get Ku;have S3:H' a=some (u a):=(r'.gJ k a _ Bf hm).2;refine ⟨a,ks.zip (is.map V.int),ep,by rw [Va];exact S3,ρ',G',L',_,(KC.trans e').trans (r'.HC Bf),r'.setM (m:= .eO ks (is.map Dt.int)) Bf ⟨is.map V.int,au,by rw [aad];exact hl,qO is⟩,n'.mono (r'.HC (o:= .own a) Bf),S6⟩
 refine ⟨λi m σ' H'=>m+i=ks.length/\fb X.K G1 L1 H2 (λρ' M'=>ug g tb Dn k u (.eO ks (is.map Dt.int)) (ks.drop i) ρ' M') σ' H',⟨ks.length,rfl,ρ,G1,L1,_, .refl _ _ _,r2,n.mono e1,by rw [acw];exact h1⟩, ?_⟩;rintro i m σ' H' ⟨hm,ρ',G',L',M',e',r',n',h'⟩;have Bf:=e'.l.get Ku;by_cases hi:i < ks.length
 ·right;rw [abp hi] at h';obtain ⟨MN,h'⟩:=h';have S3:H' a=some (u a):=(r'.gJ k a _ Bf MN).2;refine ⟨⟨by rw [Va];exact S3,by omega⟩,fb X.K G1 L1 H2 (λρ' M'=>ug g tb Dn k u (.eO ks (is.map Dt.int)) (ks.drop (i+1)) ρ' M'),λσ2 H3 f=>⟨m - 1,by omega,by omega,f⟩,λv H3 hy=> ?_⟩;obtain ⟨rfl,kv,ZF,rfl⟩:=hy;have IQ:kv.1=ks[i]:=by rw [List.getElem?_zip_eq_some] at ZF;have:=ZF.1;rw [aaa hi] at this;exact (aaz this).symm
  rw [IQ];refine gd G' L' M' H3 _ _ ρ' σ' _ _ r' (MB _) n' h' λρ3 σ3 n3 h3=> ?_;refine ⟨G',L',ρ3,M',_,r',n3,h3,hx.on (KC.trans e'),⟨λ_ _ f=>fb.back e' f,λ_ _ f=>Fin.back (KC.trans e') f,λσ4 H4 f=> ?_,λ_ _ f=>fb.back e' f⟩⟩;obtain ⟨ρ4,G4,L4,M4,e4,r4,n4,hm4,h4⟩:=f;exact out (e'.trans e4) r4 n4 hm4 h4
 ·left;rw [ab4 (by omega)] at h';have S3:H' a=some (u a):=(r'.gJ k a _ Bf h'.1).2;exact ⟨⟨by rw [Va];exact S3,by omega⟩,out e' r' n' h'.1 h'.2⟩
def Pn(P:Program)(w:World)(to ti:DE):DE:=λρ M q x=>to ρ M (λd M1=>ti ρ M1 (λdi M2=>∃k ks is ep key j,d= .loc k/\M2[k]? =some (.raw (Ob P w ks is ep))/\zR di=some key/\eh ks (is.map Dt.int) key=some (.int j)/\q (.int j) M2) x) x
theorem LH(ho:JE X R o to)(hi:JE X R i ti)(hs:BE i:=by intro _ _;rfl):JE X R (.Subscript o i pos) (Pn X.prog X.w to ti):=
 .of (Jd ho hi hs) λσ H G L ρ M q x rl n h hx=>by refine ⟨G,L,ρ,M,_,x,rl,n,h,hx,λv H1 ⟨d1,G1,L1,M1,e1,r1,n1,h1⟩=> ?_⟩;refine ⟨G1,L1,ρ,M1,_,x,r1,n.mono e1,h1,hx.on e1,λv2 H2 ⟨d2,G2,L2,M2,e2,r2,n2,k,ks,is,ep,key,j,ed,hm,hk,hg,h2⟩=> ?_⟩;subst ed;obtain ⟨a,rfl,IQ⟩:=n1;have PV:=e2.l.get IQ;have hH:H2 a=some (Ob X.prog X.w ks is ep a):=(r2.gJ k a _ PV hm).2;obtain rfl:v2=kV key:=kX hk n2;obtain ⟨v,hv,dv⟩:=oU (K:=X.K) (G:=G2) (L:=L2) (qO is) hg;exact ⟨a,_,ep,key,v,rfl,hH,rfl,hv,_,G2,L2,M2,e1.trans e2,r2,dv,h2⟩
end
section
variable{k1 v1 k2 v2:Expr}{s1 t1 s2 t2:DE}
structure Hb(K:fI)(G0:Hp)(L0:List Addr)(H0:Hp)(p:Addr)(G:Hp)(L:List Addr)(M:Ms)(H:Hp):Prop where
 ex:Ex G0 L0 (upd H0 p (.dK [])) G L H
 rl:Rl K G L M H
 at_:H p=some (.dK [])
 g:G p=none
 l:p∉L
theorem Hb.on{K:fI}{G0:Hp}{L0:List Addr}{H0:Hp}{H:Hp}(a:Hb K G0 L0 H0 p G L M H){G':Hp}{L':List Addr}{M':Ms}{H':Hp}(e:Ex G L H G' L' H')(r:Rl K G' L' M' H'):Hb K G0 L0 H0 p G' L' M' H':=
 ⟨a.ex.trans e,r,e.out _ _ a.at_ a.l,e.fr _ a.g (by rw [a.at_];simp),λz=>(e.new _ z).elim a.l λq=>by rw [a.at_] at q;cases q⟩
theorem RU{K:fI}{H:Hp}(rl:Rl K G L M H)(hp:H p=none):Ex G L H G L (upd H p (.dK []))/\Hb K G L H p G L M (upd H p (.dK [])):=by
 have gn:G p=none:=rl.sub.free hp;have ln:p∉L:=rl.PJ hp;have e0:Ex G L H G L (upd H p (.dK [])):=⟨.refl _, .refl _,λ_ h _=>h,λb u h1 _=>by rw [Ξ (λz=>by rw [z,hp] at h1;cases h1)];exact h1,λ_ h=> .inl h,λb h=>by rw [Ξ (λz=>h (by rw [z];exact hp))];exact h⟩
 have r0:Rl K G L M (upd H p (.dK [])):=⟨λb u e=>by rw [Ξ (λz=>by rw [z,gn] at e;cases e)];exact rl.sub b u e,rl.len,rl.nd,λi a m h1 h2=>by
  obtain ⟨q1,q2⟩:=rl.gJ i a m h1 h2
  exact ⟨q1,q2.mono (.refl _) (.refl _) (Ξ λz=>q2.there (by rw [z];exact hp))⟩⟩
 exact ⟨e0, .refl _ _ _,r0,au,gn,ln⟩
theorem Hb.fin{K:fI}{G0:Hp}{L0:List Addr}{H0:Hp}{H:Hp}{q:DQ}(a:Hb K G0 L0 H0 p G L M H)(e0:Ex G0 L0 H0 G0 L0 (upd H0 p (.dK [])))(hp:H0 p=none)(hk:ks.length=ds.length)(n:Ψ K G L ds vs)(k:q (.loc M.length) (M++[.eO ks ds])):Fin K G0 L0 H0 q (.ref p) (upd H p (.dK (ks.zip vs))):=by
 have e:=e0.trans a.ex;have gne:∀{b:Addr} {w:HO},G b=some w->b≠p:=λe z=>by rw [z,a.g] at e;cases e
 refine Ly (G:=G) (L:=L) (M:=M) (ks:=ks) (ds:=ds) (vs:=vs) ⟨e.g,e.l,e.fr,λb w h1 h2=> ?_,e.new,λb h=> ?_⟩ ⟨λb w e=> ?_,a.rl.len,a.rl.nd,λi c m h1 h2=> ?_⟩ hp a.g a.l au hk n k
 ·rw [Ξ (λz=>by rw [z,hp] at h1;cases h1)];exact e.out b w h1 h2
 ·by_cases hb:b=p
  ·rw [hb,au];simp
  ·rw [Ξ hb];exact e.EG b h
 ·rw [Ξ (gne e)];exact a.rl.sub b w e
 ·obtain ⟨q1,q2⟩:=a.rl.gJ i c m h1 h2;exact ⟨q1,q2.mono (.refl _) (.refl _) (Ξ λz=>a.l (by rw [<-z];exact aam h1))⟩
def BA(s1 t1:DE):DE:=λρ M q x=>s1 ρ M (λc1 M1=>t1 ρ M1 (λd1 M2=>∃y1,zR c1=some y1/\q (.loc M2.length) (M2++[.eO [y1] [d1]])) x) x
theorem yU(IQ:JE X R k1 s1)(hv1:JE X R v1 t1):JE X R (.Dict [some k1] [v1] pos) (BA s1 t1):=
 .of (LD (HV IQ hv1 Nv) rfl rfl (by simp) (by show 1<=15;decide)) λσ H G L ρ M q x rl n h hx=>by intro p hp;obtain ⟨e0,a0⟩:=RU rl hp;refine ⟨G,L,ρ,M,_,x,a0.rl,n,h,hx.on e0,λu1 H1 ⟨d1,G1,L1,M1,e1,r1,n1,h1⟩=> ?_⟩;have a1:=a0.on e1 r1;refine ⟨G1,L1,ρ,M1,_,x,r1,n.mono (e0.trans e1),h1,hx.on (e0.trans e1),λu2 H2 ⟨d2,G2,L2,M2,e2,r2,n2,y1,hy,h2⟩=> ?_⟩;have a2:=a1.on e2 r2;obtain rfl:u1=kV y1:=kX hy n1;refine ⟨a2.at_,[(y1,u2)],rfl,by show 1<=15;decide, ?_⟩;rw [vy _ [] (λ_ _=>rfl) (by simp),List.nil_append];exact a2.fin (ks:=[y1]) (ds:=[d2]) (vs:=[u2]) e0 hp rfl ⟨_,_,rfl,n2,rfl⟩ h2
end
def JB:List Dt->Ms->DQ->Prop
 | [d],M,q=>∃k ks ds,d= .loc k/\M[k]? =some (.eO ks ds)/\q (.int ks.length) M
 | _,_,_=>False
theorem Uw{K:fI}:EB K (λxs H Q=>∃a Ρ,xs=[V.ref a]/\H a=some (.dK Ρ)/\Q (.int Ρ.length) H) JB:=by
 intro G0 L0 H0 G L M H vs ds q e r n h;unfold JB at h;split at h
 ·obtain ⟨k,ks,ds,rfl,hm,h⟩:=h;obtain ⟨v,rfl,n1⟩:=bu n;obtain ⟨a,rfl,hk⟩:=n1;obtain ⟨_,vs,hH,hl,dn⟩:=r.gJ k a _ hk hm;refine ⟨a,_,rfl,hH, .int ks.length,G,L,M,e,r, ?_,h⟩;show V.int _=V.int _;rw [abw,<-dn.length,<-hl,Nat.min_self]
 ·exact h.elim
section
variable{p:Pos}
theorem HD(hm:X.mg "len"=none)(ha:JA X R [e] t)(hg:Gl X "len":=by rfl)(he:starEach [e] X.env=(false,eval e X.env)::starEach [] X.env:=by rfl)(gy:(backTo pos (starEach [] X.env)).any (·.1)=false:=by rfl):JE X R (.Call (.Name "len" p) [e] [] pos) (BS JB t):=
 iu GL Uw hm PySem.boot_len ha hg (by decide) (by decide) he gy
end
structure FL(K:fI)(x:Str)(st:Stmt)(T:Addr)(its:Array Value)(f:Addr)(fd:FuncData):Prop where
 ex:∃(oc:Value) (od:Option Addr) (kV doc pm:Value) (an:Option Addr) (aY ct:Value) (A4:Array (Option Value)),
  fd=PySem.W.fnOf x x (gs st) (d9 st) (ψ st) (.ref T) kV doc pm an aY ct/\K.lookup f=some ⟨oc,od, .func fd,A4⟩/\PySem.W.codeIn K aY x=true
 tup:∃o n,K.lookup T=some o/\o.data= .seq its n
 kp:PySem.W.keepIn K (.ref f)=true
section
variable{K:fI}{mg:Str->Option Value}{base:Heap}
theorem FL.dQ{U:Addr}{N:List Str}{k:Nat}{T:DF}(F:FL K x st U its f fd)(S:Ζ N ps (ψ st))(len:∀ds M q x,T ds M q x->ds.length=ps.length)
  (qU:∀(aY:Value) (A:Around) (outer:List Env) (s:Shared) (H:Hp) (E:XK),bR k (A.deeper (envOfC x (ψ st) s.heap.objs.size f aY))->
   ∃t,Bk (uG (b9 P w) P w K mg base N x (ψ st) f aY A outer s H E) (λ_=>E) (d9 st) t/\∀ds M q x,T ds M q x->t {nx:=λ_ M'=>q .aU M',rt:=q,x:=λ_=>x} (j9 N ds) M):
  aj P w K mg base (b9 P w) (k+1) f fd ps (cJ K T):=by
 obtain ⟨oc,od,kV,doc,pm,an,aY,ct,A4,rfl,lk,EJ⟩:=F.ex;refine N8 lk EJ S (λvs H Q E h=> ?_) λA outer s H vs Q E hr h=> ?_
 ·obtain ⟨G,L,ds,M,q,x,rl,n,hT,_⟩:=h;rw [<-n.length];exact len _ _ _ _ hT
 ·obtain ⟨t,j,ht⟩:=qU aY A outer s H E hr;obtain ⟨G,L,ds,M,q,x,rl,n,hT,hQ,hE⟩:=h;refine ⟨_,j,G,L,j9 N ds,M,_,rl,AR n,ht ds M q x hT,λσ ρ C fs M' G' L' H' od hx e r _ y=>hE C fs M' G' L' H' od hx e r y,⟨λσ' H' ⟨ρ',G',L',M',e,r,_,h⟩=>hQ _ _ ⟨.aU,G',L',M',e,r,rfl,h⟩,λv H' f=>hQ v H' f,λ_ _ ⟨_,_,_,_,_,_,_,h⟩=>h.elim,λ_ _ ⟨_,_,_,_,_,_,_,h⟩=>h.elim⟩⟩
theorem FL.binds{U:Addr}{ds:List Value}(F:FL K x st U its f fd)
  (h:∀(kV doc pm:Value) (an:Option Addr) (aY ct:Value) (us:List Value),(us++ds).length=ps.length->∃k,bindArgs (PySem.W.fnOf x x (gs st) (d9 st) (ψ st) (.ref U) kV doc pm an aY ct) ⟨us,[]⟩=(seqItems? (.ref U) >>= k)/\k (some its)=pure (ps.zip (us++ds))):iw K fd ps ds:=by
 obtain ⟨oc,od,kV,doc,pm,an,aY,ct,A4,rfl,lk,EJ⟩:=F.ex;obtain ⟨o,n,l,e⟩:=F.tup;intro s us hK hl;obtain ⟨k,h1,h2⟩:=h kV doc pm an aY ct us hl;exact BindsTo.of_defaults rfl (hK _ _ l) e h1 h2
structure y9(P:Program)(w:World)(K:fI)(mg:Str->Option Value)(base:Heap)(k:Nat)(x:Str)(ps:List Str)(T:DF)(QW:List Dt)(f:Addr)(fd:FuncData):Prop where
 ok:aj P w K mg base (b9 P w) k f fd ps (cJ K T)
 b:∃(oa:List V) (ds:List Value),iw K fd ps ds/\aB oa ds/\∀G L,Ψ K G L QW oa
 m:mg x=some (.ref f)
 kp:PySem.W.keepIn K (.ref f)=true
end
theorem zK{K:fI}{G:Hp}{L:List Addr}:∀{ds es:List Dt} {vs us:List V},Ψ K G L ds vs->Ψ K G L es us->Ψ K G L (ds++es) (vs++us)
 | [],_,vs,us,h,k=>by obtain rfl:vs=[]:=h;exact k
 | _::_,_,_,_,⟨v,r,e,a,b⟩,h=>by subst e;exact ⟨v,_,rfl,a,zK b h⟩
def O4(T:DF)(QW:List Dt)(t:DA):DE:=λρ M q x=>t ρ M (λds M1=>T (ds++QW) M1 q (λC fs M'=>x ρ C fs M')) x
section
variable{T:DF}{k:Nat}{QW:List Dt}{p:Pos}{es:List Expr}
theorem Ei(C:y9 X.prog X.w X.K X.mg X.base k x ps T QW f fd)(hr:bR k' X.A)(hx:dI (b9 X.prog X.w) X R)(ha:JA X R (e::es) t)(hk:k<=k':=by decide)(hg:Gl X x:=by rfl)(uH:(x==("__debug__":Str))=false:=by decide)
  (he:starEach (e::es) X.env=(false,eval e X.env)::starEach es X.env:=by rfl) (gy:(backTo pos (starEach es X.env)).any (·.1)=false:=by rfl):JE X R (.Call (.Name x p) (e::es) [] pos) (O4 T QW t):=by
 obtain ⟨oa,ds,hb,hv,hd⟩:=C.b;refine .of (zo C.ok (hr.mono hk) hg C.m C.kp hb hv hx ha uH he gy) λσ H G L ρ M q x rl n h hx=> ?_;refine ⟨G,L,ρ,M,_,x,rl,n,h,hx,λvs H1 ⟨ds,G1,L1,M1,e1,r1,n1,h1⟩=> ?_⟩;exact ⟨G1,L1,ds++QW,M1,q,_,r1,zK n1 (hd G1 L1),h1,λv H' f=>Fin.back e1 f,λC fs M' G' L' H' od hq e' r' y=>hx σ ρ C fs M' G' L' H' od hq (e1.trans e') r' (n.mono (e1.trans e')) y⟩
end
end L2
namespace Fr0
variable{b t:Int}
def g(a b:Int):Int:=(Int.gcd a b:Nat)
theorem AS{a:Int}(h:b≠0):0 < g a b:=by have:=Int.gcd_pos_of_ne_zero_right a h;unfold g;omega
theorem HU{a:Int}(h:0<=a):g a 0=a:=by unfold g;rw [Int.gcd_zero_right];omega
theorem Hv{a:Int}(hb:0 < b):g b (a.fmod b)=g a b:=by
 unfold g;rw [abO a (aaj hb),Int.gcd_comm a b]
 congr 1
 refine Int.gcd_right_eq_iff.mpr λc hc=> ?_;rw [Int.emod_def];constructor
 ·intro h;have:=Int.dvd_add h (Int.dvd_mul_of_dvd_left (c:=a / b) hc);rwa [Int.sub_add_cancel] at this
 ·intro h;exact Int.dvd_sub h (Int.dvd_mul_of_dvd_left (c:=a / b) hc)
theorem Oy(a b:Int):g (if a < 0 then -a else a) (if b < 0 then -b else b)=g a b:=by unfold g;split <;> split <;> simp
def dv(t b:Int):Int:=if b < 0 then -(g t b) else g t b
def ay(t b:Int):Int×Int:=(t.fdiv (dv t b),b.fdiv (dv t b))
theorem Ef(h:b≠0):dv t b≠0:=by have:=AS (a:=t) h;unfold dv;split <;> omega
theorem zZ{k p:Int}(h:k≠0):(k * p).fdiv k=p:=by rw [aa6];exact Int.mul_fdiv_cancel p h
theorem KO(h:b≠0):∃p q:Int,t=dv t b * p/\b=dv t b * q/\0 < q/\Int.gcd p q=1:=by
 have hg:=AS (a:=t) h;have h0:0 < Int.gcd t b:=Int.gcd_pos_of_ne_zero_right t h;obtain ⟨p,hp⟩:=Int.gcd_dvd_left t b;obtain ⟨q,hq⟩:=Int.gcd_dvd_right t b;have hc:Int.gcd p q=1:=by
  have e:=Int.gcd_ediv_gcd_ediv_gcd h0;have n0:(Int.gcd t b:Int)≠0:=by omega
  have e1:t / (Int.gcd t b:Int)=p:=by
   conv=>lhs;arg 1;rw [hp]
   exact abt p n0
  have e2:b / (Int.gcd t b:Int)=q:=by
   conv=>lhs;arg 1;rw [hq]
   exact abt q n0
  rwa [e1,e2] at e
 have zD:t=g t b * p:=hp;have yw:b=g t b * q:=hq;by_cases hb:b < 0
 ·have hd:dv t b= -(g t b):=by unfold dv;rw [if_pos hb]
  refine ⟨-p, -q, ?_, ?_, ?_, ?_⟩
  ·rw [hd,Int.neg_mul_neg];exact zD
  ·rw [hd,Int.neg_mul_neg];exact yw
  ·have:g t b * q < 0:=by rw [<-yw];exact hb
   by_cases q0:0<=q
   ·exact aaK (abh (aaj hg) q0) (by omega)
   ·omega
  ·simpa using hc
 ·have hd:dv t b=g t b:=by unfold dv;rw [if_neg hb]
  refine ⟨p,q,by rw [hd];exact zD,by rw [hd];exact yw, ?_,hc⟩;have:0 < g t b * q:=by rw [<-yw];omega
  exact Int.pos_of_mul_pos_right this hg
theorem gD  (h : b ≠ 0) : ∃ p q : Int, ay t b = (p, q) /\ 0 < q /\ Int.gcd p q = 1 /\ t = dv t b * p /\ b = dv t b * q := by
  obtain ⟨p, q, hp, hq, h0, hc⟩ := KO (t := t) h;have n0 := Ef (t := t) h;refine ⟨p, q, ?_, h0, hc, hp, hq⟩;unfold ay
  have e1 : t.fdiv (dv t b) = p := by conv => lhs; arg 1; rw [hp]
                                      exact zZ n0
  have e2 : b.fdiv (dv t b) = q := by conv => lhs; arg 1; rw [hq]
                                      exact zZ n0
  rw [e1, e2]
theorem cG(h:b≠0):t * (ay t b).2=b * (ay t b).1:=by
 obtain ⟨p,q,e,_,_,hp,hq⟩:=gD (t:=t) h;rw [e];show t * q=b * p
 calc t * q=dv t b * p * q:=by rw [<-hp]
  _=dv t b * q * p:=by rw [acq,aa6 p q,<-acq]
  _=b * p:=by rw [<-hq]
theorem cL(h:b≠0):0 < (ay t b).2:=by obtain ⟨p,q,e,h0,_⟩:=gD (t:=t) h;rw [e];exact h0
theorem zv(h:b≠0):Int.gcd (ay t b).1 (ay t b).2=1:=by obtain ⟨p,q,e,_,hc,_⟩:=gD (t:=t) h;rw [e];exact hc
theorem p9{k m n:Int}(h:k∣m * n)(hc:Int.gcd k m=1):k∣n:=by have:=(Int.dvd_gcd_mul_iff_dvd_mul (k:=k) (n:=m) (m:=n)).mpr h;rw [hc] at this;simpa using this
theorem CK{p q p' q':Int}(hq:0 < q)(yw:0 < q')(h:Int.gcd p q=1)(h':Int.gcd p' q'=1)(e:p * q'=p' * q):p=p'/\q=q':=by
 have d1:q∣q':=by have:q∣p * q':=⟨p',by rw [e,aa6]⟩;exact p9 this (by rw [Int.gcd_comm];exact h)
 have d2:q'∣q:=by have:q'∣p' * q:=⟨p,by rw [<-e,aa6]⟩;exact p9 this (by rw [Int.gcd_comm];exact h')
 have eq:q=q':=Int.le_antisymm (ab1 yw d1) (ab1 hq d2);subst eq;exact ⟨Int.eq_of_mul_eq_mul_right (by omega) e,rfl⟩
theorem wG{p q:Int}(h:b≠0)(hq:0 < q)(hc:Int.gcd p q=1)(e:t * q=b * p):ay t b=(p,q):=by
 have h1:=cG (t:=t) h;have h2:=cL (t:=t) h;have h3:=zv (t:=t) h;have h4:(ay t b).1 * q=p * (ay t b).2:=by
  have:b * ((ay t b).1 * q)=b * (p * (ay t b).2):=by rw [<-acq,<-h1,Int.mul_right_comm,e,acq]
  exact aaV h this
 have:=CK h2 hq h3 hc h4;exact Prod.ext this.1 this.2
theorem vC{p q:Int}(hq:0 < q)(hc:Int.gcd p q=1):ay p q=(p,q):=wG (by omega) hq hc (aa6 _ _)
theorem xE(h:b≠0):(dv t b).natAbs<=b.natAbs:=by
 have e:(dv t b).natAbs=Int.gcd t b:=by unfold dv g;split <;> omega
 rw [e];exact Int.gcd_le_natAbs_right t h
theorem tj  (h : b ≠ 0) : (ay t b).1.natAbs <= t.natAbs := by
  obtain ⟨p, q, e, _, _, hp, _⟩ := gD (t := t) h;have n0 := Ef (t := t) h;rw [e];show p.natAbs <= t.natAbs
  have : t.natAbs = (dv t b).natAbs * p.natAbs := by conv => lhs; rw [hp]
                                                     exact abd _ _
  rw [this];exact Nat.le_mul_of_pos_left _ (by omega)
theorem kJ  (h : b ≠ 0) : (ay t b).2.natAbs <= b.natAbs := by
  obtain ⟨p, q, e, _, _, _, hq⟩ := gD (t := t) h;have n0 := Ef (t := t) h;rw [e];show q.natAbs <= b.natAbs
  have : b.natAbs = (dv t b).natAbs * q.natAbs := by conv => lhs; rw [hq]
                                                     exact abd _ _
  rw [this];exact Nat.le_mul_of_pos_left _ (by omega)
theorem Lr(h:0 < b):ay t b=(t.fdiv (g t b),b.fdiv (g t b)):=by unfold ay dv;rw [aav (by omega)]
end Fr0
namespace Tx
open PySem PySem.NumText
end Tx
namespace Bz
variable{f:Nat->Int}{n i a m:Nat}{ν ρ:List Nat}{d B:Int}
abbrev Row:=Nat->Int
variable{γ:List Row}{A W:Nat->Row}{w:Row}
abbrev Fn:=List Nat->Int
def Lx(x:Row):Fn->Fn
 | _,[]=>0
 | F,c::cs=>x c * F cs - Lx x (λt=>F (c::t)) cs
theorem Cg(x:Row):∀(cs:List Nat) (F G:Fn),Lx x (λt=>F t+G t) cs=Lx x F cs+Lx x G cs
 | [],F,G=>by simp [Lx]
 | c::cs,F,G=>by have:=Cg x cs (λt=>F (c::t)) (λt=>G (c::t));simp only [Lx];rw [this];grind
theorem l7(x:Row)(k:Int):∀(cs:List Nat) (F:Fn),Lx x (λt=>k * F t) cs=k * Lx x F cs
 | [],F=>by simp [Lx]
 | c::cs,F=>by have:=l7 x k cs (λt=>F (c::t));simp only [Lx];rw [this];grind
theorem HL(x:Row)(cs:List Nat)(F G:Fn):Lx x (λt=>F t - G t) cs=Lx x F cs - Lx x G cs:=by
 have h1:=Cg x cs F (λt=>(-1) * G t);have h2:=l7 x (-1) cs G;have e:(λt=>F t - G t)=λt=>F t+(-1) * G t:=by funext t;grind
 rw [e,h1,h2];grind
theorem EE(x:Row):∀(cs:List Nat),Lx x (λ_=>0) cs=0
 | []=>rfl
 | c::cs=>by simp only [Lx];rw [EE x cs];simp
theorem xU(x y:Row):∀(cs:List Nat) (F:Fn),Lx x (Lx y F) cs= - Lx y (Lx x F) cs
 | [],F=>rfl
 | c::cs,F=>by have ih:=xU x y cs (λt=>F (c::t));have e1:(λt=>Lx y F (c::t))=λt=>y c * F t - Lx y (λu=>F (c::u)) t:=rfl;have e2:(λt=>Lx x F (c::t))=λt=>x c * F t - Lx x (λu=>F (c::u)) t:=rfl;show x c * Lx y F cs - Lx x (λt=>Lx y F (c::t)) cs= -(y c * Lx x F cs - Lx y (λt=>Lx x F (c::t)) cs);rw [e1,e2,HL,HL,l7,l7,ih];grind
theorem Mu(x:Row)(cs:List Nat)(F:Fn):Lx x (Lx x F) cs=0:=by have:=xU x x cs F;omega
theorem xu(x:Row)(d:Nat):∀(cs:List Nat) (F:Fn),Lx x F (cs++[d])=Lx x (λt=>F (t++[d])) cs+(-1) ^ cs.length * (x d * F cs)
 | [],F=>by simp [Lx]
 | c::cs,F=>by have:=xu x d cs (λt=>F (c::t));show x c * F (cs++[d]) - Lx x (λt=>F (c::t)) (cs++[d])=_;rw [this];show _=(x c * F (cs++[d]) - Lx x (λt=>F (c::(t++[d]))) cs)+(-1) ^ (cs.length+1) * (x d * F (c::cs));have e:(λt=>F (c::(t++[d])))=λt=>(λu=>F (c::u)) (t++[d]):=rfl;rw [e,abR];grind
theorem yD(x:Row){F G:Fn}{n:Nat}:∀(cs:List Nat),(∀t,t.length+1=cs.length->F t=G t)->Lx x F cs=Lx x G cs:=by
 intro cs
 induction cs generalizing F G with
 | nil=>intro _;rfl
 | cons c cs ih=>
  intro h;simp only [Lx];rw [h cs (by simp),ih (F:=λt=>F (c::t)) (G:=λt=>G (c::t)) λt ht=>h (c::t) (by simp;omega)]
def Δ(f:Nat->Int):Nat->Int
 | 0=>0
 | n+1=>Δ f n+f n
theorem gU(f g:Nat->Int):∀n,Δ (λi=>f i+g i) n=Δ f n+Δ g n
 | 0=>rfl
 | n+1=>by simp only [Δ];rw [gU f g n];omega
theorem Χ(k:Int)(f:Nat->Int):∀n,Δ (λi=>k * f i) n=k * Δ f n
 | 0=>by simp [Δ]
 | n+1=>by simp only [Δ];rw [Χ k f n,Int.mul_add]
theorem ω{f g:Nat->Int}:∀{n:Nat},(∀i,i < n->f i=g i)->Δ f n=Δ g n
 | 0,_=>rfl
 | n+1,h=>by simp only [Δ];rw [ω λi hi=>h i (by omega),h n (by omega)]
theorem iZ(h:∀i,i < n->f i=0):Δ f n=0:=by
 rw [ω h];clear h
 induction n with
 | zero=>rfl
 | succ n ih=>simp only [Δ];rw [ih];rfl
theorem iP{j:Nat}(hj:j < n)(h:∀i,i < n->i≠j->f i=0):Δ f n=f j:=by
 induction n with
 | zero=>omega
 | succ n ih=>
  simp only [Δ];by_cases e:j=n
  ·subst e;rw [iZ λi hi=>h i (by omega) (by omega)];omega
  ·rw [ih (by omega) λi hi lF=>h i (by omega) lF,h n (by omega) (by omega)];omega
theorem mz(f:Nat->Int):∀n,Δ f (n+1)=f 0+Δ (λi=>f (i+1)) n
 | 0=>by simp [Δ]
 | n+1=>by have:=mz f n;rw [show Δ f (n+1+1)=Δ f (n+1)+f (n+1) from rfl,this];simp only [Δ];omega
theorem dH(f:Nat->Nat->Int)(m:Nat):∀n,Δ (λi=>Δ (f i) m) n=Δ (λj=>Δ (λi=>f i j) n) m
 | 0=>by rw [show Δ (λi=>Δ (f i) m) 0=0 from rfl];exact (iZ λ_ _=>rfl).symm
 | n+1=>by rw [show Δ (λi=>Δ (f i) m) (n+1)=Δ (λi=>Δ (f i) m) n+Δ (f n) m from rfl,dH f m n,<-gU];rfl
theorem wj(x:Row):∀(cs:List Nat) (F:Fn),Lx x F cs=Δ (λp=>(-1) ^ p * (x (cs.getD p 0) * F (cs.eraseIdx p))) cs.length
 | [],F=>rfl
 | c::cs,F=>by
  have ih:=wj x cs (λt=>F (c::t));show x c * F cs - Lx x (λt=>F (c::t)) cs=_;rw [aaC,mz,ih];have e:Δ (λp=>(-1) ^ (p+1) * (x ((c::cs).getD (p+1) 0) * F ((c::cs).eraseIdx (p+1)))) cs.length= -1 * Δ (λp=>(-1) ^ p * (x (cs.getD p 0) * F (c::cs.eraseIdx p))) cs.length:=by rw [<-Χ];refine ω λp _=> ?_;simp only [List.getD_cons_succ,List.eraseIdx_cons_succ];rw [Int.pow_succ];grind
  rw [e];simp only [List.getD_cons_zero,List.eraseIdx_cons_zero,Int.pow_zero];omega
def F0:Fn:=λcs=>if cs=[] then 1 else 0
def D:List Row->Fn
 | []=>F0
 | x::xs=>Lx x (D xs)
theorem nJ(y:Row):∀(xs ys:List Row) (cs:List Nat),D (xs++y::ys) cs=(-1) ^ xs.length * D (y::(xs++ys)) cs
 | [],ys,cs=>by simp
 | x::xs,ys,cs=>by
  show Lx x (D (xs++y::ys)) cs=_;have e:D (xs++y::ys)=λt=>(-1) ^ xs.length * D (y::(xs++ys)) t:=by funext t;exact nJ y xs ys t
  rw [e,l7];show (-1) ^ xs.length * Lx x (Lx y (D (xs++ys))) cs=(-1) ^ (xs.length+1) * Lx y (Lx x (D (xs++ys))) cs;rw [xU x y,Int.pow_succ];grind
theorem RY(y:Row)(xs ys zs:List Row)(cs:List Nat):D (xs++y::(ys++y::zs)) cs=0:=by
 rw [nJ];have e:D (y::(xs++(ys++y::zs))) cs=Lx y (λt=>D (xs++(ys++y::zs)) t) cs:=rfl;have e2:(λt=>D (xs++(ys++y::zs)) t)=λt=>(-1) ^ (xs++ys).length * Lx y (D (xs++ys++zs)) t:=by
  funext t
  rw [<-aaP,nJ];rfl
 rw [e,e2,l7,Mu];simp
def fc(γ:List Row)(ν:List Nat)(p k:Nat):Int:=(-1) ^ (p+k) * D (γ.eraseIdx k) (ν.eraseIdx p)
def zr:Row:=λ_=>0
theorem QV(n:Nat):((-1:Int) ^ n) * (-1) ^ n=1:=by
 induction n with
 | zero=>rfl
 | succ n ih=>rw [Int.pow_succ];grind
theorem JD{α:Type}:∀{l:List α} {k:Nat} (h:k < l.length),l=l.take k++l[k]::l.drop (k+1):=by intro l k h;rw [List.getElem_cons_drop,List.take_append_drop]
theorem Hc{α:Type}{l:List α}{k:Nat}(hi:i < l.length)(lF:i≠k):l[i]∈l.eraseIdx k:=by rw [List.mem_eraseIdx_iff_getElem];exact ⟨i,hi,lF,rfl⟩
theorem PA{k:Nat}(hl:ν.length=γ.length)(hi:i < γ.length)(hk:k < γ.length):Δ (λp=>γ.getD i zr (ν.getD p 0) * fc γ ν p k) γ.length=if i=k then D γ ν else 0:=by
 have gi:γ.getD i zr=γ[i]:=by rw [aab,aaa hi];rfl
 have e:Δ (λp=>γ.getD i zr (ν.getD p 0) * fc γ ν p k) γ.length=(-1) ^ k * D (γ.getD i zr::γ.eraseIdx k) ν:=by show _=(-1) ^ k * Lx (γ.getD i zr) (D (γ.eraseIdx k)) ν;rw [wj,<-Χ,hl];refine ω λp _=> ?_;unfold fc;rw [Int.pow_add];grind
 rw [e,gi];by_cases h:i=k
 ·subst h;rw [aaw rfl];have s:=JD hi;have f:=nJ γ[i] (γ.take i) (γ.drop (i+1)) ν;rw [<-s,ace,acp (by omega)] at f;rw [f,List.eraseIdx_eq_take_drop_succ]
 ·rw [aav h];obtain ⟨ys,zs,e2⟩:=List.append_of_mem (Hc hi h);rw [e2];have:=RY γ[i] [] ys zs ν;rw [show D (γ[i]::(ys++γ[i]::zs)) ν=0 from this];simp
theorem yf(x:Row)(g:Nat->Int)(F:Nat->Fn)(cs:List Nat):∀n,Lx x (λt=>Δ (λk=>g k * F k t) n) cs=Δ (λk=>g k * Lx x (F k) cs) n
 | 0=>EE x cs
 | n+1=>by have:=Cg x cs (λt=>Δ (λk=>g k * F k t) n) (λt=>g n * F n t);show Lx x (λt=>Δ (λk=>g k * F k t) n+g n * F n t) cs=_;rw [this,yf x g F cs n,l7];rfl
theorem N7(c:Nat):∀(γ:List Row) (t:List Nat),D γ (t++[c])=Δ (λk=>(-1) ^ (t.length+k) * (γ.getD k zr c * D (γ.eraseIdx k) t)) γ.length
 | [],t=>by show F0 (t++[c])=0;unfold F0;simp
 | x::xs,t=>by
  show Lx x (D xs) (t++[c])=_;rw [xu,aaC,mz];have e:Lx x (λu=>D xs (u++[c])) t=Δ (λk=>(-1) ^ (t.length+(k+1)) * ((x::xs).getD (k+1) zr c * D ((x::xs).eraseIdx (k+1)) t)) xs.length:=by
   have e1:Lx x (λu=>D xs (u++[c])) t=Lx x (λu=>Δ (λk=>((-1) ^ (t.length+(k+1)) * xs.getD k zr c) * D (xs.eraseIdx k) u) xs.length) t:=by refine yD x (n:=0) t λu hu=> ?_;rw [N7 c xs u];refine ω λk _=> ?_;rw [<-hu,show u.length+1+(k+1)=u.length+k+1+1 by omega,Int.pow_succ,Int.pow_succ];grind
   rw [e1,yf x (λk=>(-1) ^ (t.length+(k+1)) * xs.getD k zr c) (λk=>D (xs.eraseIdx k))];refine ω λk _=> ?_;simp only [List.getD_cons_succ,List.eraseIdx_cons_succ];show _=(-1) ^ (t.length+(k+1)) * (xs.getD k zr c * Lx x (D (xs.eraseIdx k)) t);grind
  rw [e];simp only [List.getD_cons_zero,List.eraseIdx_cons_zero,Nat.add_zero];omega
theorem Kh{y:Row}{c:Nat}(hl:ν.length=γ.length):D (γ++[y]) (ν++[c])=y c * D γ ν - Δ (λp=>y (ν.getD p 0) * Δ (λk=>fc γ ν p k * γ.getD k zr c) γ.length) γ.length:=by
 rw [nJ,aa8];show (-1) ^ γ.length * Lx y (D γ) (ν++[c])=_;rw [xu];have e1:Lx y (λt=>D γ (t++[c])) ν= - ((-1) ^ γ.length * Δ (λp=>y (ν.getD p 0) * Δ (λk=>fc γ ν p k * γ.getD k zr c) γ.length) γ.length):=by
  have e2:Lx y (λt=>D γ (t++[c])) ν=Lx y (λt=>Δ (λk=>(-((-1) ^ (γ.length+k) * γ.getD k zr c)) * D (γ.eraseIdx k) t) γ.length) ν:=by refine yD y (n:=0) ν λt ht=> ?_;rw [N7 c γ t];refine ω λk _=> ?_;rw [<-hl,<-ht,show t.length+1+k=t.length+k+1 by omega,Int.pow_succ];grind
  rw [e2,yf y (λk=> -((-1) ^ (γ.length+k) * γ.getD k zr c)) (λk=>D (γ.eraseIdx k))];have e3:Δ (λk=> -((-1) ^ (γ.length+k) * γ.getD k zr c) * Lx y (D (γ.eraseIdx k)) ν) γ.length=Δ (λk=>Δ (λp=> -((-1) ^ γ.length) * (y (ν.getD p 0) * (fc γ ν p k * γ.getD k zr c))) γ.length) γ.length:=by refine ω λk _=> ?_;rw [wj,<-Χ,hl];refine ω λp _=> ?_;unfold fc;rw [Int.pow_add,Int.pow_add];grind
  rw [e3,dH];have e4:Δ (λp=>Δ (λk=> -((-1) ^ γ.length) * (y (ν.getD p 0) * (fc γ ν p k * γ.getD k zr c))) γ.length) γ.length=Δ (λp=> -((-1) ^ γ.length) * (y (ν.getD p 0) * Δ (λk=>fc γ ν p k * γ.getD k zr c) γ.length)) γ.length:=by refine ω λp _=> ?_;rw [Χ,Χ]
  rw [e4,Χ];grind
 rw [e1,hl];have s:=QV γ.length;generalize ((-1:Int) ^ γ.length)=z at *
 generalize Δ _ γ.length=q;grind
theorem K1{v:Nat->Int}{e:Int}{k:Nat}(hl:ν.length=γ.length)(hi:i < γ.length)(hk:k < γ.length)
  (h:∀p,p < γ.length->Δ (λj=>v j * γ.getD j zr (ν.getD p 0)) γ.length=if i=p then e else 0):v k * D γ ν=e * fc γ ν i k:=by
 have a:Δ (λp=>Δ (λj=>v j * γ.getD j zr (ν.getD p 0)) γ.length * fc γ ν p k) γ.length=e * fc γ ν i k:=by rw [iP hi λp hp lF=>by rw [h p hp,if_neg (Ne.symm lF)];simp];rw [h i hi,aaw rfl]
 have b:Δ (λp=>Δ (λj=>v j * γ.getD j zr (ν.getD p 0)) γ.length * fc γ ν p k) γ.length=Δ (λj=>v j * Δ (λp=>γ.getD j zr (ν.getD p 0) * fc γ ν p k) γ.length) γ.length:=by
  have e1:Δ (λp=>Δ (λj=>v j * γ.getD j zr (ν.getD p 0)) γ.length * fc γ ν p k) γ.length=Δ (λp=>Δ (λj=>v j * (γ.getD j zr (ν.getD p 0) * fc γ ν p k)) γ.length) γ.length:=by refine ω λp _=> ?_;rw [aa6,<-Χ];refine ω λj _=> ?_;grind
  rw [e1,dH];refine ω λj _=> ?_;rw [<-Χ]
 rw [<-a,b,iP hk λj hj lF=>by rw [PA hl hj hk,if_neg lF];simp];rw [PA hl hk hk,aaw rfl]
def ind(a k:Nat):Int:=if a=k then 1 else 0
def rv(A:Nat->Row)(n:Nat)(w:Row)(x:Nat):Int:=Δ (λk=>w k * A k x) n
theorem nG(h:a < n):Δ (λk=>ind a k * f k) n=f a:=by rw [iP h λi _ lF=>by unfold ind;rw [if_neg (Ne.symm lF)];simp];unfold ind;rw [if_pos rfl];simp
theorem yo{u v:Row}{a b:Int}(h:∀k,w k=a * u k - b * v k)(x:Nat):rv A n w x=a * rv A n u x - b * rv A n v x:=by
 unfold rv;have e:Δ (λk=>w k * A k x) n=Δ (λk=>a * (u k * A k x)+(-b) * (v k * A k x)) n:=ω λk _=>by rw [h k];grind
 rw [e,gU,Χ,Χ];grind
theorem IH{r:Nat}{g:Nat->Int}{u:Nat->Row}(h:∀k,w k=Δ (λj=>g j * u j k) r)(x:Nat):rv A n w x=Δ (λj=>g j * rv A n (u j) x) r:=by
 unfold rv;have e:Δ (λk=>w k * A k x) n=Δ (λk=>Δ (λj=>g j * (u j k * A k x)) r) n:=ω λk _=>by rw [h k,aa6,<-Χ];exact ω λj _=>by grind
 rw [e,dH];exact ω λj _=>Χ _ _ _
theorem BL(h:a < n)(x:Nat):rv A n (ind a) x=A a x:=by unfold rv;exact nG (f:=λk=>A k x) h
structure St(A:Nat->Row)(n:Nat)(ρ ν:List Nat)(q:Nat->Nat)(d:Int)(W:Nat->Row):Prop where
 lc:ν.length=ρ.length
 rn:ρ.length<=n
 MK:∀i,i < n->q i < n
 AB:∀j,j < ρ.length->ρ.getD j 0 < n
 det:D (ρ.map A) ν=d
 wp:∀i,i < ρ.length->∀k,W i k=Δ (λj=>fc (ρ.map A) ν i j * ind (ρ.getD j 0) k) ρ.length
 wn:∀i,ρ.length<=i->i < n->∀k,W i k=d * ind (q i) k - Δ (λp=>A (q i) (ν.getD p 0) * W p k) ρ.length
 one:∀i p,i < ρ.length->p < ρ.length->rv A n (W i) (ν.getD p 0)=if i=p then d else 0
section
variable{q:Nat->Nat}
theorem t_{j:Nat}(h:j < ρ.length):(ρ.map A).getD j zr=A (ρ.getD j 0):=by rw [aab,aao,aaa h,aab,aaa h];rfl
theorem St.Rp(s:St A n ρ ν q d W)(hi:i < ρ.length)(x:Nat):rv A n (W i) x=Δ (λj=>fc (ρ.map A) ν i j * A (ρ.getD j 0) x) ρ.length:=by rw [IH (u:=λj=>ind (ρ.getD j 0)) (s.wp i hi)];exact ω λj hj=>by rw [BL (s.AB j hj)]
theorem St.OR(s:St A n ρ ν q d W)(h1:ρ.length<=i)(hi:i < n)(x:Nat):rv A n (W i) x=d * A (q i) x - Δ (λp=>A (q i) (ν.getD p 0) * rv A n (W p) x) ρ.length:=by
 have h:∀k,W i k=d * ind (q i) k - 1 * Δ (λp=>A (q i) (ν.getD p 0) * W p k) ρ.length:=λk=>by rw [s.wn i h1 hi k];omega
 rw [yo h x,BL (s.MK i hi),IH (w:=λk=>Δ (λp=>A (q i) (ν.getD p 0) * W p k) ρ.length) (u:=W) (λk=>rfl)];omega
theorem St.zero(s:St A n ρ ν q d W){p:Nat}(h1:ρ.length<=i)(hi:i < n)(hp:p < ρ.length):rv A n (W i) (ν.getD p 0)=0:=by
 rw [s.OR h1 hi];have e:Δ (λp'=>A (q i) (ν.getD p' 0) * rv A n (W p') (ν.getD p 0)) ρ.length=A (q i) (ν.getD p 0) * d:=by rw [iP hp λp' zD lF=>by rw [s.one p' p zD hp,if_neg lF];simp];rw [s.one p p hp hp,aaw rfl]
 rw [e];grind
theorem St.head(s:St A n ρ ν q d W)(hr:ρ.length < n)(c:Nat):D ((ρ++[q ρ.length]).map A) (ν++[c])=rv A n (W ρ.length) c:=by
 rw [aa2,s.OR (aai _) hr];show D (ρ.map A++[A (q ρ.length)]) (ν++[c])=_;rw [Kh (by rw [aad];exact s.lc),s.det,aad,aa6]
 congr 1
 refine ω λp hp=> ?_;rw [s.Rp hp]
 congr 1
 exact ω λk hk=>by rw [t_ hk]
theorem nH{j:Nat}{l:List Nat}(h:j < l.length):(l++[a]).getD j 0=l.getD j 0:=by rw [aab,aau h,<-aab]
theorem n6{l:List Nat}:(l++[a]).getD l.length 0=a:=by simp
theorem mix(f:Nat->Int)(s:St A n ρ ν q d W)(a L:Int)(g:Nat->Int):
  Δ (λj=>(if j < ρ.length then a * g j+L * Δ (λp=>A (q ρ.length) (ν.getD p 0) * fc (ρ.map A) ν p j) ρ.length else -(L * d)) * f ((ρ++[q ρ.length]).getD j 0)) (ρ.length+1)
  =a * Δ (λj=>g j * f (ρ.getD j 0)) ρ.length - L * (d * f (q ρ.length) - Δ (λp=>A (q ρ.length) (ν.getD p 0) * Δ (λj=>fc (ρ.map A) ν p j * f (ρ.getD j 0)) ρ.length) ρ.length):=by
 rw [show∀F:Nat->Int,Δ F (ρ.length+1)=Δ F ρ.length+F ρ.length from λ_=>rfl,n6,aav (abu _)]
 have e:Δ (λj=>(if j < ρ.length then a * g j+L * Δ (λp=>A (q ρ.length) (ν.getD p 0) * fc (ρ.map A) ν p j) ρ.length else -(L * d)) * f ((ρ++[q ρ.length]).getD j 0)) ρ.length
   =Δ (λj=>a * (g j * f (ρ.getD j 0))+L * Δ (λp=>A (q ρ.length) (ν.getD p 0) * (fc (ρ.map A) ν p j * f (ρ.getD j 0))) ρ.length) ρ.length:=by
  refine ω λj hj=> ?_;rw [aaw hj,nH hj];have e2:Δ (λp=>A (q ρ.length) (ν.getD p 0) * (fc (ρ.map A) ν p j * f (ρ.getD j 0))) ρ.length=f (ρ.getD j 0) * Δ (λp=>A (q ρ.length) (ν.getD p 0) * fc (ρ.map A) ν p j) ρ.length:=by rw [<-Χ];exact ω λp _=>by grind
  rw [e2];grind
 rw [e,gU,Χ,Χ,dH (λj p=>A (q ρ.length) (ν.getD p 0) * (fc (ρ.map A) ν p j * f (ρ.getD j 0)))]
 have e3:Δ (λp=>Δ (λj=>A (q ρ.length) (ν.getD p 0) * (fc (ρ.map A) ν p j * f (ρ.getD j 0))) ρ.length) ρ.length=Δ (λp=>A (q ρ.length) (ν.getD p 0) * Δ (λj=>fc (ρ.map A) ν p j * f (ρ.getD j 0)) ρ.length) ρ.length:=
  ω λp _=>Χ _ _ _
 rw [e3];grind
theorem St.step(s:St A n ρ ν q d W)(hr:ρ.length < n)(c:Nat)(d0:d≠0)(h0:rv A n (W ρ.length) c≠0):
  ∃W':Nat->Row,St A n (ρ++[q ρ.length]) (ν++[c]) q (rv A n (W ρ.length) c) W'/\(∀k,W' ρ.length k=W ρ.length k)/\
   ∀i,i < n->i≠ρ.length->∀k,d * W' i k=rv A n (W ρ.length) c * W i k - rv A n (W i) c * W ρ.length k:=by
 have hd:=s.head hr c;generalize hE:rv A n (W ρ.length) c=E at *
 have lr:((ρ++[q ρ.length]).map A).length=ρ.length+1:=by simp
 have lc':(ν++[c]).length=((ρ++[q ρ.length]).map A).length:=by rw [lr];simp [s.lc]
 have cg:∀p,p < ρ.length->(ν++[c]).getD p 0=ν.getD p 0:=λp hp=>nH (by rw [s.lc];exact hp);have cl:(ν++[c]).getD ρ.length 0=c:=by rw [<-s.lc];exact n6
 have rg:∀j,j < ρ.length+1->((ρ++[q ρ.length]).map A).getD j zr=A ((ρ++[q ρ.length]).getD j 0):=λj hj=>t_ (by simp;omega);have head:∀j,j < ρ.length+1->(if j < ρ.length then (0:Int) * 0+(-1) * Δ (λp=>A (q ρ.length) (ν.getD p 0) * fc (ρ.map A) ν p j) ρ.length else -((-1) * d))=fc ((ρ++[q ρ.length]).map A) (ν++[c]) ρ.length j:=λj hj=>by
  have:=K1 (γ:=(ρ++[q ρ.length]).map A) (ν:=ν++[c]) (v:=λj=>if j < ρ.length then (0:Int) * 0+(-1) * Δ (λp=>A (q ρ.length) (ν.getD p 0) * fc (ρ.map A) ν p j) ρ.length else -((-1) * d)) (e:=E) (i:=ρ.length) (k:=j) lc' (by rw [lr];omega) (by rw [lr];exact hj) (λp hp=>by
   rw [lr] at hp⊢;have e1:=mix (λa=>A a ((ν++[c]).getD p 0)) s 0 (-1) (λ_=>0);have e2:Δ (λj=>(if j < ρ.length then (0:Int) * 0+(-1) * Δ (λp=>A (q ρ.length) (ν.getD p 0) * fc (ρ.map A) ν p j) ρ.length else -((-1) * d)) * ((ρ++[q ρ.length]).map A).getD j zr ((ν++[c]).getD p 0)) (ρ.length+1)=_:=(ω λj hj=>by rw [rg j hj]).trans e1;rw [e2];have e3:d * A (q ρ.length) ((ν++[c]).getD p 0) - Δ (λp'=>A (q ρ.length) (ν.getD p' 0) * Δ (λj=>fc (ρ.map A) ν p' j * A (ρ.getD j 0) ((ν++[c]).getD p 0)) ρ.length) ρ.length=rv A n (W ρ.length) ((ν++[c]).getD p 0):=by
    rw [s.OR (aai _) hr]
    congr 1
    exact ω λp' zD=>by rw [s.Rp zD]
   rw [e3];by_cases Fz:p < ρ.length
   ·rw [cg p Fz,s.zero (Nat.le_refl _) hr Fz,if_neg (by omega)];simp
   ·have:p=ρ.length:=by omega
    subst this
    rw [cl,hE,aaw rfl];omega)
  rw [hd] at this;refine aaV h0 ?_;rw [<-this];grind
 have hk:∀k,W ρ.length k=Δ (λj=>fc ((ρ++[q ρ.length]).map A) (ν++[c]) ρ.length j * ind ((ρ++[q ρ.length]).getD j 0) k) (ρ.length+1):=λk=>by
  have e1:=mix (λa=>ind a k) s 0 (-1) (λ_=>0);have e2:Δ (λj=>fc ((ρ++[q ρ.length]).map A) (ν++[c]) ρ.length j * ind ((ρ++[q ρ.length]).getD j 0) k) (ρ.length+1)=_:=(ω λj hj=>by rw [<-head j hj]).trans e1;rw [e2,s.wn _ (aai _) hr k];have e3:Δ (λp=>A (q ρ.length) (ν.getD p 0) * W p k) ρ.length=Δ (λp=>A (q ρ.length) (ν.getD p 0) * Δ (λj=>fc (ρ.map A) ν p j * ind (ρ.getD j 0) k) ρ.length) ρ.length:=ω λp hp=>by rw [s.wp p hp k]
  rw [e3];omega
 have above:∀i,i < ρ.length->∀j,j < ρ.length+1->(if j < ρ.length then E * fc (ρ.map A) ν i j+rv A n (W i) c * Δ (λp=>A (q ρ.length) (ν.getD p 0) * fc (ρ.map A) ν p j) ρ.length else -(rv A n (W i) c * d))=d * fc ((ρ++[q ρ.length]).map A) (ν++[c]) i j:=λi hi j hj=>by
  have:=K1 (γ:=(ρ++[q ρ.length]).map A) (ν:=ν++[c]) (v:=λj=>if j < ρ.length then E * fc (ρ.map A) ν i j+rv A n (W i) c * Δ (λp=>A (q ρ.length) (ν.getD p 0) * fc (ρ.map A) ν p j) ρ.length else -(rv A n (W i) c * d)) (e:=d * E) (i:=i) (k:=j) lc' (by rw [lr];omega) (by rw [lr];exact hj) (λp hp=>by
   rw [lr] at hp⊢;have e1:=mix (λa=>A a ((ν++[c]).getD p 0)) s E (rv A n (W i) c) (λj=>fc (ρ.map A) ν i j);have e2:Δ (λj=>(if j < ρ.length then E * fc (ρ.map A) ν i j+rv A n (W i) c * Δ (λp=>A (q ρ.length) (ν.getD p 0) * fc (ρ.map A) ν p j) ρ.length else -(rv A n (W i) c * d)) * ((ρ++[q ρ.length]).map A).getD j zr ((ν++[c]).getD p 0)) (ρ.length+1)=_:=(ω λj hj=>by rw [rg j hj]).trans e1;rw [e2];have e3:d * A (q ρ.length) ((ν++[c]).getD p 0) - Δ (λp'=>A (q ρ.length) (ν.getD p' 0) * Δ (λj=>fc (ρ.map A) ν p' j * A (ρ.getD j 0) ((ν++[c]).getD p 0)) ρ.length) ρ.length=rv A n (W ρ.length) ((ν++[c]).getD p 0):=by
    rw [s.OR (aai _) hr]
    congr 1
    exact ω λp' zD=>by rw [s.Rp zD]
   rw [e3,<-s.Rp hi];by_cases Fz:p < ρ.length
   ·rw [cg p Fz,s.zero (aai _) hr Fz,s.one i p hi Fz];split <;> grind
   ·have:p=ρ.length:=by omega
    subst this
    rw [cl,hE,if_neg (by omega)];grind)
  rw [hd] at this;refine aaV h0 ?_;rw [Int.mul_comm,this];grind
 have Z7:∀i,i < ρ.length->∀k,d * Δ (λj=>fc ((ρ++[q ρ.length]).map A) (ν++[c]) i j * ind ((ρ++[q ρ.length]).getD j 0) k) (ρ.length+1)=E * W i k - rv A n (W i) c * W ρ.length k:=λi hi k=>by
  have e1:=mix (λa=>ind a k) s E (rv A n (W i) c) (λj=>fc (ρ.map A) ν i j);have e2:d * Δ (λj=>fc ((ρ++[q ρ.length]).map A) (ν++[c]) i j * ind ((ρ++[q ρ.length]).getD j 0) k) (ρ.length+1)=_:=((Χ _ _ _).symm.trans (ω λj hj=>by rw [above i hi j hj];grind)).trans e1;rw [e2,s.wn _ (aai _) hr k,s.wp i hi k];have e3:Δ (λp=>A (q ρ.length) (ν.getD p 0) * W p k) ρ.length=Δ (λp=>A (q ρ.length) (ν.getD p 0) * Δ (λj=>fc (ρ.map A) ν p j * ind (ρ.getD j 0) k) ρ.length) ρ.length:=ω λp hp=>by rw [s.wp p hp k]
  rw [e3]
 let V:Nat->Row:=λi k=>if i=ρ.length then W ρ.length k else Δ (λj=>fc ((ρ++[q ρ.length]).map A) (ν++[c]) i j * ind ((ρ++[q ρ.length]).getD j 0) k) (ρ.length+1)
 let W':Nat->Row:=λi k=>if i < ρ.length+1 then V i k else E * ind (q i) k - Δ (λp=>A (q i) ((ν++[c]).getD p 0) * V p k) (ρ.length+1)
 have Wr:∀k,W' ρ.length k=W ρ.length k:=λk=>by show (if ρ.length < ρ.length+1 then (if ρ.length=ρ.length then W ρ.length k else _) else _)=_;rw [aaw (abq _),aaw rfl]
 have Wi:∀i,i < ρ.length->∀k,W' i k=Δ (λj=>fc ((ρ++[q ρ.length]).map A) (ν++[c]) i j * ind ((ρ++[q ρ.length]).getD j 0) k) (ρ.length+1):=λi hi k=>by show (if i < ρ.length+1 then (if i=ρ.length then _ else _) else _)=_;rw [aaw (by omega),aav (by omega)]
 have WV:∀p,p < ρ.length+1->∀k,W' p k=V p k:=λp hp k=>by show (if p < ρ.length+1 then V p k else _)=_;rw [aaw hp]
 have Wn:∀i,ρ.length+1<=i->∀k,W' i k=E * ind (q i) k - Δ (λp=>A (q i) ((ν++[c]).getD p 0) * W' p k) (ρ.length+1):=λi hi k=>by
  show (if i < ρ.length+1 then V i k else _)=_;rw [aav (by omega)]
  congr 1
  exact ω λp hp=>by rw [WV p hp]
 have H:∀i,i < n->i≠ρ.length->∀k,d * W' i k=E * W i k - rv A n (W i) c * W ρ.length k:=λi hi lF k=>by
  by_cases ym:i < ρ.length
  ·rw [Wi i ym k];exact Z7 i ym k
  ·rw [Wn i (by omega) k,s.wn i (by omega) hi k,s.OR (by omega) hi c];rw [show∀F:Nat->Int,Δ F (ρ.length+1)=Δ F ρ.length+F ρ.length from λ_=>rfl,cl,Wr];have e1:d * Δ (λp=>A (q i) ((ν++[c]).getD p 0) * W' p k) ρ.length=Δ (λp=>E * (A (q i) (ν.getD p 0) * W p k)+(-(W ρ.length k)) * (A (q i) (ν.getD p 0) * rv A n (W p) c)) ρ.length:=by rw [<-Χ];refine ω λp hp=> ?_;have:=Z7 p hp k;rw [cg p hp,Wi p hp k];grind
   rw [gU,Χ,Χ] at e1;grind
 refine ⟨W',⟨by simp [s.lc],by simp;omega,s.MK,λj hj=> ?_,hd,λi hi k=> ?_,λi h1 hi k=> ?_,λi p hi hp=> ?_⟩,Wr,H⟩
 ·by_cases hjr:j < ρ.length
  ·rw [nH hjr];exact s.AB j hjr
  ·have:j=ρ.length:=by simp at hj;omega
   rw [this,n6];exact s.MK _ hr
 ·rw [show (ρ++[q ρ.length]).length=ρ.length+1 by simp] at hi⊢;by_cases ym:i < ρ.length
  ·exact Wi i ym k
  ·have:i=ρ.length:=by omega
   subst this;rw [Wr k];exact hk k
 ·rw [show (ρ++[q ρ.length]).length=ρ.length+1 by simp] at h1⊢;exact Wn i h1 k
 ·rw [show (ρ++[q ρ.length]).length=ρ.length+1 by simp] at hi hp;have hrr:∀x,rv A n (W' ρ.length) x=rv A n (W ρ.length) x:=λx=>by unfold rv;exact ω λk _=>by rw [Wr k]
  by_cases ym:i < ρ.length
  ·have W4:d * rv A n (W' i) ((ν++[c]).getD p 0)=E * rv A n (W i) ((ν++[c]).getD p 0) - rv A n (W i) c * rv A n (W ρ.length) ((ν++[c]).getD p 0):=by have:=yo (A:=A) (n:=n) (w:=λk=>d * W' i k) (u:=W i) (v:=W ρ.length) (a:=E) (b:=rv A n (W i) c) (λk=>H i (by omega) (by omega) k) ((ν++[c]).getD p 0);rw [<-this];unfold rv;rw [<-Χ];exact ω λk _=>by grind
   refine aaV d0 ?_;rw [W4];by_cases Fz:p < ρ.length
   ·rw [cg p Fz,s.zero (aai _) hr Fz,s.one i p ym Fz];split <;> grind
   ·have:p=ρ.length:=by omega
    subst this;rw [cl,hE,if_neg (by omega)];grind
  ·have:i=ρ.length:=by omega
   subst this;rw [hrr];by_cases Fz:p < ρ.length
   ·rw [cg p Fz,s.zero (aai _) hr Fz,aav (by omega)]
   ·have:p=ρ.length:=by omega
    subst this;rw [cl,hE,aaw rfl]
end
theorem St.start:St A n [] [] id 1 (λi=>ind i) where
 lc:=rfl
 rn:=ab5 _
 MK:=λ_ h=>h
 AB:=λ_ h=>aaK h (abE _)
 det:=rfl
 wp:=λ_ h=>aaK h (abE _)
 wn:=λi _ _ k=>by show ind i k=1 * ind i k - 0;omega
 one:=λ_ _ h=>aaK h (abE _)
theorem St.perm{q:Nat->Nat}(s:St A n ρ ν q d W){π:Nat->Nat}(h1:∀i,i < ρ.length->π i=i)(h2:∀i,ρ.length<=i->i < n->ρ.length<=π i/\π i < n):St A n ρ ν (λi=>q (π i)) d (λi=>W (π i)) where
 lc:=s.lc
 rn:=s.rn
 MK:=λi hi=>s.MK _ (by
  by_cases h:i < ρ.length
  ·rw [h1 i h];exact hi
  ·exact (h2 i (by omega) hi).2)
 AB:=s.AB
 det:=s.det
 wp:=λi hi k=>by show W (π i) k=_;rw [h1 i hi];exact s.wp i hi k
 wn:=λi hi hn k=>by
  obtain ⟨a,b⟩:=h2 i hi hn;have:=s.wn (π i) a b k;rw [this]
  congr 1
  exact ω λp hp=>by rw [h1 p hp]
 one:=λi p hi hp=>by show rv A n (W (π i)) _=_;rw [h1 i hi];exact s.one i p hi hp
def Ab(x B:Int):Prop:= -B<=x/\x<=B
theorem Ab.mul{x y C:Int}(h:Ab x B)(h':Ab y C):Ab (x * y) (B * C):=by
 obtain ⟨a,b⟩:=h;obtain ⟨c,d⟩:=h';have B0:0<=B:=by omega
 have C0:0<=C:=by omega
 have hb:x.natAbs<=B.natAbs:=by omega
 have hc:y.natAbs<=C.natAbs:=by omega
 have hm:=Nat.mul_le_mul hb hc;rw [<-abd,<-abd] at hm;have p:=abh B0 C0;exact ⟨by omega,by omega⟩
theorem Ab.add{x y C:Int}(h:Ab x B)(h':Ab y C):Ab (x+y) (B+C):=⟨by have:=h.1;have:=h'.1;omega,by have:=h.2;have:=h'.2;omega⟩
theorem Ab.sub{x y C:Int}(h:Ab x B)(h':Ab y C):Ab (x - y) (B+C):=⟨by have:=h.1;have:=h'.2;omega,by have:=h.2;have:=h'.1;omega⟩
theorem Ab.mono{x C:Int}(h:Ab x B)(h':B<=C):Ab x C:=⟨by have:=h.1;omega,by have:=h.2;omega⟩
theorem Ab.sum{f:Nat->Int}{B:Int}:∀{n:Nat},(∀i,i < n->Ab (f i) B)->Ab (Δ f n) (n * B)
 | 0,_=>⟨by simp [Δ],by simp [Δ]⟩
 | n+1,h=>by
  have i:=Ab.sum (n:=n) λi hi=>h i (by omega);have:=Ab.add i (h n (by omega));have e:(n:Int) * B+B=((n+1:Nat):Int) * B:=by rw [show ((n+1:Nat):Int)=(n:Int)+1 from rfl,Int.add_mul,Int.one_mul]
  rw [e] at this;exact this
theorem Ab.pow{k:Nat}{x:Int}(h:Ab x B):Ab ((-1) ^ k * x) B:=by
 rcases (by induction k with
  | zero=>exact .inl rfl
  | succ k ih=>rw [Int.pow_succ];rcases ih with e | e <;> rw [e] <;> simp:((-1:Int) ^ k=1\/(-1:Int) ^ k= -1)) with e | e
 ·rw [e,Int.one_mul];exact h
 ·rw [e];obtain ⟨a,b⟩:=h;exact ⟨by omega,by omega⟩
theorem Ab.det{B:Int}(B0:1<=B):∀(γ:List Row) (ν:List Nat),(∀x∈γ,∀c∈ν,Ab (x c) B)->ν.length<=12->Ab (D γ ν) ((12 * B) ^ γ.length)
 | [],ν,_,_=>by
  show Ab (F0 ν) ((12 * B) ^ 0);rw [Int.pow_zero];unfold F0;split
  ·exact ⟨by decide,by decide⟩
  ·exact ⟨by decide,by decide⟩
 | x::γ,ν,h,hl=>by
  show Ab (Lx x (D γ) ν) _;rw [wj,aaC,abR];have P0:(0:Int)<=(12 * B) ^ γ.length:=abS (by omega);have each:∀p,p < ν.length->Ab ((-1) ^ p * (x (ν.getD p 0) * D γ (ν.eraseIdx p))) (B * (12 * B) ^ γ.length):=λp hp=>by
   refine Ab.pow (Ab.mul ?_ (Ab.det B0 γ (ν.eraseIdx p) (λy hy c hc=>h y (aac _ hy) c (acj hc)) ?_))
   ·rw [aab,aaa hp];exact h x aae _ (aaE hp)
   ·rw [List.length_eraseIdx];split <;> omega
  refine (Ab.sum each).mono ?_;have Q0:0<=B * (12 * B) ^ γ.length:=abh (by omega) P0;have:=aaL (show (ν.length:Int)<=12 by omega) Q0;refine abx this ?_;have e:12 * (B * (12 * B) ^ γ.length)=(12 * B) ^ γ.length * (12 * B):=by grind
  omega
section
variable{q:Nat->Nat}
structure Bd(A:Nat->Row)(n m:Nat)(B:Int):Prop where
 b1:1<=B
 ab:∀k x,k < n->x < m->Ab (A k x) B
def top(B:Int)(r:Nat):Int:=(12 * B) ^ (r+3)
theorem wK{b:Nat}(h:1<=B)(Xn:a<=b):(12 * B) ^ a<=(12 * B) ^ b:=by
 obtain ⟨c,rfl⟩:=Nat.exists_eq_add_of_le Xn;rw [Int.pow_add];have p:(1:Int)<=(12 * B) ^ c:=by have:0 < (12 * B) ^ c:=Int.pow_pos (by omega);omega
 have q:(0:Int)<=(12 * B) ^ a:=abS (by omega);have:=aar p q;omega
theorem St.abs(s:St A n ρ ν q d W)(b:Bd A n m B)(hc:∀c∈ν,c < m)(hr:ρ.length<=12):
  (∀i k,i < n->Ab (W i k) (top B ρ.length))/\(∀i x,i < n->x < m->Ab (rv A n (W i) x) (top B ρ.length))/\Ab d (top B ρ.length):=by
 have B0:=b.b1;have mem:∀j,j < ρ.length->ρ.getD j 0∈ρ:=λj hj=>by rw [aab,aaa hj];exact aaE hj
 have ρn:∀a∈ρ,a < n:=λa ha=>by obtain ⟨j,hj,e⟩:=abf ha;have:=s.AB j hj;rw [aab,aaa hj] at this;rw [<-e];exact this
 have ent:∀x∈ρ.map A,∀c∈ν,Ab (x c) B:=λx hx c AM=>by obtain ⟨a,ha,rfl⟩:=aah.mp hx;exact b.ab a c (ρn a ha) (hc c AM)
 have cl:ν.length<=12:=by rw [s.lc];exact hr
 have hd:Ab d ((12 * B) ^ ρ.length):=by have:=Ab.det B0 (ρ.map A) ν ent cl;rw [s.det,aad] at this;exact this
 have Vr:∀p k,Ab (fc (ρ.map A) ν p k) ((12 * B) ^ ρ.length):=λp k=>by
  unfold fc;refine Ab.pow ((Ab.det B0 _ _ (λx hx c AM=>ent x (acj hx) c (acj AM)) ?_).mono (wK B0 ?_))
  ·rw [List.length_eraseIdx];split <;> omega
  ·rw [List.length_eraseIdx,aad];split <;> omega
 have i1:∀a k,Ab (ind a k) 1:=λa k=>by unfold ind;split <;> exact ⟨by decide,by decide⟩
 have P0:(0:Int)<=(12 * B) ^ ρ.length:=abS (by omega);have LJ:∀{C:Int},0<=C->(ρ.length:Int) * C<=12 * C:=λh=>aaL (by omega) h;have c1:12 * (12 * B) ^ ρ.length<=(12 * B) ^ (ρ.length+1):=by rw [abR];have:=aar (show (12:Int)<=12 * B by omega) P0;omega
 have wp:∀i k,i < ρ.length->Ab (W i k) ((12 * B) ^ (ρ.length+1)):=λi k hi=>by rw [s.wp i hi k];refine (Ab.sum (B:=(12 * B) ^ ρ.length) λj hj=> ?_).mono (abx (LJ P0) c1);have:=Ab.mul (Vr i j) (i1 (ρ.getD j 0) k);rw [Int.mul_one] at this;exact this
 have rp:∀i x,i < ρ.length->x < m->Ab (rv A n (W i) x) ((12 * B) ^ (ρ.length+1)):=λi x hi hx=>by
  rw [s.Rp hi];have Q0:0<=(12 * B) ^ ρ.length * B:=abh P0 (by omega);refine (Ab.sum (B:=(12 * B) ^ ρ.length * B) λj hj=>Ab.mul (Vr i j) (b.ab _ x (s.AB j hj) hx)).mono (abx (LJ Q0) ?_);rw [abR];have:12 * ((12 * B) ^ ρ.length * B)=(12 * B) ^ ρ.length * (12 * B):=by grind
  omega
 have S0:(0:Int)<=(12 * B) ^ (ρ.length+1):=abS (by omega);have T0:(0:Int)<=(12 * B) ^ (ρ.length+2):=abS (by omega);have c2:12 * (B * (12 * B) ^ (ρ.length+1))=(12 * B) ^ (ρ.length+2):=by rw [show ρ.length+2=ρ.length+1+1 from rfl,Int.pow_succ];grind
 have c3:(12 * B) ^ (ρ.length+2)+(12 * B) ^ (ρ.length+2)<=top B ρ.length:=by unfold top;have e:(12 * B) ^ (ρ.length+3)=(12 * B) ^ (ρ.length+2) * (12 * B):=abR _ _;rw [e];have:=aar (show (2:Int)<=12 * B by omega) T0;omega
 have c4:(12 * B) ^ (ρ.length+1)<=(12 * B) ^ (ρ.length+2):=wK B0 (by omega);have c5:(12 * B) ^ ρ.length<=(12 * B) ^ (ρ.length+2):=wK B0 (by omega);have c6:(12 * B) ^ ρ.length * B<=(12 * B) ^ (ρ.length+2):=by refine abx ?_ c4;rw [abR];exact aar (by omega) P0
 have U0:0<=B * (12 * B) ^ (ρ.length+1):=abh (by omega) S0;have S4:∀p,p < ρ.length->ν.getD p 0 < m:=λp hp=>by
  have zD:p < ν.length:=by rw [s.lc];exact hp
  rw [aab,aaa zD];exact hc _ (aaE zD)
 refine ⟨λi k hi=> ?_,λi x hi hx=> ?_,hd.mono (by omega)⟩
 ·by_cases ym:i < ρ.length
  ·exact (wp i k ym).mono (by omega)
  ·rw [s.wn i (by omega) hi k];have a1:=Ab.mul hd (i1 (q i) k);rw [Int.mul_one] at a1;refine (Ab.sub a1 (Ab.sum (B:=B * (12 * B) ^ (ρ.length+1)) λp hp=>Ab.mul (b.ab (q i) _ (s.MK i hi) (S4 p hp)) (wp p k hp))).mono ?_;have:=LJ U0;omega
 ·by_cases ym:i < ρ.length
  ·exact (rp i x ym hx).mono (by omega)
  ·rw [s.OR (by omega) hi];refine (Ab.sub (Ab.mul hd (b.ab (q i) x (s.MK i hi) hx)) (Ab.sum (B:=B * (12 * B) ^ (ρ.length+1)) λp hp=>Ab.mul (b.ab (q i) _ (s.MK i hi) (S4 p hp)) (rp p x hp hx))).mono ?_;have:=LJ U0;omega
end
def dD(n i:Nat):List Int:=(List.range n).map (ind i)
def kf(ls:List (List Int))(f k:Nat):List (List Int):=ls.take f++[ls.getD k []]++(ls.drop f).take (k - f)++ls.drop (k+1)
def dq(l h:List Int)(c:Nat)(d:Int):List Int:=(l.zip h).map λp=>(h.getD c 0 * p.1 - l.getD c 0 * p.2).fdiv d
def aD(A:Nat->Row)(n m:Nat)(w:Row):List Int:=(List.range m).map (λx=>rv A n w x)++(List.range n).map w
def aa(A:Nat->Row)(n m:Nat)(W:Nat->Row):List (List Int):=(List.range n).map λi=>aD A n m (W i)
def arr(γ:List (List Int)):Nat->Row:=λk x=>(γ.getD k []).getD x 0
theorem eV:(aD A n m w).length=m+n:=by unfold aD;simp
theorem ij{x:Nat}(h:x < m):(aD A n m w).getD x 0=rv A n w x:=by unfold aD;rw [List.getD_eq_getElem?_getD,List.getElem?_append_left (by simpa using h),List.getElem?_map,List.getElem?_range h];rfl
theorem j6(h:i < n):(aa A n m W).getD i []=aD A n m (W i):=by unfold aa;rw [aab,aao,aaS h];rfl
theorem dG:(aa A n m W).length=n:=by unfold aa;simp
theorem Ce{u:Row}(h:∀k,w k=u k):aD A n m w=aD A n m u:=by have:w=u:=funext h;rw [this]
theorem zS{γ:List (List Int)}(hl:∀r∈γ,r.length=m):(List.range γ.length).map (λi=>γ.getD i []++dD γ.length i)=aa (arr γ) γ.length m (λi=>ind i):=by
 unfold aa;apply abb;intro i hi;have hi:=aba.mp hi;unfold aD dD
 congr 1
 have g:γ.getD i []=γ[i]:=by rw [aab,aaa hi];rfl
 have ml:=hl γ[i] (aaE hi);apply abm
 ·rw [g,ml];simp
 ·intro x h1 h2;simp only [List.getElem_map,List.getElem_range];rw [BL hi];unfold arr;rw [aab (l:=γ.getD i []),aaa h1];rfl
def je(r k i:Nat):Nat:=if i < r then i else if i=r then k else if i<=k then i - 1 else i
theorem yx{r k:Nat}(hr:r<=k)(hk:k < n):kf (aa A n m W) r k=aa A n m (λi=>W (je r k i)):=by
 unfold kf;rw [j6 hk];unfold aa;apply acv;intro i;rw [aao];simp only [List.append_assoc];by_cases h1:i < r
 ·rw [List.getElem?_append_left (by simp;omega),List.getElem?_take_of_lt h1,List.getElem?_map];rw [aaS (by omega)];have:je r k i=i:=by unfold je;rw [if_pos h1]
  simp [this]
 ·rw [List.getElem?_append_right (by simp;omega)];have lt:((List.map (λi=>aD A n m (W i)) (List.range n)).take r).length=r:=by simp;omega
  rw [lt];by_cases h2:i=r
  ·subst h2;rw [Nat.sub_self,List.getElem?_append_left (by simp)];rw [aaS (by omega)];have:je i k i=k:=by unfold je;rw [if_neg (Nat.lt_irrefl _),if_pos rfl]
   simp [this]
  ·rw [List.getElem?_append_right (by simp;omega)];show (_++_)[i - r - 1]? =_;have l2:((List.map (λi=>aD A n m (W i)) (List.range n)).drop r |>.take (k - r)).length=k - r:=by simp;omega
   by_cases h3:i<=k
   ·rw [aau (by rw [l2];omega),aci (by omega),List.getElem?_drop,aao,aaS (by omega),aaS (by omega)];have:je r k i=i - 1:=by unfold je;rw [if_neg h1,if_neg h2,if_pos h3]
    simp only [Option.map_some,this];rw [show r+(i - r - 1)=i - 1 by omega]
   ·rw [aak (by rw [l2];omega),l2,List.getElem?_drop,aao];rw [show k+1+(i - r - 1 - (k - r))=i by omega];by_cases h4:i < n
    ·rw [aaS h4];have:je r k i=i:=by unfold je;rw [if_neg h1,if_neg h2,if_neg h3]
     simp [this]
    ·rw [List.getElem?_eq_none (by simpa using h4)];rfl
theorem tH{a b:Int}(h:d≠0)(e:d * b=a):a.fdiv d=b:=by rw [<-e];exact Int.mul_fdiv_cancel_left b h
theorem rN{c:Nat}{u v:Row}(hc:c < m)(d0:d≠0)(h:∀k,d * v k=rv A n u c * w k - rv A n w c * u k):dq (aD A n m w) (aD A n m u) c d=aD A n m v:=by
 have hr:∀x,d * rv A n v x=rv A n u c * rv A n w x - rv A n w c * rv A n u x:=λx=>by have:=yo (A:=A) (n:=n) (w:=λk=>d * v k) (u:=w) (v:=u) (a:=rv A n u c) (b:=rv A n w c) h x;rw [<-this];unfold rv;rw [<-Χ];exact ω λk _=>by grind
 unfold dq;rw [ij hc,ij hc];unfold aD;rw [List.zip_append (by simp),List.map_append]
 congr 1
 ·apply abm
  ·simp
  ·intro x h1 h2;simp only [List.getElem_map,List.getElem_zip,List.getElem_range];exact tH d0 (hr x)
 ·apply abm
  ·simp
  ·intro x h1 h2;simp only [List.getElem_map,List.getElem_zip,List.getElem_range];exact tH d0 (h x)
structure Turn(A:Nat->Row)(n:Nat)(col:Nat)(ρ ν:List Nat)(q:Nat->Nat)(d:Int)(W:Nat->Row):Prop where
 st:St A n ρ ν q d W
 d0:d≠0
 cl:∀c∈ν,c < col
 QJ:∀i,i < ρ.length->q i=ρ.getD i 0
 Q1:∀k,k < n->∃i,i < n/\q i=k
 zero:∀i,ρ.length<=i->i < n->∀x,x < col->rv A n (W i) x=0
 all:ν=List.range col\/∃x,x < col/\x∉ν
theorem Turn.start:Turn A n 0 [] [] id 1 (λi=>ind i) where
 st:=St.start
 d0:=by decide
 cl:=λ_ h=>nomatch h
 QJ:=λ_ h=>aaK h (abE _)
 Q1:=λk h=>⟨k,h,rfl⟩
 zero:=λ_ _ _ _ h=>aaK h (abE _)
 all:= .inl rfl
section
variable{col:Nat}{q:Nat->Nat}
theorem Turn.skip(t:Turn A n col ρ ν q d W)(h:∀i,ρ.length<=i->i < n->rv A n (W i) col=0):Turn A n (col+1) ρ ν q d W where
 st:=t.st
 d0:=t.d0
 cl:=λc hc=>abW (t.cl c hc)
 QJ:=t.QJ
 Q1:=t.Q1
 zero:=λi h1 h2 x hx=>by
  by_cases e:x=col
  ·rw [e];exact h i h1 h2
  ·exact t.zero i h1 h2 x (by omega)
 all:= .inr ⟨col,abq _,λz=>aaK (t.cl col z) (abu _)⟩
theorem Turn.move(t:Turn A n col ρ ν q d W){k:Nat}(h1:ρ.length<=k)(h2:k < n):Turn A n col ρ ν (λi=>q (je ρ.length k i)) d (λi=>W (je ρ.length k i)) where
 st:=t.st.perm (λi hi=>by unfold je;rw [if_pos hi]) λi a b=>by unfold je;split <;> (try split) <;> (try split) <;> omega
 d0:=t.d0
 cl:=t.cl
 QJ:=λi hi=>by show q (je ρ.length k i)=_;rw [show je ρ.length k i=i by unfold je;rw [if_pos hi]];exact t.QJ i hi
 Q1:=λj hj=>by
  obtain ⟨i,hi,e⟩:=t.Q1 j hj;by_cases a:i < ρ.length
  ·exact ⟨i,hi,by show q (je ρ.length k i)=j;rw [show je ρ.length k i=i by unfold je;rw [if_pos a]];exact e⟩
  ·by_cases b:i=k
   ·exact ⟨ρ.length,by omega,by show q (je ρ.length k ρ.length)=j;rw [show je ρ.length k ρ.length=k by unfold je;rw [if_neg (Nat.lt_irrefl _),if_pos rfl],<-b];exact e⟩
   ·by_cases c:i < k
    ·exact ⟨i+1,by omega,by show q (je ρ.length k (i+1))=j;rw [show je ρ.length k (i+1)=i by unfold je;rw [if_neg (by omega),if_neg (by omega),if_pos (by omega)];omega];exact e⟩
    ·exact ⟨i,hi,by show q (je ρ.length k i)=j;rw [show je ρ.length k i=i by unfold je;rw [if_neg a,if_neg (by omega),if_neg (by omega)]];exact e⟩
 zero:=λi a b x hx=>by
  have:ρ.length<=je ρ.length k i/\je ρ.length k i < n:=by unfold je;split <;> (try split) <;> (try split) <;> omega
  exact t.zero _ this.1 this.2 x hx
 all:=t.all
theorem Turn.step(t:Turn A n col ρ ν q d W)(hr:ρ.length < n)(hm:col < m)(h0:rv A n (W ρ.length) col≠0):
  ∃W',Turn A n (col+1) (ρ++[q ρ.length]) (ν++[col]) q (rv A n (W ρ.length) col) W'/\
   ((aa A n m W).take ρ.length).map (λl=>dq l (aD A n m (W ρ.length)) col d)++[aD A n m (W ρ.length)]++((aa A n m W).drop (ρ.length+1)).map (λl=>dq l (aD A n m (W ρ.length)) col d)=aa A n m W':=by
 obtain ⟨W',s',e1,e2⟩:=t.st.step hr col t.d0 h0;refine ⟨W',⟨s',h0,λc hc=> ?_,λi hi=> ?_,t.Q1,λi a b x hx=> ?_, ?_⟩, ?_⟩
 ·rcases aaQ.mp hc with z | z
  ·exact abW (t.cl c z)
  ·have:c=col:=by simpa using z
   omega
 ·by_cases ym:i < ρ.length
  ·rw [nH ym];exact t.QJ i ym
  ·have:i=ρ.length:=by simp at hi;omega
   rw [this,n6]
 ·rw [show (ρ++[q ρ.length]).length=ρ.length+1 by simp] at a;have W4:d * rv A n (W' i) x=rv A n (W ρ.length) col * rv A n (W i) x - rv A n (W i) col * rv A n (W ρ.length) x:=by have:=yo (A:=A) (n:=n) (w:=λk=>d * W' i k) (u:=W i) (v:=W ρ.length) (λk=>e2 i b (by omega) k) x;rw [<-this];unfold rv;rw [<-Χ];exact ω λk _=>by grind
  refine aaV t.d0 ?_;rw [W4];by_cases e:x=col
  ·subst e;grind
  ·rw [t.zero i (by omega) b x (by omega),t.zero ρ.length (Nat.le_refl _) hr x (by omega)];simp
 ·rcases t.all with z | ⟨x,a,b⟩
  ·left;rw [z,List.range_succ]
  ·refine .inr ⟨x,by omega,λz=> ?_⟩;rcases aaQ.mp z with z | z
   ·exact b z
   ·have:x=col:=by simpa using z
    omega
 ·unfold aa;rw [<-acr,<-acs,aaM,aaM];apply acv;intro i;simp only [List.append_assoc];have lt:(List.map ((λl=>dq l (aD A n m (W ρ.length)) col d) ∘ λi=>aD A n m (W i)) ((List.range n).take ρ.length)).length=ρ.length:=by simp;omega
  by_cases h1:i < ρ.length
  ·rw [aau (by rw [lt];exact h1),aao,aao,aci h1,aaS (by omega)];show some (dq (aD A n m (W i)) (aD A n m (W ρ.length)) col d)=some _;rw [rN hm t.d0 (e2 i (by omega) (by omega))]
  ·rw [aak (by rw [lt];omega),lt,aao];by_cases h2:i=ρ.length
   ·subst h2;rw [acy,aaS hr];show some (aD A n m (W ρ.length))=some (aD A n m (W' ρ.length));rw [Ce e1]
   ·rw [List.getElem?_append_right (by simp;omega)];show (List.map _ ((List.range n).drop (ρ.length+1)))[i - ρ.length - 1]? =_;rw [aao,List.getElem?_drop,show ρ.length+1+(i - ρ.length - 1)=i by omega];by_cases h4:i < n
    ·rw [aaS h4];show some (dq (aD A n m (W i)) (aD A n m (W ρ.length)) col d)=some _;rw [rN hm t.d0 (e2 i h4 h2)]
    ·rw [List.getElem?_eq_none (by simpa using h4)];rfl
end
section
variable{col:Nat}{q:Nat->Nat}
theorem Turn.back(t:Turn A n col ρ ν q d W){k y:Nat}(hk:k < n)(hy:y < col):d * A k y=Δ (λp=>A k (ν.getD p 0) * rv A n (W p) y) ρ.length:=by
 obtain ⟨i,hi,e⟩:=t.Q1 k hk;have s:=t.st;by_cases ym:i < ρ.length
 ·have ek:k=ρ.getD i 0:=by rw [<-e];exact t.QJ i ym
  have lr:(ρ.map A).length=ρ.length:=aad _;have e1:Δ (λp=>A k (ν.getD p 0) * rv A n (W p) y) ρ.length=Δ (λp=>Δ (λj=>(A k (ν.getD p 0) * fc (ρ.map A) ν p j) * A (ρ.getD j 0) y) ρ.length) ρ.length:=ω λp hp=>by rw [s.Rp hp,<-Χ];exact ω λj _=>by grind
  have e2:Δ (λp=>Δ (λj=>(A k (ν.getD p 0) * fc (ρ.map A) ν p j) * A (ρ.getD j 0) y) ρ.length) ρ.length=Δ (λj=>A (ρ.getD j 0) y * Δ (λp=>(ρ.map A).getD i zr (ν.getD p 0) * fc (ρ.map A) ν p j) ρ.length) ρ.length:=by rw [dH];refine ω λj _=> ?_;rw [<-Χ];refine ω λp _=> ?_;rw [t_ ym,<-ek];grind
  rw [e1,e2];have pa:∀j,j < ρ.length->Δ (λp=>(ρ.map A).getD i zr (ν.getD p 0) * fc (ρ.map A) ν p j) ρ.length=if i=j then d else 0:=λj hj=>by have:=PA (γ:=ρ.map A) (ν:=ν) (i:=i) (k:=j) (by rw [lr];exact s.lc) (by rw [lr];exact ym) (by rw [lr];exact hj);rw [lr,s.det] at this;exact this
  rw [iP ym λj hj lF=>by rw [pa j hj,if_neg (Ne.symm lF)];simp];rw [pa i ym,if_pos rfl,ek];grind
 ·have:=s.OR (by omega) hi y;rw [t.zero i (by omega) hi y hy,e] at this;omega
theorem Turn.kernel(t:Turn A n col ρ ν q d W){x:Nat}(hx:x < col)(hf:x∉ν):∃z:Row,z x= -d/\∀k,k < n->Δ (λy=>A k y * z y) col=0:=by
 have s:=t.st;have cm:∀i,i < ρ.length->ν.getD i 0∈ν:=λi hi=>by
  have ue:i < ν.length:=by rw [s.lc];exact hi
  rw [aab,aaa ue];exact aaE ue
 refine ⟨λy=>Δ (λi=>rv A n (W i) x * ind (ν.getD i 0) y) ρ.length - d * ind x y, ?_,λk hk=> ?_⟩
 ·have e1:Δ (λi=>rv A n (W i) x * ind (ν.getD i 0) x) ρ.length=0:=iZ λi hi=>by unfold ind;rw [if_neg λz=>hf (by rw [<-z];exact cm i hi)];simp
  show Δ (λi=>rv A n (W i) x * ind (ν.getD i 0) x) ρ.length - d * ind x x= -d;rw [e1];unfold ind;rw [if_pos rfl];omega
 ·have gen:∀f:Row,Δ (λy=>f y * (Δ (λi=>rv A n (W i) x * ind (ν.getD i 0) y) ρ.length - d * ind x y)) col=Δ (λi=>rv A n (W i) x * f (ν.getD i 0)) ρ.length - d * f x:=λf=>by
   have e1:Δ (λy=>f y * (Δ (λi=>rv A n (W i) x * ind (ν.getD i 0) y) ρ.length - d * ind x y)) col=Δ (λy=>Δ (λi=>rv A n (W i) x * (ind (ν.getD i 0) y * f y)) ρ.length+(-d) * (ind x y * f y)) col:=ω λy _=>by
    have:Δ (λi=>rv A n (W i) x * (ind (ν.getD i 0) y * f y)) ρ.length=f y * Δ (λi=>rv A n (W i) x * ind (ν.getD i 0) y) ρ.length:=by rw [<-Χ];exact ω λi _=>by grind
    rw [this];grind
   rw [e1,gU,Χ,nG (f:=f) hx,dH];have e2:Δ (λi=>Δ (λy=>rv A n (W i) x * (ind (ν.getD i 0) y * f y)) col) ρ.length=Δ (λi=>rv A n (W i) x * f (ν.getD i 0)) ρ.length:=ω λi hi=>by rw [Χ,nG (f:=f) (t.cl _ (cm i hi))]
   rw [e2];grind
  refine aaV t.d0 ?_;rw [Int.mul_zero,gen (A k),Int.mul_sub];have b1:=t.back hk hx;have e3:Δ (λi=>rv A n (W i) x * A k (ν.getD i 0)) ρ.length=d * A k x:=by rw [b1];exact ω λi _=>aa6 _ _
  rw [e3];grind
def QP(A:Nat->Row)(n u:Nat)(z:Row)(N:Int):Prop:=∀k,k < n->Δ (λx=>A k x * z x) u=N * A k u
theorem QP.line{u:Nat}{z:Row}{N:Int}(h:QP A n u z N)(w:Row):Δ (λx=>rv A n w x * z x) u=N * rv A n w u:=by
 unfold rv;have e1:Δ (λx=>Δ (λk=>w k * A k x) n * z x) u=Δ (λx=>Δ (λk=>w k * (A k x * z x)) n) u:=ω λx _=>by rw [aa6,<-Χ];exact ω λk _=>by grind
 rw [e1,dH,<-Χ];refine ω λk hk=> ?_;rw [Χ,h k hk];grind
theorem Turn.rest(t:Turn A n col ρ ν q d W){z:Row}{N:Int}(hs:QP A n col z N)(hN:N≠0)(h1:ρ.length<=i)(hi:i < n):rv A n (W i) col=0:=by
 have:=hs.line (W i);rw [iZ λx hx=>by rw [t.zero i h1 hi x hx];simp] at this;rcases Int.mul_eq_zero.mp this.symm with e | e
 ·exact aaK e hN
 ·exact e
theorem Turn.told(t:Turn A n col ρ ν q d W)(hc:ν=List.range col){z:Row}{N:Int}(hs:QP A n col z N)(hi:i < col):d * z i=N * rv A n (W i) col:=by
 have s:=t.st;have hl:ρ.length=col:=by rw [<-s.lc,hc,aa1]
 have g:∀p,p < col->ν.getD p 0=p:=λp hp=>by rw [hc,aab,aaS hp];rfl
 rw [<-hs.line (W i)]
 rw [iP hi λx hx lF=>by
  have:=s.one i x (by rw [hl];exact hi) (by rw [hl];exact hx);rw [g x hx,aav (Ne.symm lF)] at this
  rw [this];simp]
 have:=s.one i i (by rw [hl];exact hi) (by rw [hl];exact hi);rw [g i hi,aaw rfl] at this;rw [this]
end
theorem Turn.exists{A:Nat->Row}{n:Nat}:∀col:Nat,∃ρ ν q d W,Turn A n col ρ ν q d W
 | 0=>⟨_,_,_,_,_,Turn.start⟩
 | col+1=>by
  obtain ⟨ρ,ν,q,d,W,t⟩:=Turn.exists (A:=A) (n:=n) col;by_cases h:∃k,ρ.length<=k/\k < n/\rv A n (W k) col≠0
  ·obtain ⟨k,h1,h2,h3⟩:=h;have t':=t.move h1 h2;have e:je ρ.length k ρ.length=k:=by unfold je;rw [if_neg (Nat.lt_irrefl _),if_pos rfl]
   obtain ⟨W',t2,_⟩:=t'.step (m:=col+1) (by omega) (by omega) (by show rv A n (W (je ρ.length k ρ.length)) col≠0;rw [e];exact h3);exact ⟨_,_,_,_,_,t2⟩
  ·refine ⟨_,_,_,_,_,t.skip λi h1 h2=> ?_⟩;by_cases e:rv A n (W i) col=0
   ·exact e
   ·exact aaK ⟨i,h1,h2,e⟩ h
section
variable{col:Nat}{q:Nat->Nat}
def Lc(A:Nat->Row)(n:Nat)(W:Nat->Row)(ν:List Nat)(s k:Nat):Row:=λy=>Δ (λi=>rv A n (W i) s * ind (ν.getD i 0) y) k
theorem Turn.LP(t:Turn A n col ρ ν q d W){x:Nat}(hx:x < col):∀k,k < n->Δ (λy=>A k y * (Lc A n W ν x ν.length y - d * ind x y)) col=0:=λk hk=>by
 have s:=t.st;have cm:∀i,i < ρ.length->ν.getD i 0∈ν:=λi hi=>by
  have ue:i < ν.length:=by rw [s.lc];exact hi
  rw [aab,aaa ue];exact aaE ue
 unfold Lc;rw [s.lc];have gen:∀f:Row,Δ (λy=>f y * (Δ (λi=>rv A n (W i) x * ind (ν.getD i 0) y) ρ.length - d * ind x y)) col=Δ (λi=>rv A n (W i) x * f (ν.getD i 0)) ρ.length - d * f x:=λf=>by
  have e1:Δ (λy=>f y * (Δ (λi=>rv A n (W i) x * ind (ν.getD i 0) y) ρ.length - d * ind x y)) col=Δ (λy=>Δ (λi=>rv A n (W i) x * (ind (ν.getD i 0) y * f y)) ρ.length+(-d) * (ind x y * f y)) col:=ω λy _=>by
   have:Δ (λi=>rv A n (W i) x * (ind (ν.getD i 0) y * f y)) ρ.length=f y * Δ (λi=>rv A n (W i) x * ind (ν.getD i 0) y) ρ.length:=by rw [<-Χ];exact ω λi _=>by grind
   rw [this];grind
  rw [e1,gU,Χ,nG (f:=f) hx,dH];have e2:Δ (λi=>Δ (λy=>rv A n (W i) x * (ind (ν.getD i 0) y * f y)) col) ρ.length=Δ (λi=>rv A n (W i) x * f (ν.getD i 0)) ρ.length:=ω λi hi=>by rw [Χ,nG (f:=f) (t.cl _ (cm i hi))]
  rw [e2];grind
 refine aaV t.d0 ?_;rw [Int.mul_zero,gen (A k),Int.mul_sub];have b1:=t.back hk hx;have e3:Δ (λi=>rv A n (W i) x * A k (ν.getD i 0)) ρ.length=d * A k x:=by rw [b1];exact ω λi _=>aa6 _ _
 rw [e3];grind
theorem Turn.SG(t:Turn A n col ρ ν q d W)(h:∀i,ρ.length<=i->i < n->rv A n (W i) col=0):QP A n col (Lc A n W ν col ν.length) d:=λk hk=>by
 have:=(t.skip h).LP (x:=col) (by omega) k hk;have e:Δ (λy=>A k y * (Lc A n W ν col ν.length y - d * ind col y)) (col+1)=Δ (λy=>A k y * (Lc A n W ν col ν.length y - d * ind col y)) col+A k col * (Lc A n W ν col ν.length col - d * ind col col):=rfl;have e1:Δ (λy=>A k y * (Lc A n W ν col ν.length y - d * ind col y)) col=Δ (λy=>A k y * Lc A n W ν col ν.length y) col:=ω λy hy=>by
  have:ind col y=0:=by unfold ind;rw [if_neg (by omega)]
  rw [this];grind
 have e2:Lc A n W ν col ν.length col=0:=iZ λi hi=>by
  have hm:ν.getD i 0∈ν:=by rw [aab,aaa hi];exact aaE hi
  have:ind (ν.getD i 0) col=0:=by unfold ind;rw [if_neg (by have:=t.cl _ hm;omega)]
  rw [this,Int.mul_zero]
 have e3:ind col col=1:=by unfold ind;rw [if_pos rfl]
 rw [e,e1,e2,e3] at this;have:A k col * (0 - d * 1)= -(d * A k col):=by grind
 omega
theorem St.YU(s:St A n ρ ν q d W)(b:Bd A n m B)(hc:∀c∈ν,c < m)(hr:ρ.length<=12):Ab d ((12 * B) ^ ρ.length):=by
 have ρn:∀a∈ρ,a < n:=λa ha=>by obtain ⟨j,hj,e⟩:=abf ha;have:=s.AB j hj;rw [aab,aaa hj] at this;rw [<-e];exact this
 have:=Ab.det b.b1 (ρ.map A) ν (λx hx c AM=>by
  obtain ⟨a,ha,rfl⟩:=aah.mp hx
  exact b.ab a c (ρn a ha) (hc c AM)) (by rw [s.lc];exact hr)
 rw [s.det,aad] at this;exact this
end
end Bz
seal L2.JE L2.JT L2.JW L2.JA L2.JS L2.Bk L2.JI L2.JK
local macro_rules | `(tactic| walk_at "vc")=>`(tactic| dsimp only [L2.gN,L2.UM,L2.TL,L2.UZ,L2.L6,L2.N9,L2.ZK,L2.TJ,L2.Nz,L2.IM,L2.Og,L2.BS,L2.jX,L2.Vu,L2.BW,L2.dC,L2.Pm,L2.Ik,L2.UL,L2.Th,L2.lP,L2.SV,L2.orT,L2.T5,L2.SD,L2.UQ,L2.ZH,L2.j9,List.map_cons,List.map_nil,List.length_cons,List.length_nil,List.cons_append,List.nil_append,List.replicate,List.getElem?_cons_zero,List.getElem?_cons_succ,List.set_cons_zero,List.set_cons_succ,Nat.reduceSub,Nat.reduceAdd,Nat.zero_add])
namespace Pg
open PySem L2
variable{f aQ ft qQ df d_:Addr}{fd aP fk r_ de ef:FuncData}{i n j l:Nat}{M:Ms}{d:Dt}{xs ds:List Dt}{b t lo E C B:Int}{A W:Nat->Bz.Row}{kc:List (Int×Nat)}
def top(i:Nat):Stmt:=PySem.Challenge.pw_chanceduel_k33_whole_worths_from_both_si.main.body.getD i (.Pass ⟨0,0,0,0⟩)
def cls(i j:Nat):Stmt:=match top i with
 | .ClassDef _ _ _ b _ _ _ _ _ _ _=>b.getD j (.Pass ⟨0,0,0,0⟩)
 | _=> .Pass ⟨0,0,0,0⟩
abbrev hJ:Stmt:=top 9
abbrev oF:Stmt:=top 10
abbrev KG:Stmt:=top 11
abbrev BY:Stmt:=top 12
abbrev By:Stmt:=top 13
abbrev Bx:Stmt:=top 14
abbrev rH:Stmt:=top 19
abbrev oo:Stmt:=top 20
abbrev ix:Stmt:=top 21
abbrev jz:Stmt:=top 22
abbrev mK:Stmt:=top 23
abbrev rW:Stmt:=top 24
abbrev mQ:Stmt:=top 25
abbrev md:Stmt:=top 30
abbrev sQ:Stmt:=top 31
abbrev ow:Stmt:=top 32
abbrev Cb:Stmt:=top 33
abbrev jJ:Stmt:=top 36
abbrev iC:Stmt:=top 37
abbrev ki:Stmt:=top 38
abbrev jG:Stmt:=top 39
abbrev tU:Stmt:=top 40
abbrev mB:Stmt:=top 41
abbrev oC:Stmt:=top 43
abbrev pF:Stmt:=top 45
abbrev lY:Stmt:=top 46
abbrev sX:Stmt:=top 47
abbrev sP:Stmt:=top 48
abbrev jr:Stmt:=top 49
abbrev pM:Stmt:=top 50
abbrev oP:Stmt:=top 51
abbrev xo:Stmt:=top 52
abbrev Bj:Stmt:=top 53
abbrev pd:Stmt:=top 54
abbrev g8:Stmt:=top 56
abbrev sk:Stmt:=top 57
abbrev sY:Stmt:=top 59
abbrev xr:Stmt:=top 60
abbrev w_:Stmt:=top 61
abbrev Bq:Stmt:=top 63
abbrev mN:Stmt:=top 64
abbrev mn:Stmt:=top 65
abbrev vY:Stmt:=top 66
abbrev pK:Stmt:=top 67
abbrev jI:Stmt:=top 68
abbrev mO:Stmt:=top 69
abbrev jZ:Stmt:=top 70
abbrev oJ:Stmt:=top 71
abbrev rX:Stmt:=top 72
abbrev sI:Stmt:=top 73
abbrev sA:Stmt:=top 74
abbrev oO:Stmt:=top 75
abbrev xX:Stmt:=top 76
abbrev pO:Stmt:=top 77
abbrev oz:Stmt:=top 78
abbrev QU:Stmt:=top 79
abbrev mW:Stmt:=cls 34 0
abbrev mZ:Stmt:=cls 34 1
abbrev ku:Stmt:=cls 34 2
abbrev mE:Stmt:=cls 34 3
abbrev kK:Stmt:=cls 34 4
abbrev pH:Stmt:=cls 34 5
abbrev ky:Stmt:=cls 34 7
abbrev gP:Stmt:=cls 34 8
abbrev mT:Stmt:=cls 34 9
abbrev l_:Stmt:=cls 34 10
open PySem L2 Fr0 Tx
structure Ev(K:fI)(mg:Str->Option Value)(w:World)(Cm:Addr):Prop where
 bC:mg "len"=none
 qX:mg "abs"=none
 cD:mg "isinstance"=none
 vQ:mg "int"=none
 xc:mg "bool"=none
 I0:mg "str"=none
 qF:mg "tuple"=none
 jk:mg "list"=none
 bU:mg "range"=none
 eN:mg "enumerate"=none
 D7:mg "any"=none
 Ej:mg "all"=none
 zT:mg "sum"=none
 vF:mg "zip"=none
 tX:mg "dict"=none
 C_:mg "min"=none
 Kl:mg "max"=none
 ib:PySem.W.kitOne K (.type "int") (.type "bool")=some false
 kis:PySem.W.kitOne K (.type "int") (.type "str")=some false
 kts:PySem.W.kitOne K (.type "tuple") (.type "str")=some false
 kti:PySem.W.kitOne K (.type "tuple") (.type "int")=some false
 kls:PySem.W.kitOne K (.type "list") (.type "str")=some false
 kli:PySem.W.kitOne K (.type "list") (.type "int")=some false
 ktl:PySem.W.kitOne K (.type "tuple") (.type "list")=some false
 klt:PySem.W.kitOne K (.type "list") (.type "tuple")=some false
 dU:Ec K Cm
 cE:iA K Cm "kept_rows"
 fA:iA K Cm "kept_share"
 xN:∃a o its n,mg "HANDS"=some (.ref a)/\K.lookup a=some o/\o.cls= .type "tuple"/\o.data= .seq its n/\its.size<=sizeLine/\Paired (λ(z:Str) (u:Value)=>∃tk,u= .str z tk) ["one","other"] its.toList
 lC:Ri K w mg "TURNED_KINDS" [("one","other"),("other","one"),("chance","chance")]
 pR:∃tk,mg "MOST_DOORS"=some (.int 6 tk)
 ji:∃tk,mg "MOST_BOTTOM"=some (.int 1000000 tk)
 nZ:∃tk,mg "MOST_PLACES"=some (.int 12 tk)
 gR:∃tk,mg "MOST_SHARE_BOTTOM"=some (.int 1000 tk)
theorem A9{K:fI}{T:String}:PySem.W.kitOne K (.type T) (.type T)=some true:=by unfold PySem.W.kitOne;rw [aaw (beq_self_eq_true _)]
section
variable{P:Program}{w:World}{K:fI}{mg:Str->Option Value}{base:Heap}{Cm:Addr}
def H_:DF:=λds M q _=>match ds with
 | [.int a, .int b]=>q (.int (g a b)) M
 | _=>False
theorem bM:Ζ ["one","other","great","small","rest"] ["one","other"] (ψ hJ):= .of rfl
theorem oG(F:cX K "common_divisor" "common_divisor" hJ f fd)(E:Ev K mg w Cm):aj P w K mg base (b9 P w) 1 f fd ["one","other"] (cJ K H_):=by
 refine F.dQ bM (λds M q x h=> ?_) (λaY A outer s H E' hr=>⟨_,(η (Α 2 bM.nd (DU E.qX (Ο (jv 0) θ)))
   (η (Α 3 bM.nd (DU E.qX (Ο (jv 1) θ)))
   (η (nz (lJ hr (jv 3) υ) (η (Α 4 bM.nd (bO (jv 2) (jv 3)))
   (η (Α 2 bM.nd (jv 3))
   (μ (Α 3 bM.nd (jv 4))))))
   (μ (Ε (jv 2)))))),λds M q x h=> ?_⟩)
 ·unfold H_ at h;split at h; · rfl
  ·exact h.elim
 ·unfold H_ at h;split at h
  ·rename_i a b;refine ⟨λm ρ M'=>M'=M/\∃(x y:Int) (r:Option Dt),ρ=[some (.int a),some (.int b),some (.int x),some (.int y),r]/\0<=x/\0<=y/\g x y=g a b/\m=y.toNat,⟨_,rfl,_,_,_,rfl,by split <;> omega,by split <;> omega,Oy a b,rfl⟩, ?_⟩;rintro m ρ M' ⟨rfl,x,y,r,rfl,hx,hy,e,rfl⟩;refine ⟨λhb=> ?_,λhb=> ?_⟩
   ·have Ng:y≠0:=by simpa using hb
    refine ⟨_,λρ' M2 h2=>h2, ?_⟩;refine ⟨by omega,(x % y).toNat, ?_,rfl,y,x % y,_,rfl,hy,aa4 _ Ng, ?_,rfl⟩
    ·have:=aa0 x (show 0 < y by omega);have:=aa4 x Ng;omega
    ·rw [<-abO x hy,Hv (by omega)];exact e
   ·have Ng:y=0:=by simpa using hb
    subst Ng;rw [HU hx] at e;subst e;exact h
  ·exact h.elim
theorem GR{i j:Int}(h:eP j)(l:i.natAbs<=j.natAbs):eP i:=aaT l h
def sZ:DF:=λds M q _=>match ds with
 | [.int t, .int b]=>eP b/\(b=0->False)/\(b≠0->q (.tup [.int (ay t b).1, .int (ay t b).2]) M)
 | _=>False
theorem lX:Ζ ["top","bottom","divisor"] ["top","bottom"] (ψ oF):= .of rfl
theorem Ao(F:cX K "fraction" "fraction" oF f fd)(E:Ev K mg w Cm){gQ:Addr}{gX:FuncData}(bL:ax P w K mg base 1 "common_divisor" ["one","other"] H_ gQ gX):aj P w K mg base (b9 P w) 2 f fd ["top","bottom"] (cJ K sZ):=by
 refine F.dQ lX (λds M q x h=> ?_) (λaY A outer s H E' hr=>⟨_,(η (aF (dj hr (jv 1) υ) (μ gW) Τ)
   (η (Α 2 lX.nd (ae bL hr ξ (Ο (jv 0) (Ο (jv 1) θ))))
   (η (hV (aF (uY (jv 1) υ) (μ (Α 2 lX.nd (R8 (jv 2)))) Τ))
   (μ (Ε (dM (ι (BF (jv 0) (jv 2)) (ι (BF (jv 1) (jv 2)) θ bB) bB))))))),λds M q x h=> ?_⟩)
 ·unfold sZ at h;split at h; · rfl
  ·exact h.elim
 ·unfold sZ at h;split at h
  ·rename_i t b;obtain ⟨hB,h0,h1⟩:=h;refine ⟨λhb=> ?_,λhb=> ?_⟩
   ·exact h0 (by simpa using hb)
   ·have K7:b≠0:=by simpa using hb
    refine ⟨λρ M'=>M'=M/\ρ=[some (.int t),some (.int b),some (.int (dv t b))],⟨λhn=> ?_,λhn=> ?_⟩, ?_⟩
    ·have Rt:b < 0:=by simpa using hn
     exact ⟨rfl,by unfold dv;rw [if_pos Rt];rfl⟩
    ·have Rt:¬b < 0:=by simpa using hn
     exact ⟨rfl,by unfold dv;rw [if_neg Rt];rfl⟩
    ·rintro ρ M' ⟨rfl,rfl⟩;have hd:=Ef (t:=t) K7;have ZQ:eP (dv t b):=GR hB (xE K7);exact ⟨⟨hd,ZQ⟩,⟨hd,ZQ⟩,gV,h1 K7⟩
  ·exact h.elim
abbrev Fr:=Int×Int
def Ν(p:Fr):Dt:= .tup [.int p.1, .int p.2]
def bq(p:Fr):Bool:=decide ((if p.1 < 0 then -p.1 else p.1)<=10 ^ 30)&&decide (p.2<=1000000)
def r6:DF:=λds M q _=>∃p,ds=[Ν p]/\q (.bl (bq p)) M
theorem Fj:Ζ ["pay"] ["pay"] (ψ rH):= .of rfl
theorem Bh(F:cX K "fits_pay" "fits_pay" rH f fd)(E:Ev K mg w Cm):aj P w K mg base (b9 P w) 1 f fd ["pay"] (cJ K r6):=by
 refine F.dQ Fj (λds M q x h=> ?_) (λaY A outer s H E' hr=>⟨_,(μ (Ε (iI (yR (DU E.qX (ι (Η (jv 0) υ) θ aX)) (i_ υ υ)) (mr (yR (Η (jv 0) υ) (rG E.ji)))))),λds M q x h=> ?_⟩)
 ·obtain ⟨p,rfl,_⟩:=h;rfl
 ·obtain ⟨p,rfl,h⟩:=h;refine ⟨⟨by decide,by decide,by decide⟩,λh1=> ?_,λh1=> ?_⟩
  ·have e:bq p=decide (p.2<=1000000):=by unfold bq;rw [show decide ((if p.1 < 0 then -p.1 else p.1)<=10 ^ 30)=true from h1];rfl
   rw [e] at h;exact h
  ·have e:bq p=false:=by unfold bq;rw [show decide ((if p.1 < 0 then -p.1 else p.1)<=10 ^ 30)=false from h1];rfl
   rw [e] at h;exact h
theorem qz{ok:Ms->Prop}(h:lB M d=some (xs,ok)):ok M:=by
 cases d with
 | lst ds=>cases h;trivial
 | h_ ns=>cases h;trivial
 | loc k=>
  have h:(match M[k]? with | some (.lst xs)=>some (xs,λM':Ms=>M'[k]? =some (.lst xs)) | _=>none)=some (xs,ok):=h;split at h
  ·rename_i ys hm;cases h;exact hm
  ·cases h
 | _=>cases h
theorem zO{ok:Ms->Prop}(h:lB M d=some (xs,ok)):pU M d=some (xs,ok):=by
 cases d with
 | lst ds=>cases h;rfl
 | h_ ns=>cases h;rfl
 | loc k=>exact h
 | _=>cases h
theorem eJ{ρ:En}{ok:Ms->Prop}{q:List Dt->(Ms->Prop)->Ms->Prop}{x:DX}(hv:ρ[i]? =some (some d))(hl:lB M d=some (xs,ok))(h:q xs ok M):fM (BW i) ρ M q x:=by unfold fM BW;rw [hv];show (match pU M d with | some (xs,ok)=>q xs ok M | none=>False);rw [zO hl];exact h
theorem bg{n:Int}{k:Nat}(h:n.natAbs < 2 ^ k)(hk:k<=8000:=by decide):eP n:=aat h (abV (by decide) hk)
def aN(t:Int)(p:Fr)(size:Int):Bool:=decide (0<=t)&&(decide (t < size)&&bq p)
def vR:DF:=λds M q _=>∃t p r size,ds=[.tup (.int t::Ν p::r), .int size]/\q (.bl (aN t p size)) M
theorem BI:Ζ ["door","size"] ["door","size"] (ψ oo):= .of rfl
theorem yS(F:cX K "fits_door" "fits_door" oo f fd)(E:Ev K mg w Cm){tq:Addr}{q5:FuncData}(gH:ax P w K mg base 1 "fits_pay" ["pay"] r6 tq q5):aj P w K mg base (b9 P w) 2 f fd ["door","size"] (cJ K vR):=by
 refine F.dQ BI (λds M q x h=> ?_) (λaY A outer s H E' hr=>⟨_,(μ (Ε (iI (yR υ (Η (jv 0) υ)) (iI (IY (Η (jv 0) υ) (jv 1)) (mr (ae gH hr ξ (ι (Η (jv 0) υ) θ aX))))))),λds M q x h=> ?_⟩)
 ·obtain ⟨t,p,r,size,rfl,_⟩:=h;rfl
 ·obtain ⟨t,p,r,size,rfl,h⟩:=h;walk_at "vc";refine Θ rfl bo ?_;refine ⟨λh1=> ?_,λh1=> ?_⟩
  ·refine Θ rfl bo ⟨λh2=> ?_,λh2=> ?_⟩
   ·refine Θ rfl (Κ (j:=1) rfl) ⟨p,rfl, ?_⟩;have e:aN t p size=bq p:=by unfold aN;rw [h1,h2];rfl
    rw [<-e];exact h
   ·have e:aN t p size=false:=by unfold aN;rw [h1,h2];rfl
    rw [<-e];exact h
  ·have e:aN t p size=false:=by unfold aN;rw [h1];rfl
   rw [<-e];exact h
abbrev bH:=Int×Fr×List Fr
def eQ(d:bH):Dt:= .tup (.int d.1::Ν d.2.1::d.2.2.map Ν)
def ag(ds:List bH)(size:Int):Bool:=decide (1<=ds.length)&&decide (ds.length<=6)&&ds.all λd=>aN d.1 d.2.1 size
def tZ:DF:=λas M q _=>∃d size ds ok,as=[d, .int size]/\lB M d=some (ds.map eQ,ok)/\ds.length<=100/\q (.bl (ag ds size)) M
theorem pZ:Ζ ["doors","size"] ["doors","size"] (ψ mK):= .of rfl
theorem wy(F:cX K "fits_doors" "fits_doors" mK f fd)(E:Ev K mg w Cm){GF:Addr}{GN:FuncData}(mC:ax P w K mg base 2 "fits_door" ["door","size"] vR GF GN):aj P w K mg base (b9 P w) 3 f fd ["doors","size"] (cJ K tZ):=by
 refine F.dQ pZ (λds M q x h=> ?_) (λaY A outer s H E' hr=>⟨_,(η (aF (JW.jt (lL (uY (cq E.bC (Ο (jv 0) θ)) υ) (jY (C9 (cq E.bC (Ο (jv 0) θ)) (rG E.pR))))) (μ (Ε HM)) Τ)
   (μ (Ε (Tp E.Ej (ι (gx (ys:=["size"]) (ah:=[1]) (.of pZ rfl rfl rfl) (bx (jv 0)) (λC s H fp=>(ae mC hr (ia (P:=P) (w:=w)) (Ο (jv 0) (Ο (jv 1) θ))))) θ))))),λds M q x h=> ?_⟩)
 ·obtain ⟨d,size,ds,ok,rfl,_⟩:=h;rfl
 ·obtain ⟨d,size,ds,ok,rfl,hl,hz,h⟩:=h;have hs:=n8 hl;walk_at "vc";refine aE hs ⟨λh1=> ?_,λh1=> ?_⟩
  ·refine ⟨λ_=> ?_,λz=>(nomatch z)⟩;have e:ag ds size=false:=by
    have:(ds.length:Int) < 1:=by simpa using h1
    unfold ag;rw [aaI (by omega)];rfl
   rw [<-e];exact h
  ·have h1:¬(ds.length:Int) < 1:=by simpa using h1
   refine aE hs ⟨λh2=> ?_,λh2=> ?_⟩
   ·have e:ag ds size=false:=by
     have:6 < (ds.length:Int):=by simpa using h2
     unfold ag;rw [aaI (p:=ds.length<=6) (by omega),Bool.and_false];rfl
    rw [<-e];exact h
   ·have h2:¬6 < (ds.length:Int):=by simpa using h2
    refine eJ rfl hl ⟨by rw [aad];exact aax hz (by decide), ?_⟩;refine gB (f:=λd=> .bl (match d with | .tup (.int t:: .tup [.int a, .int b]::_)=>aN t (a,b) size | _=>false)) (qz hl) (λx hx q hq=> ?_) ?_
    ·obtain ⟨y,_,rfl⟩:=aah.mp hx;exact ⟨y.1,y.2.1,y.2.2.map Ν,size,rfl,hq⟩
    ·refine ⟨ds.map λd=>aN d.1 d.2.1 size, ?_, ?_⟩
     ·rw [aaM,aaX,aaM];rfl
     ·have e:ag ds size=(ds.map λd=>aN d.1 d.2.1 size).all id:=by unfold ag;rw [aaB (show 1<=ds.length by omega),aaB (show ds.length<=6 by omega),List.all_map];rfl
      rw [<-e];exact h
def bJ(cs:List Fr):Int:=cs.foldl (λb c=>b * c.2 / g b c.2) 1
theorem nP{c:Int}(hb:0 < b)(hc:0 < c):0 < b * c / g b c/\b * c / g b c<=b * c/\0 < g b c/\g b c<=c:=by
 have hg:0 < g b c:=AS (by omega);have hbc:0 < b * c:=aaN hb hc;have hd:g b c∣c:=Int.gcd_dvd_right ..;have hle:g b c<=c:=ab1 hc hd;have h1:c<=b * c:=by have:=aaL (show 1<=b by omega) (show 0<=c by omega);simpa using this
 refine ⟨Int.ediv_pos_of_pos_of_dvd hbc (by omega) (Int.dvd_mul_of_dvd_right hd), ?_,hg,hle⟩;exact acf _ (by omega)
def Ph(cs:List Fr):Prop:=cs.length<=12/\∀c∈cs,0 < c.2/\c.2 < 2 ^ 200/\c.1.natAbs < 2 ^ 200
def OkB(cs:List Fr):Prop:=cs.length<=13/\∀c∈cs,0 < c.2/\c.2 < 2 ^ 200
theorem pv:∀(cs:List Fr) (b:Int) (k:Nat),0 < b->b<=2 ^ (200 * k)->(∀c∈cs,0 < c.2/\c.2 < 2 ^ 200)->0 < cs.foldl (λb c=>b * c.2 / g b c.2) b/\cs.foldl (λb c=>b * c.2 / g b c.2) b<=2 ^ (200 * (k+cs.length))
 | [],b,k,h0,h1,_=>⟨h0,h1⟩
 | c::cs,b,k,h0,h1,hc=>by
  obtain ⟨c0,c1⟩:=hc c aae;obtain ⟨s0,s1,_⟩:=nP h0 c0;have hlt:b * c.2 / g b c.2<=2 ^ (200 * (k+1)):=by refine abx s1 ?_;rw [show 200 * (k+1)=200 * k+200 by omega,Int.pow_add];exact abC h1 (aaj c1) (aaj c0) (aaj (Int.pow_pos (by decide)))
  have:=pv cs _ (k+1) s0 hlt λd hd=>hc d (aac _ hd);rw [abv,aaC,show k+(cs.length+1)=k+1+cs.length by omega];exact this
theorem R6{n:Int}{k:Nat}(h0:0<=n)(h:n<=2 ^ k)(hk:k < 8000):eP n:=by
 refine bg (k:=k+1) ?_ hk;have:(n.natAbs:Int) < ((2 ^ (k+1):Nat):Int):=by rw [abj h0,Int.natCast_pow,abR];have:(0:Int) < 2 ^ k:=Int.pow_pos (by decide);show n < 2 ^ k * 2;omega
 exact abI.mp this
theorem fB:∀(cs:List Fr) (b:Int),0 < b->(∀c∈cs,0 < c.2)->0 < cs.foldl (λb c=>b * c.2 / g b c.2) b
 | [],_,h0,_=>h0
 | c::cs,b,h0,hc=>fB cs _ (nP h0 (hc c aae)).1 λd hd=>hc d (aac _ hd)
theorem qk{n:Int}{k:Nat}(h0:0<=n)(h:n < 2 ^ k)(hk:k<=8000):eP n:=by
 refine bg (k:=k) ?_ hk;have:(n.natAbs:Int) < ((2 ^ k:Nat):Int):=by rw [abj h0,Int.natCast_pow];exact h
 exact abI.mp this
def iK:DF:=λds M q _=>∃cs:List Fr,ds=[.lst (cs.map Ν)]/\OkB cs/\q (.int (bJ cs)) M
theorem e7:Ζ ["chances","bottom","chance"] ["chances"] (ψ ix):= .of rfl
theorem qi(F:cX K "common_bottom" "common_bottom" ix f fd)(E:Ev K mg w Cm){gQ:Addr}{gX:FuncData}(bL:ax P w K mg base 1 "common_divisor" ["one","other"] H_ gQ gX):aj P w K mg base (b9 P w) 2 f fd ["chances"] (cJ K iK):=by
 refine F.dQ e7 (λds M q x h=> ?_) (λaY A outer s H E' hr=>⟨_,(η (Α 1 e7.nd υ)
   (η (cY (bx (jv 0)) (ar (i:=2) e7.nd rfl (Or.inl rfl)) aL (μ (Α 1 e7.nd (jT (av (jv 1) (Η (jv 2) υ)) (ae bL hr ξ (Ο (jv 1) (ι (Η (jv 2) υ) θ aX)))))))
   (μ (Ε (jv 1))))),λds M q x h=> ?_⟩)
 ·obtain ⟨cs,rfl,_⟩:=h;rfl
 ·obtain ⟨cs,rfl,⟨hz,hc⟩,h⟩:=h;walk_at "vc";refine eJ (i:=0) rfl rfl ?_;refine bD (λxs ρ M'=>M'=M/\∃fj rest r,cs=fj++rest/\xs=rest.map Ν/\ρ=[some (.lst (cs.map Ν)),some (.int (bJ fj)),r]) (λ_ _ _ _=>trivial) (λx xs ρ M' hj e_=> ?_) (λρ M' hj=> ?_) _ _ _ ⟨rfl,[],cs,none,rfl,rfl,rfl⟩
  ·obtain ⟨rfl,fj,rest,r,e,ex,rfl⟩:=hj;cases rest with
   | nil=>cases ex
   | cons c rest=>
    cases ex;have hd:∀d∈fj,0 < d.2/\d.2 < 2 ^ 200:=λd hd=>by obtain ⟨a,b⟩:=hc d (by rw [e];exact List.mem_append_left _ hd);exact ⟨a,b⟩
    obtain ⟨c0,c1⟩:=hc c (by rw [e];exact aaD _ aae);obtain ⟨b0,b1⟩:=pv fj 1 0 (by decide) (by decide) hd;have hl:fj.length<=13:=by have:=aaZ List.length e;rw [aag] at this;omega
    obtain ⟨s0,s1,g0,g1⟩:=nP b0 c0;refine ⟨⟨R6 (aaj b0) b1 (by omega),qk (aaj c0) c1 (by decide)⟩,⟨g0,qk (aaj g0) (aaH g1 c1) (by decide)⟩, ?_⟩;refine e_ _ _ ⟨rfl,fj++[c],rest,some (Ν c),by rw [e];simp,rfl, ?_⟩;have e2:bJ (fj++[c])=bJ fj * c.2 / g (bJ fj) c.2:=by unfold bJ;rw [List.foldl_append];rfl
    rw [e2];rfl
  ·obtain ⟨rfl,fj,rest,r,e,ex,rfl⟩:=hj;cases rest with
   | nil=>rw [aa8] at e;subst e;exact h
   | cons c rest=>cases ex
def ai(cs:List Fr):Bool:= !(cs.any λc=>decide (c.1<=0))&&(decide ((cs.map λc=>c.1 * (bJ cs / c.2)).sum=bJ cs)&&decide (bJ cs<=1000000))
def n_:DF:=λds M q _=>∃cs:List Fr,ds=[.lst (cs.map Ν)]/\Ph cs/\q (.bl (ai cs)) M
theorem dX:Ζ ["chances","bottom","whole"] ["chances"] (ψ jz):= .of rfl
theorem sT(F:cX K "fits_chances" "fits_chances" jz f fd)(E:Ev K mg w Cm){iG:Addr}{iy:FuncData}(cy:ax P w K mg base 2 "common_bottom" ["chances"] iK iG iy):aj P w K mg base (b9 P w) 3 f fd ["chances"] (cJ K n_):=by
 refine F.dQ dX (λds M q x h=> ?_) (λaY A outer s H E' hr=>⟨_,(η (aF (b8 (S2 E.D7 (ι (gx (ys:=[]) (ah:=[]) (.of dX rfl rfl rfl) (bx (jv 0)) (λC s H fp=>(yR (Η (jv 0) υ) υ))) θ))) (μ (Ε HM)) Τ)
   (η (Α 1 dX.nd (ae cy hr ξ (Ο (jv 0) θ)))
   (η (Α 2 dX.nd (OB E.zT (ι (gx (ys:=["bottom"]) (ah:=[1]) (.of dX rfl rfl rfl) (bx (jv 0)) (λC s H fp=>(av (Η (jv 0) υ) (jT (jv 1) (Η (jv 0) υ))))) θ)))
   (μ (Ε (iI (MT hr (jv 2) (jv 1)) (mr (yR (jv 1) (rG E.ji))))))))),λds M q x h=> ?_⟩)
 ·obtain ⟨cs,rfl,_⟩:=h;rfl
 ·obtain ⟨cs,rfl,K8,h⟩:=h;obtain ⟨hz,hc⟩:=id K8;have hz2:(cs.map Ν).length<=sizeLine:=by rw [aad];exact aax hz (by decide)
  obtain ⟨b0,b1⟩:=pv cs 1 0 (by decide) (by decide) λc h=>⟨(hc c h).1,(hc c h).2.1⟩;walk_at "vc";refine eJ (i:=0) rfl rfl ⟨hz2, ?_⟩;refine gB (f:=λd=> .bl (match d with | .tup [.int a, .int b]=>decide (a<=0) | _=>false)) trivial (λx hx q hq=> ?_) ?_
  ·obtain ⟨y,_,rfl⟩:=aah.mp hx;exact hq
  ·refine ⟨cs.map λc=>decide (c.1<=0),by rw [aaM,aaX,aaM];rfl,λ_ z=>(nomatch z),λ_ z=>(nomatch z), ?_⟩;have ea:(cs.map λc=>decide (c.1<=0)).any id=cs.any λc=>decide (c.1<=0):=by rw [List.any_map];rfl
   rw [ea];refine ⟨λh1=> ?_,λh1=> ?_⟩
   ·have e:ai cs=false:=by unfold ai;rw [h1];rfl
    rw [<-e];exact h
   ·refine ⟨cs,rfl,⟨by omega,λc h=>⟨(hc c h).1,(hc c h).2.1⟩⟩, ?_⟩;walk_at "vc";refine eJ (i:=0) rfl rfl ⟨hz2, ?_⟩;refine gB (f:=λd=> .int (match d with | .tup [.int a, .int b]=>a * (bJ cs / b) | _=>0)) trivial (λx hx q hq=> ?_) ?_
    ·obtain ⟨y,hy,rfl⟩:=aah.mp hx;obtain ⟨y0,y1,y2⟩:=hc y hy;refine ⟨⟨y0,qk (aaj y0) y1 (by decide)⟩,⟨bg y2, ?_⟩,hq⟩;refine R6 (k:=200 * (0+cs.length)) (Int.ediv_nonneg (aaj b0) (aaj y0)) (abx (acf _ (aaj b0)) b1) (by omega)
    ·refine ⟨cs.map λc=>c.1 * (bJ cs / c.2),by rw [aaM,aaX,aaM];rfl,⟨_,_,rfl⟩, ?_⟩;refine ⟨λh2=> ?_,λh2=> ?_⟩
     ·have e:ai cs=decide (bJ cs<=1000000):=by unfold ai;rw [h1,h2];rfl
      rw [e] at h;exact h
     ·have e:ai cs=false:=by unfold ai;rw [h1,h2];rfl
      rw [<-e];exact h
inductive Rw where
 | fin (p:Fr)
 | τ (k:Str) (ds:List bH)
def χ(d:bH):Fr:=d.2.2.headD (0,1)
def f_:Rw->Prop
 | .fin p=>0 < p.2
 | .τ k ds=>k≠"end"/\ds.length<=12/\(k="chance"->(∀d∈ds,d.2.2=[χ d])/\Ph (ds.map χ))/\∀d∈ds,d.2.2.length<=1/\0 < d.2.1.2
def ko(M:Ms)(d:Dt):Rw->Prop
 | .fin p=>d= .tup [.str "end",Ν p]
 | .τ k ds=>∃e ok,d= .tup [.str k,e]/\lB M e=some (ds.map eQ,ok)
def az:Rw->Dt
 | .fin p=> .tup [.str "end",Ν p]
 | .τ k ds=> .tup [.str k, .lst (ds.map eQ)]
theorem Nn(M:Ms)(r:Rw):ko M (az r) r:=by
 cases r with
 | fin p=>rfl
 | τ k ds=>exact ⟨_,_,rfl,rfl⟩
theorem oV(p:Fr):(Ν p).under n:=⟨trivial,trivial,trivial⟩
theorem xJ{n:Nat}:∀(ps:List Fr),Dt.bK n (ps.map Ν)
 | []=>trivial
 | p::ps=>⟨oV p,xJ ps⟩
theorem OS(d:bH):(eQ d).under n:=⟨trivial,oV _,xJ _⟩
theorem iq{n:Nat}:∀(ds:List bH),Dt.bK n (ds.map eQ)
 | []=>trivial
 | d::ds=>⟨OS d,iq ds⟩
theorem LM(r:Rw):(az r).under n:=by
 cases r with
 | fin p=>exact ⟨trivial,oV p,trivial⟩
 | τ k ds=>exact ⟨trivial,iq ds,trivial⟩
theorem sC{n:Nat}:∀(rs:List Rw),Dt.bK n (rs.map az)
 | []=>trivial
 | r::rs=>⟨LM r,sC rs⟩
def Γ(k:Str):Bool:=k=="one" || k=="other"
def fE(r:Rw)(size:Int):Bool:=match r with
 | .fin p=>bq p
 | .τ k ds=>if Γ k then ag ds size else if k="chance" then ag ds size&&ai (ds.map χ) else false
theorem Ad{j:Int}{ρ:En}{ok:Ms->Prop}{q:List Dt->(Ms->Prop)->Ms->Prop}{x:DX}(hv:ρ[i]? =some (some (.tup ds)))(hj:mw ds j=some d)(hl:lB M d=some (xs,ok))(h:q xs ok M):fM (jX cj (BW i) (dC (.int j))) ρ M q x:=by unfold fM jX BW;rw [hv];show cj (.tup ds) (.int j) M (λd M1=>match pU M1 d with | some (xs,ok)=>q xs ok M1 | none=>False);refine Θ rfl hj ?_;show (match pU M d with | some (xs,ok)=>q xs ok M | none=>False);rw [zO hl];exact h
theorem qR{k:Str}:Rh (.str k) [.str "one", .str "other"]=Γ k:=by show ((("one":Str)==k) || ((("other":Str)==k) || false))=(k=="one" || k=="other");rw [Bool.or_false,BEq.comm (a:=("one":Str)),BEq.comm (a:=("other":Str))]
def yz:DF:=λas M q _=>∃d r size,as=[d, .int size]/\ko M d r/\f_ r/\q (.bl (fE r size)) M
theorem pj:Ζ ["row","size","kind"] ["row","size"] (ψ rW):= .of rfl
theorem Bt   (F:cX K "fits_row" "fits_row" rW f fd) (E:Ev K mg w Cm) {tq:Addr} {q5:FuncData} (gH:ax P w K mg base 1 "fits_pay" ["pay"] r6 tq q5) {CZ:Addr} {BD:FuncData} (hZ:ax P w K mg base 3 "fits_doors" ["doors","size"] tZ CZ BD) {x_:Addr} {we:FuncData} (iJ:ax P w K mg base 3 "fits_chances" ["chances"] n_ x_ we):aj P w K mg base (b9 P w) 4 f fd ["row","size"] (cJ K yz):=by
 refine F.dQ pj (λds M q x h=> ?_) (λaY A outer s H E' hr=>⟨_,(η (Α 2 pj.nd (Η (jv 0) υ))
   (η (aF (dj hr (jv 2) iB) (μ (Ε (ae gH hr ξ (ι (Η (jv 0) υ) θ aX)))) Τ)
   (η (aF (HH (jv 2) (KD E.xN)) (μ (Ε (ae hZ hr ξ (ι (Η (jv 0) υ) (Ο (jv 1) θ) aX)))) Τ)
   (η (aF (dj hr (jv 2) iB) (μ (Ε (iI (ae hZ hr ξ (ι (Η (jv 0) υ) (Ο (jv 1) θ) aX)) (mr (ae iJ hr ξ (ι (gx (ys:=[]) (ah:=[]) (.of pj rfl rfl rfl) (bx (Η (jv 0) υ)) (λC s H fp=>(Η (jv 0) υ))) θ)))))) Τ)
   (μ (Ε HM)))))),λds M q x h=> ?_⟩)
 ·obtain ⟨d,r,size,rfl,_⟩:=h;rfl
 ·obtain ⟨d,r,size,rfl,ra,ro,h⟩:=h;cases r with
  | fin p=>
   have ra:d= .tup [.str "end",Ν p]:=ra;subst ra;exact ⟨λ_=>⟨p,rfl,h⟩,λz=>(nomatch z)⟩
  | τ k ds=>
   obtain ⟨e,ok,rfl,hl⟩:=ra;obtain ⟨hk,hz,A8,_⟩:=ro;refine ⟨λz=>aaK (aap z) hk,λ_=> ?_⟩;refine ⟨.str k,[.str "one", .str "other"],[.str "one", .str "other"],rfl,rfl,rfl, ?_⟩;rw [qR];refine ⟨λh1=> ?_,λh1=> ?_⟩
   ·refine ⟨e,size,ds,ok,rfl,hl,by omega, ?_⟩;have e1:fE (.τ k ds) size=ag ds size:=by show (if Γ k then _ else _)=_;rw [aaw h1]
    rw [<-e1];exact h
   ·have e1:fE (.τ k ds) size=if k="chance" then ag ds size&&ai (ds.map χ) else false:=by show (if Γ k then _ else _)=_;rw [aav (by rw [h1];decide)]
    rw [e1] at h;refine ⟨λh2=> ?_,λh2=> ?_⟩
    ·have h2:k="chance":=aap h2;rw [aaw h2] at h;obtain ⟨MM,K8⟩:=A8 h2;refine ⟨e,size,ds,ok,rfl,hl,by omega,λh3=> ?_,λh3=> ?_⟩
     ·rw [h3,Bool.true_and] at h;show fM _ _ _ _ _;refine Ad (i:=0) (j:=1) (ds:=[.str k,e]) rfl (Κ (j:=1) rfl) hl ⟨by rw [aad];exact aax hz (by decide), ?_⟩;refine gB (f:=λd=>match d with | .tup [_,_,c]=>c | _=> .aU) (qz hl) (λx hx q hq=> ?_) ?_
      ·obtain ⟨y,hy,rfl⟩:=aah.mp hx;have ey:eQ y= .tup [.int y.1,Ν y.2.1,Ν (χ y)]:=by unfold eQ;rw [MM y hy];rfl
       rw [ey] at hq⊢;exact hq
      ·refine ⟨ds.map χ, ?_,K8,h⟩;rw [aaX,aaM,aaM];have:∀y∈ds,((λd=>match d with | Dt.tup [_,_,c]=>c | _=>Dt.aU) ∘ eQ) y=(Ν ∘ χ) y:=λy hy=>by
        have ey:eQ y= .tup [.int y.1,Ν y.2.1,Ν (χ y)]:=by unfold eQ;rw [MM y hy];rfl
        show (match eQ y with | Dt.tup [_,_,c]=>c | _=>Dt.aU)=Ν (χ y);rw [ey]
       rw [abb this]
     ·rw [h3,Bool.false_and] at h;exact h
    ·have h2:k≠"chance":=aa3 h2;rw [aav h2] at h;exact h
def tR:DF:=λas M q _=>∃d r,as=[d]/\ko M d r/\f_ r/\match r with
 | .fin p=>q (.tup [.str "end",Ν p]) M
 | .τ k ds=>q (.tup [.str k, .loc M.length]) (M++[.lst (ds.map eQ)])
theorem Ar:Ζ ["row"] ["row"] (ψ mQ):= .of rfl
theorem yg(F:cX K "copied_row" "copied_row" mQ f fd)(E:Ev K mg w Cm):aj P w K mg base (b9 P w) 1 f fd ["row"] (cJ K tR):=by
 refine F.dQ Ar (λds M q x h=> ?_) (λaY A outer s H E' hr=>⟨_,(η (aF (dj hr (Η (jv 0) υ) iB) (μ (Ε (dM (ι (Η (jv 0) υ) (ι (Η (jv 0) υ) θ aX) aX)))) Τ)
   (μ (Ε (dM (ι (Η (jv 0) υ) (ι (tS E.jk (ι (Η (jv 0) υ) θ aX)) θ aV) aX))))),λds M q x h=> ?_⟩)
 ·obtain ⟨d,r,rfl,_⟩:=h;rfl
 ·obtain ⟨d,r,rfl,ra,ro,h⟩:=h;cases r with
  | fin p=>
   have ra:d= .tup [.str "end",Ν p]:=ra;subst ra;exact ⟨λ_=>⟨gV,h⟩,λz=>(nomatch z)⟩
  | τ k ds=>
   obtain ⟨e,ok,rfl,hl⟩:=ra;refine ⟨λz=>aaK (aap z) ro.1,λ_=> ?_⟩;show (match fR M e with | some xs=>_ | none=>False);rw [n8 hl];exact ⟨gV,h⟩
def aS(p:Fr):Bool:=decide (0<=p.1)&&(decide (p.1 < p.2)&&decide (p.2<=1000))
def rM:DF:=λas M q _=>∃p,as=[Ν p]/\q (.bl (aS p)) M
theorem yK:Ζ ["share"] ["share"] (ψ md):= .of rfl
theorem wA(F:cX K "fits_share" "fits_share" md f fd)(E:Ev K mg w Cm):aj P w K mg base (b9 P w) 1 f fd ["share"] (cJ K rM):=by
 refine F.dQ yK (λds M q x h=> ?_) (λaY A outer s H E' hr=>⟨_,(μ (Ε (iI (yR υ (Η (jv 0) υ)) (iI (IY (Η (jv 0) υ) (Η (jv 0) υ)) (mr (yR (Η (jv 0) υ) (rG E.gR))))))),λds M q x h=> ?_⟩)
 ·obtain ⟨p,rfl,_⟩:=h;rfl
 ·obtain ⟨p,rfl,h⟩:=h;unfold aS at h;refine ⟨λh1=>⟨λh2=> ?_,λh2=> ?_⟩,λh1=> ?_⟩
  ·rw [show decide (0<=p.1)=true from h1,show decide (p.1 < p.2)=true from h2] at h;exact h
  ·rw [show decide (0<=p.1)=true from h1,show decide (p.1 < p.2)=false from h2] at h;exact h
  ·rw [show decide (0<=p.1)=false from h1] at h;exact h
theorem NJ{c S:Int}(hb:b∣S)(hc:c∣S)(K7:0 < b)(hc0:0 < c):b * c / g b c∣S/\b∣b * c / g b c/\c∣b * c / g b c:=by
 have e:b * c / g b c=(Int.lcm b c:Nat):=by
  have h:=Int.gcd_mul_lcm b c;have hg:0 < g b c:=AS (by omega);have h2:((Int.gcd b c:Nat):Int) * ((Int.lcm b c:Nat):Int)=b * c:=by rw [<-Int.natCast_mul,h,Int.natCast_mul,abj (aaj K7),abj (aaj hc0)]
  rw [<-h2];exact Int.mul_ediv_cancel_left _ (by unfold g at hg;omega)
 rw [e];exact ⟨Int.coe_lcm_dvd hb hc,Int.dvd_lcm_left ..,Int.dvd_lcm_right ..⟩
theorem iQ:∀(cs:List Fr) (b S:Int),0 < b->b∣S->(∀c∈cs,0 < c.2/\c.2∣S)->cs.foldl (λb c=>b * c.2 / g b c.2) b∣S/\b∣cs.foldl (λb c=>b * c.2 / g b c.2) b/\∀c∈cs,c.2∣cs.foldl (λb c=>b * c.2 / g b c.2) b
 | [],b,S,_,h,_=>⟨h,Int.dvd_refl b,λc hc=>nomatch hc⟩
 | c::cs,b,S,h0,h,hc=>by
  obtain ⟨c0,cS⟩:=hc c aae;obtain ⟨d1,d2,d3⟩:=NJ h cS h0 c0;obtain ⟨i1,i2,i3⟩:=iQ cs _ S (nP h0 c0).1 d1 λx hx=>hc x (aac _ hx);rw [abv];refine ⟨i1,Int.dvd_trans d2 i2,λx hx=> ?_⟩;rcases aaF.mp hx with rfl | hx
  ·exact Int.dvd_trans d3 i2
  ·exact i3 x hx
theorem pX(m:Int)(f:Int->Int):∀(ws:List Int),(ws.map λw=>m * f w).sum=m * (ws.map f).sum
 | []=>by simp
 | w::ws=>by simp only [List.map_cons,List.sum_cons];rw [pX m f ws,Int.mul_add]
theorem zd(h:0 < b):(ay t b).2∣b:=by obtain ⟨p,q,e,_,_,_,eb⟩:=gD (t:=t) (show b≠0 by omega);rw [e];exact ⟨dv t b,by show b=q * dv t b;rw [aa6];exact eb⟩
theorem AW(ht:0 < t)(h:0 < b):0 < (ay t b).1:=by have hc:=cG (t:=t) (show b≠0 by omega);have hp:=cL (t:=t) (show b≠0 by omega);have h1:0 < t * (ay t b).2:=aaN ht hp;rw [hc] at h1;exact Int.pos_of_mul_pos_right h1 h |> λz=>z
theorem BZ{ws:List Int}{S:Int}(hS:ws.sum=S)(hw:∀w∈ws,0 < w)(hn:ws≠[])(hS1:S<=1000000)(hz:ws.length<=12):ai (ws.map λw=>ay w S)=true/\Ph (ws.map λw=>ay w S):=by
 have pos:∀{l:List Int},(∀w∈l,0 < w)->0<=l.sum/\(l≠[]->0 < l.sum)/\∀w∈l,w<=l.sum:=by
  intro l
  induction l with
  | nil=>exact λ_=>⟨by simp,λz=>absurd rfl z,λw hw=>nomatch hw⟩
  | cons a l ih=>
   intro h;obtain ⟨i1,i2,i3⟩:=ih λw hw=>h w (aac _ hw);have:=h a aae;rw [List.sum_cons];refine ⟨by omega,λ_=>by omega,λw hw=> ?_⟩;rcases aaF.mp hw with rfl | hw
   ·omega
   ·have:=i3 w hw;omega
 obtain ⟨_,p2,p3⟩:=pos hw;have S0:0 < S:=by rw [<-hS];exact p2 hn
 have Rk:S≠0:=by omega
 have hd:∀c∈ws.map (λw=>ay w S),0 < c.2/\c.2∣S:=λc hc=>by obtain ⟨w,_,rfl⟩:=aah.mp hc;exact ⟨cL Rk,zd S0⟩
 obtain ⟨⟨m,hm⟩,_,hB⟩:=iQ (ws.map λw=>ay w S) 1 S (by decide) (Int.one_dvd _) hd;have B0:0 < bJ (ws.map λw=>ay w S):=by refine (fB (ws.map λw=>ay w S) 1 (by decide) λc hc=>(hd c hc).1)
 generalize V4:bJ (ws.map λw=>ay w S)=B at *
 have hm:S=B * m:=by rw [<-V4];exact hm
 have m0:0 < m:=by
  rcases Int.lt_trichotomy m 0 with h | h | h
  ·have:=abT B0 h;omega
  ·rw [h,Int.mul_zero] at hm;omega
  ·exact h
 have key:((ws.map λw=>ay w S).map λc=>c.1 * (B / c.2)).sum=B:=by
  have e1:∀w∈ws,m * ((ay w S).1 * (B / (ay w S).2))=w:=λw hw=>by
   have hb:(ay w S).2∣B:=by rw [<-V4];exact hB _ (aah.mpr ⟨w,hw,rfl⟩)
   obtain ⟨k,hk⟩:=hb;have q0:=cL (t:=w) Rk;have e2:B / (ay w S).2=k:=by rw [hk];exact abt _ (by omega)
   have hc:=cG (t:=w) Rk;rw [e2];have hS':S=(ay w S).2 * k * m:=by rw [<-hk];exact hm
   generalize (ay w S).1=x at *
   generalize (ay w S).2=y at *
   have e4:S * x=y * (m * (x * k)):=by rw [hS'];simp only [Int.mul_assoc,Int.mul_comm,Int.mul_left_comm]
   have e3:y * (m * (x * k))=y * w:=by rw [<-e4,<-hc,aa6]
   exact aaV (by omega) e3
  have e5:m * ((ws.map λw=>ay w S).map λc=>c.1 * (B / c.2)).sum=m * B:=by rw [aaM];show m * (ws.map λw=>(ay w S).1 * (B / (ay w S).2)).sum=m * B;rw [<-pX,abb e1,List.map_id',hS,hm,aa6]
  exact aaV (by omega) e5
 refine ⟨?_,⟨by rw [aad];exact hz,λc hc=> ?_⟩⟩
 ·unfold ai;rw [V4,key];have ha:((ws.map λw=>ay w S).any λc=>decide (c.1<=0))=false:=by rw [List.any_eq_false];intro c hc;obtain ⟨w,VJ,rfl⟩:=aah.mp hc;have:=AW (hw w VJ) S0;simpa using this
  have hle:B<=S:=by have:=aar (show 1<=m by omega) (aaj B0);rw [Int.mul_one,<-hm] at this;exact this
  rw [ha,aaB rfl,aaB (show B<=1000000 by omega)];rfl
 ·obtain ⟨w,VJ,rfl⟩:=aah.mp hc;have q0:=cL (t:=w) Rk;have l1:=tj (t:=w) Rk;have l2:=kJ (t:=w) Rk;have:=p3 w VJ;have w0:=hw w VJ;have big:(1000000:Int) < 2 ^ 200:=by decide
  have afi:1000000 < 2 ^ 200:=by decide
  exact ⟨q0,by omega,by omega⟩
theorem dE{α:Type}{te:DE}{cs:En}{ok:Ms->Prop}{F:Dt->α->Prop}{f:α->Dt}{M:Ms}{k:List Dt->Ms->Prop}(ho:ok M)(ht:∀x a,F x a->∀q:DQ,q (f a) M->te (some x::cs) M q lD):∀{xs:List Dt} {as:List α} {Ι:List Dt},Paired F xs as->k (Ι++as.map f) M->vb te cs ok xs Ι M k
 | _,_,Ι, .nil,h=>⟨ho,by simpa using h⟩
 | _,_,Ι, .cons r t,h=>⟨ho,ht _ _ r _ (dE ho ht t (by simpa using h))⟩
theorem zq{k:Nat}{C C':Addr}{ns ns':List Str}{xs':List Dt}{e:Dt}{ys:List Dt}{ok:Ms->Prop}(hk:M[k]? =some (.ins C ns xs))(h:lB M e=some (ys,ok)):lB (M.set k (.ins C' ns' xs')) e=some (ys,ok):=by
 cases e with
 | lst ds=>exact h
 | h_ ns=>exact h
 | loc j=>
  have h:(match M[j]? with | some (.lst xs)=>some (xs,λM':Ms=>M'[j]? =some (.lst xs)) | _=>none)=some (ys,ok):=h;have ne:k≠j:=λz=>by subst z;rw [hk] at h;cases h
  show (match (M.set k (.ins C' ns' xs'))[j]? with | some (.lst xs)=>some (xs,λM':Ms=>M'[j]? =some (.lst xs)) | _=>none)=some (ys,ok);rw [abi ne];exact h
 | _=>cases h
theorem FH{k:Nat}{C C':Addr}{ns ns':List Str}{xs':List Dt}{r:Rw}(hk:M[k]? =some (.ins C ns xs))(h:ko M d r):ko (M.set k (.ins C' ns' xs')) d r:=by
 cases r with
 | fin p=>exact h
 | τ k' ds=>
  obtain ⟨e,ok,h1,h2⟩:=h;exact ⟨e,ok,h1,zq hk h2⟩
def ao(C:Addr)(ε:Fr)(γ:List Rw):Dt:= .obj C ["kept_share","kept_rows"] [Ν ε, .lst (γ.map az)]
def NX(Cm:Addr):DF:=λas M q _=>∃k d ε ds γ ok,as=[.loc k,Ν ε,d]/\M[k]? =some (.ins Cm [] [])/\lB M d=some (ds,ok)/\Paired (ko M) ds γ/\aS ε=true/\1<=γ.length/\γ.length<=12/\
 (∀r∈γ,f_ r/\fE r γ.length=true)/\q .aU (M.set k (.ins Cm ["kept_share","kept_rows"] [Ν ε, .lst (γ.map az)]))
theorem ip:Ζ ["self","share","rows","place","row"] ["self","share","rows"] (ψ mW):= .of rfl
theorem xQ(F:cX K "__init__" "Floor.__init__" mW f fd)(E:Ev K mg w Cm){CJ:Addr}{B1:FuncData}(kj:ax P w K mg base 1 "fits_share" ["share"] rM CJ B1){J9:Addr}{Jv:FuncData}(ou:ax P w K mg base 4 "fits_row" ["row","size"] yz J9 Jv){BK:Addr}{BU:FuncData}(j2:ax P w K mg base 1 "copied_row" ["row"] tR BK BU):aj P w K mg base (b9 P w) 5 f fd ["self","share","rows"] (cJ K (NX Cm)):=by
 refine F.dQ ip (λds M q x h=> ?_) (λaY A outer s H E' hr=>⟨_,(η (aF (iF (b8 (ae kj hr ξ (Ο (jv 1) θ)))) (μ gW) Τ)
   (η (aF (JW.jt (lL (uY (cq E.bC (Ο (jv 2) θ)) υ) (jY (C9 (cq E.bC (Ο (jv 2) θ)) (rG E.nZ))))) (μ gW) Τ)
   (η (cY (wW E.eN (Ο (jv 2) θ)) (om rfl (cR (ar (i:=3) ip.nd rfl (Or.inl rfl)) (cR (ar (i:=4) ip.nd rfl (Or.inl rfl)) kR))) pq (μ (aF (iF (b8 (ae ou hr ξ (Ο (jv 4) (ι (cq E.bC (Ο (jv 2) θ)) θ aV))))) (μ gW) Τ)))
   (η (Ds E.dU E.fA (jv 0) (jv 1))
   (μ (Ds E.dU E.cE (jv 0) (gx (ys:=[]) (ah:=[]) (.of ip rfl rfl rfl) (bx (jv 2)) (λC s H fp=>(cN (ae j2 hr (ia (P:=P) (w:=w)) (Ο (jv 0) θ))))))))))),λds M q x h=> ?_⟩)
 ·obtain ⟨k,d,ε,ds,γ,ok,rfl,_⟩:=h;rfl
 ·obtain ⟨k,d,ε,ds,γ,ok,rfl,hk,hl,hp,hs,h1,h12,yt,h⟩:=h;have hlen:ds.length=γ.length:=Paired.length hp;walk_at "vc";refine ⟨ε,rfl,λz=> ?_,λ_=> ?_⟩
  ·rw [hs] at z;exact nomatch z
  have Y0:=n8 hl;refine aE Y0 ⟨λz=> ?_,λ_=> ?_⟩
  ·have:(ds.length:Int) < 1:=by simpa using z
   omega
  refine aE Y0 ⟨λz=> ?_,λ_=> ?_⟩
  ·have:12 < (ds.length:Int):=by simpa using z
   omega
  refine ⟨d,ds,ok,rfl,hl, ?_⟩;refine bD (λxs ρ M'=>M'=M/\∃n nD Dv a b,xs=i9 n nD/\Paired (ko M) nD Dv/\(∀r∈Dv,r∈γ)/\ρ=[some (.loc k),some (Ν ε),some d,a,b]) (λxs ρ M' hj=>by obtain ⟨rfl,_⟩:=hj;exact qz hl) (λx xs ρ M' hj e_=> ?_) (λρ M' hj=> ?_) _ _ _ ⟨rfl,0,ds,γ,none,none,rfl,hp,λ_ h=>h,rfl⟩
  ·obtain ⟨rfl,n,nD,Dv,a,b,ex,zD,VB,rfl⟩:=hj;cases zD with
   | nil=>cases ex
   | cons ra t=>
    rename_i d1 r1 ds1 R7;cases ex;refine aE Y0 ⟨d1,r1,ds.length,rfl,ra,(yt r1 (VB r1 aae)).1,λz=> ?_,λ_=> ?_⟩
    ·rw [hlen,(yt r1 (VB r1 aae)).2] at z;exact nomatch z
    ·exact e_ _ _ ⟨rfl,n+1,ds1,R7,_,_,rfl,t,λr hr=>VB r (aac _ hr),rfl⟩
  ·obtain ⟨rfl,n,nD,Dv,a,b,ex,zD,VB,rfl⟩:=hj;have hkl:k < M'.length:=(aaf.mp hk).1;refine ⟨k,[],[],rfl,hk,(λz=>(nomatch z)),by decide, ?_⟩;have V7:=zq (C':=Cm) (ns':=["kept_share"]) (xs':=[Ν ε]) hk hl;dsimp only [Ol,List.nil_append];show fM _ _ _ _ _;refine eJ (i:=2) rfl V7 ⟨by rw [hlen];exact aax h12 (by decide), ?_⟩;have YA:Paired (λx a=>ko (M'.set k (.ins Cm ["kept_share"] [Ν ε])) x a/\f_ a) ds γ:=by
    have:∀{xs:List Dt} {rs:List Rw},Paired (ko M') xs rs->(∀r∈rs,f_ r)->Paired (λx a=>ko (M'.set k (.ins Cm ["kept_share"] [Ν ε])) x a/\f_ a) xs rs:=by
     intro xs rs hp
     induction hp with
     | nil=>exact λ_=> .nil
     | cons r t ih=>exact λh=> .cons ⟨FH hk r,h _ aae⟩ (ih λy hy=>h y (aac _ hy))
    exact this hp λr hr=>(yt r hr).1
   refine dE (f:=az) (qz V7) (λx a ha q' hq=> ?ht) YA ?fin
   case ht=>
    obtain ⟨ha,ho⟩:=ha;refine ⟨x,a,rfl,ha,ho, ?_⟩;cases a with
    | fin p=>exact MZ ⟨trivial,oV p,trivial⟩ hq
    | τ k2 Ay=>exact mJ (.tup (.cons (.old trivial) (.cons (.KL (Nat.le_refl _) (by simp) (jD.old (iq Ay))) .nil))) hq
   case fin=>
    refine ⟨k,["kept_share"],[Ν ε],rfl,by rw [aa9 hkl],by decide,by decide, ?_⟩;rw [List.set_set];exact h
def kindOf:Rw->Str
 | .fin _=>"end"
 | .τ k _=>k
def Μ:Rw->List bH
 | .fin _=>[]
 | .τ _ ds=>ds
def T3:Rw->Dt
 | .fin p=>Ν p
 | .τ _ _=> .aU
theorem n9{γ:List Rw}{r:Rw}(h:γ[i]? =some r):(γ.map az)[i]? =some (az r):=by rw [aao,h];rfl
theorem Iv{r:Rw}:∃e,az r= .tup [.str (kindOf r),e]:=by
 cases r with
 | fin p=>exact ⟨_,rfl⟩
 | τ k ds=>exact ⟨_,rfl⟩
def Af(C:Addr):DF:=λas M q _=>∃ε γ,as=[ao C ε γ]/\q (.int γ.length) M
theorem zw:Ζ ["self"] ["self"] (ψ mZ):= .of rfl
theorem xq(F:cX K "size" "Floor.size" mZ f fd)(E:Ev K mg w Cm):aj P w K mg base (b9 P w) 1 f fd ["self"] (cJ K (Af Cm)):=by
 refine F.dQ zw (λds M q x h=> ?_) (λaY A outer s H E' hr=>⟨_,(μ (Ε (cq E.bC (ι (q_ E.dU E.cE (jv 0)) θ)))),λds M q x h=> ?_⟩)
 ·obtain ⟨ε,γ,rfl,_⟩:=h;rfl
 ·obtain ⟨ε,γ,rfl,h⟩:=h;refine ⟨_,_,_, .inl rfl,rfl, ?_⟩;show gh [.lst (γ.map az)] M _;refine aE (xs:=γ.map az) rfl ?_;rw [aad];exact h
def Ks(C:Addr):DF:=λas M q _=>∃ε γ,as=[ao C ε γ]/\q (Ν ε) M
theorem xD:Ζ ["self"] ["self"] (ψ ku):= .of rfl
theorem uM(F:cX K "share" "Floor.share" ku f fd)(E:Ev K mg w Cm):aj P w K mg base (b9 P w) 1 f fd ["self"] (cJ K (Ks Cm)):=by
 refine F.dQ xD (λds M q x h=> ?_) (λaY A outer s H E' hr=>⟨_,(μ (Ε (q_ E.dU E.fA (jv 0)))),λds M q x h=> ?_⟩)
 ·obtain ⟨ε,γ,rfl,_⟩:=h;rfl
 ·obtain ⟨ε,γ,rfl,h⟩:=h;exact ⟨_,_,_, .inl rfl,rfl,h⟩
def nh(C:Addr):DF:=λas M q _=>∃ε γ i r,as=[ao C ε γ, .int (i:Nat)]/\γ[i]? =some r/\q (.str (kindOf r)) M
theorem AL:Ζ ["self","place"] ["self","place"] (ψ mE):= .of rfl
theorem xT(F:cX K "kind" "Floor.kind" mE f fd)(E:Ev K mg w Cm):aj P w K mg base (b9 P w) 1 f fd ["self","place"] (cJ K (nh Cm)):=by
 refine F.dQ AL (λds M q x h=> ?_) (λaY A outer s H E' hr=>⟨_,(μ (Ε (Η (Η (q_ E.dU E.cE (jv 0)) (jv 1)) υ))),λds M q x h=> ?_⟩)
 ·obtain ⟨ε,γ,i,r,rfl,_⟩:=h;rfl
 ·obtain ⟨ε,γ,i,r,rfl,hi,h⟩:=h;refine ⟨_,_,_, .inl rfl,rfl, ?_⟩;walk_at "vc";refine Θ (xs:=γ.map az) rfl (Κ (n9 hi)) ?_;obtain ⟨e,er⟩:=Iv (r:=r);rw [er];exact h
def tP(C:Addr):DF:=λas M q _=>∃ε γ i r,as=[ao C ε γ, .int (i:Nat)]/\γ[i]? =some r/\f_ r/\q (.loc M.length) (M++[.lst ((Μ r).map eQ)])
theorem xm:Ζ ["self","place"] ["self","place"] (ψ kK):= .of rfl
theorem uy(F:cX K "doors" "Floor.doors" kK f fd)(E:Ev K mg w Cm)(Υ:dz P w K mg base 1 Cm "kind" ["self","place"] (nh Cm) aQ aP):aj P w K mg base (b9 P w) 2 f fd ["self","place"] (cJ K (tP Cm)):=by
 refine F.dQ xm (λds M q x h=> ?_) (λaY A outer s H E' hr=>⟨_,(η (aF (dj hr (bX Υ hr ξ (jv 0) (Ο (jv 1) θ)) iB) (μ (Ε (jO θ))) Τ)
   (μ (Ε (tS E.jk (ι (Η (Η (q_ E.dU E.cE (jv 0)) (jv 1)) υ) θ aX))))),λds M q x h=> ?_⟩)
 ·obtain ⟨ε,γ,i,r,rfl,_⟩:=h;rfl
 ·obtain ⟨ε,γ,i,r,rfl,hi,ro,h⟩:=h;refine ⟨⟨_,_, .inl rfl,rfl⟩,ε,γ,i,r,rfl,hi, ?_⟩;cases r with
  | fin p=>exact ⟨λ_=>⟨by decide,h⟩,λz=>(nomatch z)⟩
  | τ k ds=>
   refine ⟨λz=>aaK (aap z) ro.1,λ_=> ?_⟩;refine ⟨_,_,_, .inl rfl,rfl, ?_⟩;walk_at "vc";refine Θ (xs:=γ.map az) rfl (Κ (n9 hi)) ?_;exact h
def Qo(C:Addr):DF:=λas M q _=>∃ε γ i r,as=[ao C ε γ, .int (i:Nat)]/\γ[i]? =some r/\f_ r/\q (T3 r) M
theorem B5:Ζ ["self","place"] ["self","place"] (ψ pH):= .of rfl
theorem AV(F:cX K "pay" "Floor.pay" pH f fd)(E:Ev K mg w Cm)(Υ:dz P w K mg base 1 Cm "kind" ["self","place"] (nh Cm) aQ aP):aj P w K mg base (b9 P w) 2 f fd ["self","place"] (cJ K (Qo Cm)):=by
 refine F.dQ B5 (λds M q x h=> ?_) (λaY A outer s H E' hr=>⟨_,(η (aF (dj hr (bX Υ hr ξ (jv 0) (Ο (jv 1) θ)) iB) (μ (Ε (Η (Η (q_ E.dU E.cE (jv 0)) (jv 1)) υ))) Τ)
   (μ (Ε Gi))),λds M q x h=> ?_⟩)
 ·obtain ⟨ε,γ,i,r,rfl,_⟩:=h;rfl
 ·obtain ⟨ε,γ,i,r,rfl,hi,ro,h⟩:=h;refine ⟨⟨_,_, .inl rfl,rfl⟩,ε,γ,i,r,rfl,hi, ?_⟩;cases r with
  | fin p=>
   refine ⟨λ_=> ?_,λz=>(nomatch z)⟩;refine ⟨_,_,_, .inl rfl,rfl, ?_⟩;walk_at "vc";refine Θ (xs:=γ.map az) rfl (Κ (n9 hi)) ?_;exact h
  | τ k ds=>exact ⟨λz=>aaK (aap z) ro.1,λ_=>h⟩
theorem jd{α:Type}(f:α->Dt):∀(xs ys:List α),(∀x∈xs,x∈ys)->Paired (λx a=>x=f a/\a∈ys) (xs.map f) xs
 | [],_,_=> .nil
 | x::xs,ys,h=> .cons ⟨rfl,h x aae⟩ (jd f xs ys λy hy=>h y (aac _ hy))
theorem cW{q:DQ}(u:Dt.bK M.length ds)(h:q (.lst ds) M):tL M q (.loc M.length) (M++[.lst ds]):=mJ (.KL (aai _) (by rw [acy];rfl) (jD.old u)) h
theorem Mq{q:DQ}(u:Dt.bK M.length ds)(h:q (.lst ds) M):sO [.lst ds] M (tL M q):=by show tL M q (.loc M.length) (M++[.lst ds]);exact cW u h
theorem yC{d:bH}{q:DQ}(h:q (Ν d.2.1) M):cj (eQ d) (.int 1) M q:=Θ (xs:= .int d.1::Ν d.2.1::d.2.2.map Ν) rfl (Κ (j:=1) rfl) h
theorem Ey{d:bH}{q:DQ}(h:q (.int d.1) M):cj (eQ d) (.int 0) M q:=Θ (xs:= .int d.1::Ν d.2.1::d.2.2.map Ν) rfl bo h
theorem El{k:Str}{e:Dt}{q:DQ}(h:q e M):cj (.tup [.str k,e]) (.int 1) M q:=Θ (xs:=[.str k,e]) rfl (Κ (j:=1) rfl) h
theorem cM{g:Dt->En->(En->Prop)->Prop}{tb:DS}{Dn:lI}(J:List Dt->En->Ms->Prop)
  (step:∀x xs ρ M,J (x::xs) ρ M->(∀ρ M,J xs ρ M->x5 g tb Dn xs ρ M)->g x ρ λρ'=>tb {Dn with nx:=x5 g tb Dn xs,ct:=x5 g tb Dn xs,bk:=Dn.nx} ρ' M)
  (fin:∀ρ M,J [] ρ M->Dn.nx ρ M):∀(xs:List Dt) (ρ:En) (M:Ms),J xs ρ M->x5 g tb Dn xs ρ M
 | [],ρ,M,h=>fin _ _ h
 | x::xs,ρ,M,h=>step x xs ρ M h λρ' M' h'=>cM J step fin xs ρ' M' h'
theorem cx{x:Dt}(h:x::xs=dW lo n):∃m,n=m+1/\x= .int lo/\xs=dW (lo+1) m:=by
 cases n with
 | zero=>exact nomatch h
 | succ m=>
  unfold dW at h;rw [abM,aaJ,aaM] at h;cases h;refine ⟨m,rfl,by simp, ?_⟩;unfold dW;apply abb;intro k _;show Dt.int (lo+((k+1:Nat):Int))=Dt.int (lo+1+(k:Int))
  congr 1
  omega
theorem sM{x:Dt}(h:x∈dW lo n):∃k:Nat,k < n/\x= .int (lo+k):=by unfold dW at h;obtain ⟨k,hk,rfl⟩:=aah.mp h;exact ⟨k,aba.mp hk,rfl⟩
theorem fU:(dW lo n).length=n:=by unfold dW;simp
theorem gc{n:Nat}:∀(xs:List Int),Dt.bK n (xs.map Dt.int)
 | []=>trivial
 | _::xs=>⟨trivial,gc xs⟩
theorem Kn{m:Int}:∀{l:List Int},(∀w∈l,w<=m)->l.sum<=l.length * m
 | [],_=>by simp
 | a::l,h=>by have i:=Kn (l:=l) λw hw=>h w (aac _ hw);have:=h a aae;rw [List.sum_cons,aaC,abL,Int.add_mul];omega
def qE(aR:Int)(r:Rw):Prop:=f_ r/\fE r aR=true
theorem MD{k:Str}{ds:List bH}{aR:Int}(hk:Γ k=true)(hz:1<=ds.length)(Wj:ds.length<=6)(hd:∀d∈ds,aN d.1 d.2.1 aR=true)(hs:∀d∈ds,d.2.2=[]/\0 < d.2.1.2):qE aR (.τ k ds):=by
 have fd:ag ds aR=true:=by unfold ag;rw [aaB hz,aaB Wj,abQ.mpr hd];rfl
 have ne:k≠"end"/\k≠"chance":=by refine ⟨λz=> ?_,λz=> ?_⟩ <;> (subst z;exact aaK hk (by decide))
 refine ⟨⟨ne.1,by omega,λz=>aaK z ne.2,λd h=>⟨by rw [(hs d h).1];exact ab5 _,(hs d h).2⟩⟩, ?_⟩;show (if Γ k then _ else _)=true;rw [aaw hk];exact fd
theorem Gu{ds:List bH}{aR:Int}(hz:1<=ds.length)(Wj:ds.length<=6)(hd:∀d∈ds,aN d.1 d.2.1 aR=true)(h1:∀d∈ds,d.2.2=[χ d])(hc:ai (ds.map χ)=true)(ho:Ph (ds.map χ))(hp:∀d∈ds,0 < d.2.1.2):qE aR (.τ "chance" ds):=by
 have fd:ag ds aR=true:=by unfold ag;rw [aaB hz,aaB Wj,abQ.mpr hd];rfl
 refine ⟨⟨by decide,by omega,λ_=>⟨h1,ho⟩,λd h=>⟨by rw [h1 d h];exact aai _,hp d h⟩⟩, ?_⟩;have e:fE (.τ "chance" ds) aR=(ag ds aR&&ai (ds.map χ)):=by dsimp only [fE];rw [aav (by decide),aaw rfl]
 rw [e,fd,hc];rfl
theorem Lh{aR:Int}{p:Fr}(h0:0<=t)(h1:t < aR)(hp:bq p=true):aN t p aR=true:=by unfold aN;rw [aaB h0,aaB h1,hp];rfl
theorem fX{xs:List Int}(h:j < xs.length):mw (xs.map Dt.int) (j:Int)=some (.int xs[j]):=Κ (by rw [aao,aaa h];rfl)
theorem DZ:∀{l:List Int},(∀w∈l,0 < w)->l≠[]->0 < l.sum
 | [],_,z=>aaK rfl z
 | [a],h,_=>by have:=h a List.mem_cons_self;simpa using this
 | a::b::l,h,_=>by have i:=DZ (l:=b::l) (λw hw=>h w (List.mem_cons_of_mem _ hw)) (by simp);have:=h a aae;rw [List.sum_cons];omega
def Sz(k:Nat)(p:Fr):Prop:=p.1.natAbs < 2 ^ k/\0 < p.2/\p.2.natAbs < 2 ^ k
def eI(p q:Fr):Fr:=ay (p.1 * q.2+q.1 * p.2) (p.2 * q.2)
def aJ(p q:Fr):Fr:=ay (p.1 * q.1) (p.2 * q.2)
def cT(p q:Fr):Bool:=decide (p.1 * q.2 < q.1 * p.2)
theorem qM{k k':Nat}{p:Fr}(h:Sz k p)(hk:k<=k'):Sz k' p:=
 ⟨aat h.1 (abV (by decide) hk),h.2.1,aat h.2.2 (abV (by decide) hk)⟩
theorem b7{a b k:Nat}(h:a < 2 ^ k)(h':b < 2 ^ l):a * b < 2 ^ (k+l):=by rw [Nat.pow_add];exact Nat.mul_lt_mul'' h h'
theorem D5{k:Nat}(hb:0 < b)(h1:t.natAbs < 2 ^ k)(h2:b.natAbs < 2 ^ k):Sz k (ay t b):=
 ⟨aaT (tj (by omega)) h1,cL (by omega),aaT (kJ (by omega)) h2⟩
theorem vB{p q:Fr}{k:Nat}(hp:Sz k p)(hq:Sz l q):(p.1 * q.2+q.1 * p.2).natAbs < 2 ^ (k+l+1)/\(p.2 * q.2).natAbs < 2 ^ (k+l+1)/\0 < p.2 * q.2:=by
 have a:=b7 hp.1 hq.2.2;have b:=b7 hq.1 hp.2.2;have c:=b7 hp.2.2 hq.2.2;rw [Nat.add_comm l k] at b;have e:(2:Nat) ^ (k+l+1)=2 ^ (k+l)+2 ^ (k+l):=by rw [Nat.pow_succ];omega
 have hn:=Int.natAbs_add_le (p.1 * q.2) (q.1 * p.2);rw [abd,abd] at hn;refine ⟨by rw [e];omega, ?_,aaN hp.2.1 hq.2.1⟩;rw [abd,e];omega
theorem MC{p q:Fr}{k:Nat}(hp:Sz k p)(hq:Sz l q):Sz (k+l+1) (eI p q):=
 let ⟨a,b,c⟩:=vB hp hq
 D5 c a b
theorem rf{p q:Fr}{k:Nat}(hp:Sz k p)(hq:Sz l q):(p.1 * q.1).natAbs < 2 ^ (k+l)/\(p.2 * q.2).natAbs < 2 ^ (k+l)/\0 < p.2 * q.2:=by have a:=b7 hp.1 hq.1;have c:=b7 hp.2.2 hq.2.2;exact ⟨by rw [abd];exact a,by rw [abd];exact c,aaN hp.2.1 hq.2.1⟩
theorem zk{p q:Fr}{k:Nat}(hp:Sz k p)(hq:Sz l q):Sz (k+l) (aJ p q):=
 let ⟨a,b,c⟩:=rf hp hq
 D5 c a b
theorem fG{p:Fr}{k:Nat}(h:Sz k p)(hk:k<=8000):eP p.1:=bg h.1 hk
theorem cZ{p:Fr}{k:Nat}(h:Sz k p)(hk:k<=8000):eP p.2:=bg h.2.2 hk
theorem CS{p:Fr}(h:bq p=true)(h0:0 < p.2):Sz 101 p:=by
 unfold bq at h;rw [aaq,aan,aan] at h;obtain ⟨h1,h2⟩:=h;have e1:(10:Int) ^ 30 < 2 ^ 101:=by decide
 have n1:(p.1.natAbs:Int)<=10 ^ 30:=by split at h1 <;> omega
 refine ⟨?_,h0, ?_⟩
 ·have:(p.1.natAbs:Int) < ((2 ^ 101:Nat):Int):=aaH n1 (by decide);exact abI.mp this
 ·have:(p.2.natAbs:Int) < ((2 ^ 101:Nat):Int):=aaH (show (p.2.natAbs:Int)<=1000000 by omega) (by decide);exact abI.mp this
theorem ny{p:Fr}(h:aS p=true):Sz 11 p:=by unfold aS at h;rw [aaq,aaq,aan,aan,aan] at h;obtain ⟨h1,h2,h3⟩:=h;exact ⟨by omega,by omega,by omega⟩
theorem jQ{p:Fr}{q:DQ}(h:q (.int p.1) M):cj (Ν p) (.int 0) M q:=Θ (xs:=[.int p.1, .int p.2]) rfl bo h
theorem gT{p:Fr}{q:DQ}(h:q (.int p.2) M):cj (Ν p) (.int 1) M q:=Θ (xs:=[.int p.1, .int p.2]) rfl (Κ (j:=1) rfl) h
def Ia:DF:=λas M q _=>∃p r k l,as=[Ν p,Ν r]/\Sz k p/\Sz l r/\k+l+1<=8000/\q (Ν (eI p r)) M
theorem Qa:Ζ ["one","other"] ["one","other"] (ψ KG):= .of rfl
theorem MW(F:cX K "plus" "plus" KG f fd)(E:Ev K mg w Cm)(br:ax P w K mg base 2 "fraction" ["top","bottom"] sZ ft fk):aj P w K mg base (b9 P w) 3 f fd ["one","other"] (cJ K Ia):=by
 refine F.dQ Qa (λds M q x h=> ?_) (λaY A outer s H E' hr=>⟨_,(μ (Ε (ae br hr ξ (ι (cc (av (Η (jv 0) υ) (Η (jv 1) υ)) (av (Η (jv 1) υ) (Η (jv 0) υ))) (ι (av (Η (jv 0) υ) (Η (jv 1) υ)) θ bB) bB)))),λds M q x h=> ?_⟩)
 ·obtain ⟨p,r,k,l,rfl,_⟩:=h;rfl
 ·obtain ⟨p,r,k,l,rfl,hp,ff,hk,h⟩:=h;obtain ⟨a,b,c⟩:=vB hp ff;refine ⟨⟨fG hp (by omega),cZ ff (by omega)⟩,⟨fG ff (by omega),cZ hp (by omega)⟩,⟨cZ hp (by omega),cZ ff (by omega)⟩,bg b hk,λz=>aaK z (by omega),λ_=>h⟩
def xR:DF:=λas M q _=>∃p r k l,as=[Ν p,Ν r]/\Sz k p/\Sz l r/\k+l+1<=8000/\q (Ν (aJ p r)) M
theorem M8:Ζ ["one","other"] ["one","other"] (ψ By):= .of rfl
theorem Kc(F:cX K "times" "times" By f fd)(E:Ev K mg w Cm)(br:ax P w K mg base 2 "fraction" ["top","bottom"] sZ ft fk):aj P w K mg base (b9 P w) 3 f fd ["one","other"] (cJ K xR):=by
 refine F.dQ M8 (λds M q x h=> ?_) (λaY A outer s H E' hr=>⟨_,(μ (Ε (ae br hr ξ (ι (av (Η (jv 0) υ) (Η (jv 1) υ)) (ι (av (Η (jv 0) υ) (Η (jv 1) υ)) θ bB) bB)))),λds M q x h=> ?_⟩)
 ·obtain ⟨p,r,k,l,rfl,_⟩:=h;rfl
 ·obtain ⟨p,r,k,l,rfl,hp,ff,hk,h⟩:=h;obtain ⟨a,b,c⟩:=rf hp ff;refine ⟨⟨fG hp (by omega),fG ff (by omega)⟩,⟨cZ hp (by omega),cZ ff (by omega)⟩,bg b (by omega),λz=>aaK z (by omega),λ_=>h⟩
def iH(p q:Fr):Fr:=ay (p.1 * q.2 - q.1 * p.2) (p.2 * q.2)
theorem BO{p q:Fr}{k:Nat}(hp:Sz k p)(hq:Sz l q):(p.1 * q.2 - q.1 * p.2).natAbs < 2 ^ (k+l+1)/\(p.2 * q.2).natAbs < 2 ^ (k+l+1)/\0 < p.2 * q.2:=by
 have a:=b7 hp.1 hq.2.2;have b:=b7 hq.1 hp.2.2;have c:=b7 hp.2.2 hq.2.2;rw [Nat.add_comm l k] at b;have e:(2:Nat) ^ (k+l+1)=2 ^ (k+l)+2 ^ (k+l):=by rw [Nat.pow_succ];omega
 have hn:(p.1 * q.2 - q.1 * p.2).natAbs<=(p.1 * q.2).natAbs+(q.1 * p.2).natAbs:=by omega
 rw [abd,abd] at hn;refine ⟨by rw [e];omega, ?_,aaN hp.2.1 hq.2.1⟩;rw [abd,e];omega
def JF:DF:=λas M q _=>∃p r k l,as=[Ν p,Ν r]/\Sz k p/\Sz l r/\k+l+1<=8000/\q (Ν (iH p r)) M
theorem Lq:Ζ ["one","other"] ["one","other"] (ψ BY):= .of rfl
theorem IT(F:cX K "minus" "minus" BY f fd)(E:Ev K mg w Cm)(br:ax P w K mg base 2 "fraction" ["top","bottom"] sZ ft fk):aj P w K mg base (b9 P w) 3 f fd ["one","other"] (cJ K JF):=by
 refine F.dQ Lq (λds M q x h=> ?_) (λaY A outer s H E' hr=>⟨_,(μ (Ε (ae br hr ξ (ι (zP (av (Η (jv 0) υ) (Η (jv 1) υ)) (av (Η (jv 1) υ) (Η (jv 0) υ))) (ι (av (Η (jv 0) υ) (Η (jv 1) υ)) θ bB) bB)))),λds M q x h=> ?_⟩)
 ·obtain ⟨p,r,k,l,rfl,_⟩:=h;rfl
 ·obtain ⟨p,r,k,l,rfl,hp,ff,hk,h⟩:=h;obtain ⟨a,b,c⟩:=BO hp ff;refine ⟨⟨fG hp (by omega),cZ ff (by omega)⟩,⟨fG ff (by omega),cZ hp (by omega)⟩,⟨cZ hp (by omega),cZ ff (by omega)⟩,bg b hk,λz=>aaK z (by omega),λ_=>h⟩
def lU(B:Int)(c:Fr):Int:=c.1 * (B / c.2)
structure GS(cs:List Fr):Prop where
 pos:∀c∈cs,0 < lU (bJ cs) c
 sum:(cs.map (lU (bJ cs))).sum=bJ cs
 b0:0 < bJ cs
 b1:bJ cs<=1000000
 ne:cs≠[]
 K8:Ph cs
theorem TK{cs:List Fr}(h:ai cs=true)(o:Ph cs)(n:cs≠[]):GS cs:=by
 unfold ai at h;rw [aaq,aaq,aan,aan,Bool.not_eq_true'] at h;obtain ⟨h1,h2,h3⟩:=h;have B0:0 < bJ cs:=fB cs 1 (by decide) λc hc=>(o.2 c hc).1;obtain ⟨_,_,hB⟩:=iQ cs 1 0 (by decide) (acz _) λc hc=>⟨(o.2 c hc).1,acz _⟩;refine ⟨λc hc=> ?_,h2,B0,h3,n,o⟩;have c1:0 < c.1:=by have:=List.any_eq_false.mp h1 c hc;simpa using this
 exact aaN c1 (Int.ediv_pos_of_pos_of_dvd B0 (aaj (o.2 c hc).1) (hB c hc))
def val(p:Fr):Rat:=(p.1:Rat) / (p.2:Rat)
structure Red(p:Fr):Prop where
 pos:0 < p.2
 low:Int.gcd p.1 p.2=1
theorem aG(h:b≠0):(b:Rat)≠0:=λz=>h (Rat.intCast_eq_zero_iff.mp z)
theorem NK{a c d:Int}(h:a * b=c * d):(a:Rat) * b=c * d:=by rw [<-aaO,<-aaO,h]
theorem bQ(h:b≠0):Red (ay t b):=⟨cL h,zv h⟩
theorem kH(h:b≠0):val (ay t b)=(t:Rat) / (b:Rat):=by
 have hq:=cL (t:=t) h;have hx:=NK (cG (t:=t) h);have h1:=aG h;have h2:=aG (show (ay t b).2≠0 by omega);unfold val;generalize ((ay t b).1:Rat)=x at *
 generalize ((ay t b).2:Rat)=y at *
 generalize (t:Rat)=t' at *
 generalize (b:Rat)=b' at *
 grind
theorem yr{p q:Fr}(hp:Red p)(hq:Red q)(h:val p=val q):p=q:=by
 have h1:=aG (show p.2≠0 by have:=hp.pos;omega);have h2:=aG (show q.2≠0 by have:=hq.pos;omega);have e:p.1 * q.2=p.2 * q.1:=by
  unfold val at h;have e1:(p.1:Rat) * (q.2:Rat)=(p.2:Rat) * (q.1:Rat):=by
   generalize (p.1:Rat)=a at *
   generalize (p.2:Rat)=b at *
   generalize (q.1:Rat)=c at *
   generalize (q.2:Rat)=d at *
   grind
  rw [<-aaO,<-aaO] at e1;exact Rat.intCast_inj.mp e1
 have a:=wG (show p.2≠0 by have:=hp.pos;omega) hq.pos hq.low e;have b:=vC hp.pos hp.low;rw [<-Prod.eta p,<-b,a]
theorem r8{p q:Fr}(hp:0 < p.2)(hq:0 < q.2):val (eI p q)=val p+val q:=by
 unfold eI;rw [kH (abl (aaN hp hq))];have h1:=aG (show p.2≠0 by omega);have h2:=aG (show q.2≠0 by omega);rw [Rat.intCast_add,aaO,aaO,aaO];unfold val;generalize (p.1:Rat)=a at *
 generalize (p.2:Rat)=b at *
 generalize (q.1:Rat)=c at *
 generalize (q.2:Rat)=d at *
 grind
theorem lh{p q:Fr}(hp:0 < p.2)(hq:0 < q.2):val (aJ p q)=val p * val q:=by
 unfold aJ;rw [kH (abl (aaN hp hq))];have h1:=aG (show p.2≠0 by omega);have h2:=aG (show q.2≠0 by omega);rw [aaO,aaO];unfold val;generalize (p.1:Rat)=a at *
 generalize (p.2:Rat)=b at *
 generalize (q.1:Rat)=c at *
 generalize (q.2:Rat)=d at *
 grind
def hW(p:Fr)(E:Int):Prop:=∃N,p.1 * E=N * p.2
theorem oS{N:Int}(h:b≠0)(e:t * E=N * b):hW (ay t b) E:=by
 have hx:=cG (t:=t) h;generalize hf:ay t b=f at *
 obtain ⟨x,y⟩:=f;refine ⟨N, ?_⟩;show x * E=N * y;have hx:t * y=b * x:=hx;have:b * (x * E)=b * (N * y):=by grind
 exact aaV h this
theorem zC{p:Fr}(k:Int)(h:hW p E):hW p (E * k):=by obtain ⟨N,e⟩:=h;exact ⟨N * k,by grind⟩
theorem ES(p:Fr):hW p p.2:=⟨p.1,rfl⟩
theorem Gd{p q:Fr}(hp:0 < p.2)(hq:0 < q.2)(h:hW p E)(h':hW q E):hW (eI p q) E:=by obtain ⟨N,e⟩:=h;obtain ⟨N',e'⟩:=h';unfold eI;exact oS (N:=N+N') (Int.ne_of_gt (Int.mul_pos hp hq)) (by grind)
theorem rj{p q:Fr}{F:Int}(hp:0 < p.2)(hq:0 < q.2)(h:hW p E)(h':hW q F):hW (aJ p q) (E * F):=by obtain ⟨N,e⟩:=h;obtain ⟨N',e'⟩:=h';unfold aJ;exact oS (N:=N * N') (Int.ne_of_gt (Int.mul_pos hp hq)) (by grind)
theorem x3{p:Fr}(hp:Red p)(h:hW p E):p.2∣E:=by
 obtain ⟨N,e⟩:=h;have d:p.2∣p.1 * E:=⟨N,by rw [e,aa6]⟩;have d2:p.2.natAbs∣p.1.natAbs * E.natAbs:=by rw [<-abd];exact Int.natAbs_dvd_natAbs.mpr d
 have co:Nat.Coprime p.2.natAbs p.1.natAbs:=by have:=hp.low;unfold Int.gcd at this;rw [Nat.coprime_comm];exact this
 exact Int.natAbs_dvd_natAbs.mp (co.dvd_of_dvd_mul_left d2)
def eL(p:Fr)(C:Int):Prop:=p.1<=p.2 * C/\ -(p.2 * C)<=p.1
theorem nK(h:0 < b)(h1:t<=b * C)(h2: -(b * C)<=t):eL (ay t b) C:=by
 have hx:=cG (t:=t) (show b≠0 by omega);have hq:=cL (t:=t) (show b≠0 by omega);generalize hf:ay t b=f at *
 obtain ⟨x,y⟩:=f;have hx:t * y=b * x:=hx;have hq:0 < y:=hq;constructor
 ·show x<=y * C;have:=aaL h1 (aaj hq);rw [hx] at this;have e:b * C * y=b * (y * C):=by grind
  rw [e] at this;exact acd this h
 ·show -(y * C)<=x;have:=aaL h2 (aaj hq);rw [hx] at this;have e: -(b * C) * y=b * (-(y * C)):=by grind
  rw [e] at this;exact acd this h
theorem ck{a c:Int}(h:a<=b)(hc:0<=c):a * c<=b * c:=aaL h hc
theorem Hk{p q:Fr}{D:Int}(hp:0 < p.2)(hq:0 < q.2)(h:eL p C)(h':eL q D):eL (eI p q) (C+D):=by
 unfold eI;have a:=ck h.1 (aaj hq);have b:=ck h'.1 (aaj hp);have c:=ck h.2 (aaj hq);have d:=ck h'.2 (aaj hp);refine nK (aaN hp hq) ?_ ?_
 ·have e:p.2 * q.2 * (C+D)=p.2 * C * q.2+q.2 * D * p.2:=by grind
  omega
 ·have e: -(p.2 * q.2 * (C+D))= -(p.2 * C) * q.2+ -(q.2 * D) * p.2:=by grind
  omega
def g6(c:Fr):Prop:=0<=c.1/\c.1<=c.2
theorem Fu{c p:Fr}(hc:0 < c.2)(hp:0 < p.2)(u:g6 c)(h:eL p C)(hC:0<=C):eL (aJ c p) C:=by
 unfold aJ;have pc:0<=p.2 * C:=abh (aaj hp) hC;have a:=ck h.1 u.1;have b:=ck u.2 pc;have c':=ck h.2 u.1;refine nK (aaN hc hp) ?_ ?_
 ·have e:c.2 * p.2 * C=c.2 * (p.2 * C):=by grind
  have e1:c.1 * p.1=p.1 * c.1:=aa6 ..;have e2:p.2 * C * c.1=c.1 * (p.2 * C):=aa6 ..;omega
 ·have e: -(c.2 * p.2 * C)= -(c.2 * (p.2 * C)):=by grind
  have e1:c.1 * p.1=p.1 * c.1:=aa6 ..;have e2: -(p.2 * C) * c.1= -(c.1 * (p.2 * C)):=by grind
  omega
theorem CC{c s:Fr}(hc:0 < c.2)(hs:0 < s.2)(u:g6 c)(v:g6 s):g6 (aJ c s):=by
 unfold aJ;have hx:=cG (t:=c.1 * s.1) (abl (aaN hc hs));have hq:=cL (t:=c.1 * s.1) (abl (aaN hc hs));have t0:0<=c.1 * s.1:=abh u.1 v.1
 have t1:c.1 * s.1<=c.2 * s.2:=abx (ck u.2 v.1) (by
  have:=ck v.2 (aaj hc)
  rw [aa6 c.2 s.1,aa6 c.2 s.2];exact this)
 have bp:=aaN hc hs;generalize c.1 * s.1=t at *
 generalize c.2 * s.2=b at *
 generalize hf:ay t b=f at *
 obtain ⟨x,y⟩:=f;have hx:t * y=b * x:=hx;have hq:0 < y:=hq;constructor
 ·show 0<=x;rcases ack x 0 with z | z
  ·have:=abT bp z;have:=abh t0 (aaj hq);omega
  ·exact z
 ·show x<=y;have:=ck t1 (aaj hq);rw [hx] at this;exact acd this bp
theorem Oe{p:Fr}{k m:Nat}(r:Red p)(h:hW p E)(e0:0 < E)(e1:E < 2 ^ k)(a:eL p C)(c0:0<=C)(c1:C < 2 ^ m):Sz (k+m) p:=by
 have d:=ab1 e0 (x3 r h);have rp:=r.pos;have b1:p.2.natAbs < 2 ^ k:=by
  have:(p.2.natAbs:Int) < ((2 ^ k:Nat):Int):=by rw [abj (aaj rp)];exact aaH d (by exact_mod_cast e1)
  exact abI.mp this
 have b2:C.natAbs < 2 ^ m:=by
  have:(C.natAbs:Int) < ((2 ^ m:Nat):Int):=by
   rw [abj c0]
   exact_mod_cast c1
  exact abI.mp this
 have b3:=b7 b1 b2;refine ⟨?_,rp,aat b1 (abV (by decide) (abP _ _))⟩;refine aaT ?_ b3;rw [<-abd];have q0:0<=p.2 * C:=abh (aaj rp) c0;have:=a.1;have:=a.2;omega
theorem IX{cs:List Fr}(h:j < cs.length):mw (cs.map Ν) (j:Int)=some (Ν cs[j]):=Κ (by rw [aao,aaa h];rfl)
theorem Oi{ds:List bH}(h:j < ds.length):mw (ds.map eQ) (j:Int)=some (eQ ds[j]):=Κ (by rw [aao,aaa h];rfl)
structure Mm(ε:Fr)(γ:List Rw):Prop where
 sh:aS ε=true
 len:γ.length<=12
 row:∀r∈γ,f_ r/\fE r γ.length=true
structure UH(γ:List Rw)(k:Str)(ds:List bH):Prop where
 ro:f_ (.τ k ds)
 l1:1<=ds.length
 l6:ds.length<=6
 kd:Γ k=true\/(Γ k=false/\k="chance"/\GS (ds.map χ))
 to:∀d∈ds,0<=d.1/\d.1 < γ.length
 py:∀d∈ds,bq d.2.1=true/\0 < d.2.1.2
theorem dw{ε:Fr}{γ:List Rw}{k:Str}{ds:List bH}(f:Mm ε γ)(h:Rw.τ k ds∈γ):UH γ k ds:=by
 obtain ⟨ro,h2⟩:=f.row _ h;have h2:(if Γ k then ag ds γ.length else if k="chance" then ag ds γ.length&&ai (ds.map χ) else false)=true:=h2;have key:ag ds γ.length=true/\(Γ k=true\/(Γ k=false/\k="chance"/\ai (ds.map χ)=true)):=by
  by_cases hk:Γ k=true
  ·rw [aaw hk] at h2;exact ⟨h2, .inl hk⟩
  ·rw [aav hk] at h2;by_cases hc:k="chance"
   ·rw [if_pos hc,Bool.and_eq_true] at h2;exact ⟨h2.1, .inr ⟨by simpa using hk,hc,h2.2⟩⟩
   ·rw [aav hc] at h2;cases h2
 obtain ⟨fd,hk⟩:=key;unfold ag at fd;rw [aaq,aaq,aan,aan] at fd;obtain ⟨⟨d1,d6⟩,fa⟩:=fd;have each:∀d∈ds,0<=d.1/\d.1 < γ.length/\bq d.2.1=true:=λd hd=>by have h3:=abQ.mp fa d hd;unfold aN at h3;rw [aaq,aaq,aan,aan] at h3;exact ⟨h3.1,h3.2.1,h3.2.2⟩
 refine ⟨ro,d1,d6, ?_,λd hd=>⟨(each d hd).1,(each d hd).2.1⟩,λd hd=>⟨(each d hd).2.2,(ro.2.2.2 d hd).2⟩⟩;rcases hk with hk | ⟨hk,hc,hf⟩
 ·exact .inl hk
 ·refine .inr ⟨hk,hc,TK hf (ro.2.2.1 hc).2 λz=> ?_⟩;have:=aaZ List.length z;rw [aad] at this;have:ds.length=0:=this;omega
theorem D8{α:Type}(xs:List α)(a:α)(f:α->Dt):(dW 0 xs.length).map (λx=>match x with | .int j=>f (xs.getD j.toNat a) | _=> .aU)=xs.map f:=by
 unfold dW;rw [aaM];apply abm
 ·simp
 ·intro i h1 h2;simp only [List.getElem_map,List.getElem_range,Function.comp];rw [show (0+(i:Int)).toNat=i by omega];have hi:i < xs.length:=by simpa using h2
  rw [aab,aaa hi];rfl
abbrev d0:bH:=(0,(0,1),[])
def ua(tb:List Fr)(t:Int):Fr:=tb.getD t.toNat (0,1)
def Ω(ε:Fr)(tb:List Fr)(d:bH):Fr:=eI d.2.1 (aJ ε (ua tb d.1))
def iE(ps:List (Fr×Fr)):Fr:=ps.foldl (λw p=>eI w (aJ p.1 p.2)) (0,1)
structure Nb(E C:Int)(p:Fr):Prop where
 pos:0 < p.2
 he:hW p E
 ab:eL p C
 sz:Sz 2600 p
structure Bd(E C:Int):Prop where
 e0:0 < E
 e1:E < 2 ^ 2200
 c0:0<=C
 c1:C < 2 ^ 400
theorem HQ{p:Fr}(r:Red p)(h:hW p E)(a:eL p C)(b:Bd E C):Nb E C p:=⟨r.pos,h,a,Oe (k:=2200) (m:=400) r h b.e0 b.e1 a b.c0 b.c1⟩
theorem MA{D:Int}{p q:Fr}(h:Nb E C p)(h':Nb E D q)(b:Bd E (C+D)):Nb E (C+D) (eI p q):=HQ (bQ (abl (aaN h.pos h'.pos))) (Gd h.pos h'.pos h.he h'.he) (Hk h.pos h'.pos h.ab h'.ab) b
theorem yy{F:Int}{c p:Fr}(c0:0 < c.2)(hc:hW c F)(u:g6 c)(h:Nb E C p)(b:Bd (F * E) C):Nb (F * E) C (aJ c p):=HQ (bQ (abl (aaN c0 h.pos))) (rj c0 h.pos hc h.he) (Fu c0 h.pos u h.ab b.c0) b
theorem O1{p:Fr}{D:Int}(h0:0 < p.2)(h:eL p C)(hd:C<=D):eL p D:=by have:=aar hd (aaj h0);obtain ⟨a,b⟩:=h;exact ⟨by omega,by omega⟩
theorem TH:Nb E 0 (0,1):=⟨by decide,⟨0,by simp⟩,⟨by decide,by decide⟩,qM (k:=1) ⟨by decide,by decide,by decide⟩ (by decide)⟩
theorem Jx{p:Fr}(h:aS p=true):0 < p.2/\p.2<=1000/\g6 p:=by unfold aS at h;rw [aaq,aaq,aan,aan,aan] at h;obtain ⟨h1,h2,h3⟩:=h;exact ⟨by omega,h3,h1,by omega⟩
theorem tG{p:Nat}(h:p < n):Hu n (p:Int)=some p:=by unfold Hu;rw [aaw (by omega),aaw (by omega),abA]
theorem KQ(h:Aa M d=some xs):fR M d=some xs:=by cases d <;> first | exact h | cases h
theorem JN(h:Aa M d=some xs):mS M d=some xs:=by cases d <;> first | exact h | cases h
theorem Gp(h:Aa M d=some xs):DJ M d=some (.type "list"):=by
 cases d with
 | lst ds=>rfl
 | loc k=>
  have h:(match M[k]? with | some (.lst xs)=>some xs | _=>none)=some xs:=h;show (match M[k]? with | some (.lst _)=>some (Value.type "list") | _=>none)=_;split at h
  ·rfl
  ·cases h
 | _=>cases h
theorem aW{o:MO}:(M++[o])[M.length]? =some o:=by simp
theorem k4{k:Nat}(h:M[k]? =some (MO.lst xs)):Aa M (.loc k)=some xs:=by show (match M[k]? with | some (MO.lst xs)=>some xs | _=>none)=some xs;rw [h]
theorem dZ{a c:MO}:(M++[a]).set M.length c=M++[c]:=by simp [List.set_append]
theorem O0{E:Ms}{o:MO}:(M++o::E)[M.length]? =some o:=by simp
theorem M6{E:Ms}{o c:MO}:(M++o::E).set M.length c=M++c::E:=by simp [List.set_append]
abbrev cz(l:List Int):Dt:= .lst (l.map Dt.int)
abbrev jW(ls:List (List Int)):Dt:= .lst (ls.map cz)
theorem Ee{ls:List (List Int)}(h:j < ls.length):mw (ls.map cz) (j:Int)=some (cz ls[j]):=Κ (by rw [aao,aaa h];rfl)
theorem jh{n:Nat}:∀(ls:List (List Int)),Dt.bK n (ls.map cz)
 | []=>trivial
 | l::ls=>⟨gc l,jh ls⟩
abbrev dD:=Bz.dD
theorem Aq(h:i < n):((List.replicate (n:Int).toNat [Dt.int 0]).flatten).set i (Dt.int 1)=(dD n i).map Dt.int:=by
 have e:(List.replicate (n:Int).toNat [Dt.int 0]).flatten=List.replicate n (Dt.int 0):=by
  rw [show ((n:Int)).toNat=n by omega];clear h
  induction n with
  | zero=>rfl
  | succ n ih=>rw [abk,abB,ih];rfl
 rw [e];unfold dD Bz.dD;apply abm
 ·simp
 ·intro j h1 h2;rw [List.getElem_set];simp only [List.getElem_replicate,List.getElem_map,List.getElem_range,Bz.ind];split <;> rfl
def Ot:DF:=λas M q _=>∃γ:List (List Int),as=[jW γ]/\γ.length<=12/\(∀r∈γ,r.length<=13)/\∀E,q (.loc M.length) (M++MO.lst (((List.range γ.length).map λi=>γ.getD i []++dD γ.length i).map cz)::E)
theorem dR:Ζ ["rows","told","number","row","weights"] ["rows"] (ψ jJ):= .of rfl
theorem rz(F:cX K "with_weights" "with_weights" jJ f fd)(E:Ev K mg w Cm):aj P w K mg base (b9 P w) 1 f fd ["rows"] (cJ K Ot):=by
 refine F.dQ dR (λds M q x h=> ?_) (λaY A outer s H E' hr=>⟨_,(η (Α 1 dR.nd (jO θ))
   (η (cY (wW E.eN (Ο (jv 0) θ)) (om rfl (cR (ar (i:=2) dR.nd rfl (Or.inl rfl)) (cR (ar (i:=3) dR.nd rfl (Or.inl rfl)) kR))) pq (η (Α 4 dR.nd (Cu (d8 3 (d:= .lst [.int 0]) (by rfl)) (cq E.bC (Ο (jv 0) θ))))
   (η (kB (jv 4) (jv 2) υ)
   (μ (c7 (c_ (jv 1) (ι (mY (jv 3) (jv 4)) θ bB)))))))
   (μ (Ε (jv 1))))),λds M q x h=> ?_⟩)
 ·obtain ⟨γ,rfl,_⟩:=h;rfl
 ·obtain ⟨γ,rfl,r12,r13,h⟩:=h;refine ⟨by decide, ?_⟩;refine ⟨jW γ,γ.map cz,λ_=>True,rfl,rfl, ?_⟩;refine bD (λxs ρ M'=>∃(k:Nat) (rest:List (List Int)) (E:Ms) (o1 o2 o3:Option Dt),xs=i9 k (rest.map cz)/\γ.drop k=rest/\k<=γ.length/\M'=M++MO.lst (((List.range k).map λi=>γ.getD i []++dD γ.length i).map cz)::E/\ρ=[some (jW γ),some (.loc M.length),o1,o2,o3]) (λxs ρ M' hj=>trivial) (λx xs ρ M' hj e_=> ?_) (λρ M' hj=> ?_) _ _ _ ⟨0,γ,[],none,none,none,rfl,rfl,ab5 _,rfl,rfl⟩
  ·obtain ⟨k,rest,E,o1,o2,o3,ex,hd,hk,rfl,rfl⟩:=hj;cases rest with
   | nil=>cases ex
   | cons r rest=>
    cases ex;have qo:k < γ.length:=by
     rcases Nat.lt_or_ge k γ.length with z | z
     ·exact z
     ·rw [List.drop_of_length_le z] at hd;cases hd
    have rk:γ[k]=r:=by have:=abp qo;rw [hd] at this;exact (List.cons.inj this).1.symm
    have rg:γ.getD k []=r:=by rw [aab,aaa qo,rk];rfl
    have abJ:=r13 r (by rw [<-rk];exact aaE qo);have MS:γ.drop (k+1)=rest:=by have:=abp qo;rw [hd] at this;exact (List.cons.inj this).2.symm
    dsimp only [g2];walk_at "vc";refine (aE (d:=jW γ) (xs:=γ.map cz) rfl ?_:gh [jW γ] _ _);rw [aad];refine ⟨[.int 0],γ.length,rfl,rfl,by omega,by omega, ?_, ?_⟩
    ·show 1 * ((γ.length:Int)).toNat<=sizeLine;exact aax (show _<=12 by omega) (by decide)
    generalize hM2:M++MO.lst (((List.range k).map λi=>γ.getD i []++dD γ.length i).map cz)::E=M2;refine ⟨M2.length,k,_,k,rfl,rfl,aW, ?_, ?_⟩
    ·have:((List.replicate (γ.length:Int).toNat [Dt.int 0]).flatten).length=γ.length:=by have:=aaZ List.length (Aq qo);rw [abg,aad] at this;rw [this];unfold dD Bz.dD;simp
     rw [this];exact tG qo
    rw [dZ,Aq qo];subst hM2;have eM:(M++MO.lst (((List.range k).map λi=>γ.getD i []++dD γ.length i).map cz)::E)++[MO.lst ((dD γ.length k).map Dt.int)]=M++MO.lst (((List.range k).map λi=>γ.getD i []++dD γ.length i).map cz)::(E++[MO.lst ((dD γ.length k).map Dt.int)]):=by simp
    have at3:((M++MO.lst (((List.range k).map λi=>γ.getD i []++dD γ.length i).map cz)::E)++[MO.lst ((dD γ.length k).map Dt.int)])[M.length]? =some (.lst (((List.range k).map λi=>γ.getD i []++dD γ.length i).map cz)):=by rw [eM];exact O0
    refine ⟨⟨M.length,_,rfl,at3⟩,r.map Dt.int,(dD γ.length k).map Dt.int,rfl,k4 aW, ?_,M.length,_,_,rfl,rfl,at3, ?_, ?_⟩
    ·rw [aad,aad];unfold dD Bz.dD;rw [aad,aa1];exact aax (show _<=30 by omega) (by decide)
    ·rw [aad,aad,aa1];exact aaT (show k<=12 by omega) (by decide)
    rw [eM,M6];refine e_ _ _ ⟨k+1,rest,E++[MO.lst ((dD γ.length k).map Dt.int)],_,_,_,rfl,MS,qo, ?_,rfl⟩;rw [List.range_succ,aa2,aa2];simp only [List.map_cons,List.map_nil];rw [rg,<-aa2]
  ·obtain ⟨k,rest,E,o1,o2,o3,ex,hd,hk,rfl,rfl⟩:=hj;cases rest with
   | cons r rest=>cases ex
   | nil=>
    have:k=γ.length:=by have:=aaZ List.length hd;rw [abH] at this;simp at this;omega
    subst this;exact h E
def S9:DF:=λas M q _=>∃(ls:List (List Int)) (f c:Nat),as=[jW ls, .int (f:Int), .int (c:Int)]/\f<=ls.length/\ls.length<=12/\(∀l∈ls,c < l.length)/\
 ((∀(k:Nat),f<=k->k < ls.length->(ls.getD k []).getD c 0=0)->q .aU M)/\
 (∀(k:Nat),f<=k->k < ls.length->(ls.getD k []).getD c 0≠0->q (.int (k:Int)) M)
theorem kF:Ζ ["lines","first","column","number"] ["lines","first","column"] (ψ iC):= .of rfl
theorem qh(F:cX K "number_of_head" "number_of_head" iC f fd)(E:Ev K mg w Cm):aj P w K mg base (b9 P w) 1 f fd ["lines","first","column"] (cJ K S9):=by
 refine F.dQ kF (λds M q x h=> ?_) (λaY A outer s H E' hr=>⟨_,(η (g_ (Fy E.bU (Ο (jv 1) (ι (cq E.bC (Ο (jv 0) θ)) θ aV))) (ar (i:=3) kF.nd rfl (Or.inl rfl)) aL (μ (aF (lJ hr (Η (Η (jv 0) (jv 3)) (jv 2)) υ) (μ (Ε (jv 3))) Τ)))
   (μ (Ε Gi))),λds M q x h=> ?_⟩)
 ·obtain ⟨ls,f,c,rfl,_⟩:=h;rfl
 ·obtain ⟨ls,f,c,rfl,hf,qm,hc,h1,h2⟩:=h;walk_at "vc";dsimp only [Ie];walk_at "vc";refine (aE (d:=jW ls) (xs:=ls.map cz) rfl ?_:gh [jW ls] _ _);rw [aad];refine ⟨⟨by omega,by omega,by omega,by omega⟩, ?_⟩;refine cM (λzs ρ M'=>M'=M/\∃(n k:Nat) (o:Option Dt),zs=dW k n/\f<=k/\k+n=ls.length/\(∀j,f<=j->j < k->(ls.getD j []).getD c 0=0)/\ρ=[some (jW ls),some (.int (f:Int)),some (.int (c:Int)),o]) (λx zs ρ M' hj e_=> ?_) (λρ M' hj=> ?_) _ _ _ ⟨rfl,ls.length - f,f,none, ?_,aai _,by omega,λj a b=>aaK a (by omega),rfl⟩
  ·obtain ⟨rfl,n,k,o,ex,hk,hn,hz,rfl⟩:=hj;obtain ⟨m,rfl,rfl,rfl⟩:=cx ex;have kl:k < ls.length:=by omega
   have hl:=hc _ (aaE kl);have e1:(ls.getD k []).getD c 0=(ls[k])[c]:=by rw [aab,aab,aaa kl];show ((ls[k])[c]?).getD 0=_;rw [aaa hl];rfl
   walk_at "vc";refine (Θ (d:=jW ls) rfl (Ee kl) ?_:cj (jW ls) (.int (k:Int)) _ _);refine (Θ (d:=cz ls[k]) rfl (fX hl) ?_:cj (cz ls[k]) (.int (c:Int)) _ _);refine ⟨λz=> ?_,λz=> ?_⟩
   ·have z:(!decide ((ls[k])[c]=0))=true:=z;refine h2 k hk kl ?_;rw [e1];intro y;rw [aaB y] at z;exact nomatch z
   ·have z:(!decide ((ls[k])[c]=0))=false:=z;have z0:(ls[k])[c]=0:=by
     rcases Decidable.em ((ls[k])[c]=0) with y | y
     ·exact y
     ·rw [aaI y] at z;exact nomatch z
    refine e_ _ _ ⟨rfl,m,k+1,_,by simp,by omega,by omega,λj a b=> ?_,rfl⟩;by_cases e:j=k
    ·rw [e,e1];exact z0
    ·exact hz j a (by omega)
  ·obtain ⟨rfl,n,k,o,ex,hk,hn,hz,rfl⟩:=hj;have Vi:n=0:=by have:=aaZ List.length ex;unfold dW at this;simpa using this.symm
   exact h1 λj a b=>hz j a (by omega)
  ·rw [show ((ls.length:Int) - (f:Int)).toNat=ls.length - f by omega]
abbrev kf:=Bz.kf
def Kb:DF:=λas M q _=>∃(ls:List (List Int)) (f k:Nat),as=[jW ls, .int (f:Int), .int (k:Int)]/\f<=k/\k < ls.length/\ls.length<=12/\q (jW (kf ls f k)) M
theorem xi:Ζ ["lines","first","number"] ["lines","first","number"] (ψ ki):= .of rfl
theorem uh(F:cX K "moved_ahead" "moved_ahead" ki f fd)(E:Ev K mg w Cm):aj P w K mg base (b9 P w) 1 f fd ["lines","first","number"] (cJ K Kb):=by
 refine F.dQ xi (λds M q x h=> ?_) (λaY A outer s H E' hr=>⟨_,(μ (Ε (mY (mY (mY (cN (x8 (jv 0) (jv 1))) (lH (ι (Η (jv 0) (jv 2)) θ aX))) (cN (vf (jv 0) (jv 1) (jv 2)))) (cN (pC (jv 0) (cc (jv 2) υ)))))),λds M q x h=> ?_⟩)
 ·obtain ⟨ls,f,k,rfl,_⟩:=h;rfl
 ·obtain ⟨ls,f,k,rfl,hf,hk,qm,h⟩:=h;have gk:ls.getD k []=ls[k]:=by rw [aab,aaa hk];rfl
  have sz:∀{n:Nat},n<=40->n<=sizeLine:=λh=>aax h (by decide);refine ⟨ls.map cz,f,rfl,rfl, ?_⟩;rw [<-acr];refine cW (jh _) ?_;walk_at "vc";refine (Θ (d:=jW ls) rfl (Ee hk) ?_:cj (jW ls) (.int (k:Int)) _ _);refine ⟨sz (by show 1<=40;decide),(ls.take f).map cz,[cz ls[k]],rfl,rfl,sz (by simp;omega), ?_⟩;refine ⟨f,rfl,ls.map cz,k,rfl,rfl, ?_⟩;rw [<-acs,<-acr];refine cW (jh _) ?_;refine ⟨(ls.take f).map cz++[cz ls[k]],((ls.drop f).take (k - f)).map cz,rfl,rfl,sz (by simp;omega), ?_⟩;refine ⟨ls.map cz,k+1,rfl,rfl, ?_⟩;rw [<-acs];refine cW (jh _) ?_;refine ⟨(ls.take f).map cz++[cz ls[k]]++((ls.drop f).take (k - f)).map cz,(ls.drop (k+1)).map cz,rfl,rfl,sz (by simp;omega), ?_⟩;unfold kf Bz.kf at h;rw [gk] at h;have e:(ls.take f).map cz++[cz ls[k]]++((ls.drop f).take (k - f)).map cz++(ls.drop (k+1)).map cz=(ls.take f++[ls[k]]++(ls.drop f).take (k - f)++ls.drop (k+1)).map cz:=by rw [aa2,aa2,aa2];rfl
  rw [e];exact h
abbrev dq:=Bz.dq
def Bv:DF:=λas M q _=>∃(l h:List Int) (c:Nat) (d:Int),as=[cz l,cz h, .int (c:Int), .int d]/\l.length=h.length/\h.length<=30/\c < h.length/\(∀x∈l,eP x)/\(∀x∈h,eP x)/\d≠0/\eP d/\q (cz (dq l h c d)) M
theorem lN:Ζ ["line","head","column","divisor"] ["line","head","column","divisor"] (ψ jG):= .of rfl
theorem tV(F:cX K "cleared_line" "cleared_line" jG f fd)(E:Ev K mg w Cm):aj P w K mg base (b9 P w) 1 f fd ["line","head","column","divisor"] (cJ K Bv):=by
 refine F.dQ lN (λds M q x h=> ?_) (λaY A outer s H E' hr=>⟨_,(μ (Ε (EC (ys:=["divisor","head","column","line"]) (ah:=[3,1,2,0]) (.of lN rfl rfl rfl) (BQ E.vF (Ο (jv 0) (Ο (jv 1) θ))) (λC s H fp=>(BF (zP (av (Η (jv 3) (jv 4)) (jv 0)) (av (Η (jv 5) (jv 4)) (jv 1))) (jv 2)))))),λds M q x h=> ?_⟩)
 ·obtain ⟨l,h',c,d,rfl,_⟩:=h;rfl
 ·obtain ⟨l,hd,c,d,rfl,hl,h30,hc,bl,bh,d0,bd,h⟩:=h;have cl:c < l.length:=by omega
  have g1:hd.getD c 0=hd[c]:=by rw [aab,aaa hc];rfl
  have g2':l.getD c 0=l[c]:=by rw [aab,aaa cl];rfl
  refine ⟨cz l,cz hd,l.map Dt.int,hd.map Dt.int,λ_=>True,λ_=>True,rfl,rfl,rfl, ?_⟩;have ez:qj (l.map Dt.int) (hd.map Dt.int)=(l.zip hd).map λp=> .tup [.int p.1, .int p.2]:=by unfold qj;rw [List.zip_map,aaM];rfl
  rw [ez];refine ⟨?_, ?_⟩
  ·rw [aad,abw];exact aax (show _<=30 by omega) (by decide)
  refine pw ⟨trivial,trivial⟩ (λx=>match x with | .tup [.int a, .int b]=> .int ((hd.getD c 0 * a - l.getD c 0 * b).fdiv d) | _=> .aU) _ _ (λx hx q' hq=> ?_) ?_
  ·obtain ⟨p,hp,rfl⟩:=aah.mp hx;have hq:q' (.int ((hd.getD c 0 * p.1 - l.getD c 0 * p.2).fdiv d)) M:=hq;have p1:=bl p.1 (abD hp).1;have p2:=bh p.2 (abD hp).2;rw [g1,g2'] at hq;have key:cj (cz hd) (.int (c:Int)) M (λx M1=>Ju x (.int p.1) M1 λy M2=>cj (cz l) (.int (c:Int)) M2 λz M3=>Ju z (.int p.2) M3 λu M4=>CP y u M4 λv M5=>Eu v (.int d) M5 q'):=by refine Θ (d:=cz hd) rfl (fX hc) ⟨⟨bh _ (aaE hc),p1⟩, ?_⟩;refine Θ (d:=cz l) rfl (fX cl) ⟨⟨bl _ (aaE cl),p2⟩, ?_⟩;exact ⟨⟨d0,bd⟩,hq⟩
   exact key
  ·rw [aaX,aaM];unfold dq Bz.dq at h;rw [show cz ((l.zip hd).map λp=>(hd.getD c 0 * p.1 - l.getD c 0 * p.2).fdiv d)= .lst ((l.zip hd).map λp=>Dt.int ((hd.getD c 0 * p.1 - l.getD c 0 * p.2).fdiv d)) by show Dt.lst _=_;rw [aaM];rfl] at h;exact h
theorem yN{a b:Int}(h0:0<=a)(h:a<=b):∀n:Nat,a ^ n<=b ^ n
 | 0=>by rw [Int.pow_zero,Int.pow_zero];exact Int.le_refl _
 | n+1=>by rw [abR,abR];exact abC (yN h0 h n) h h0 (abS (by omega))
theorem BH{x:Int}{r:Nat}(h:Bz.Ab x (Bz.top B r))(h1:1<=B)(hB:B<=2 ^ 450)(hr:r<=12):eP x:=by
 have e1:Bz.top B r<=(12 * B) ^ 15:=Bz.wK h1 (by omega);have e2:(12 * B) ^ 15<=(12 * 2 ^ 450) ^ 15:=yN (by omega) (by omega) 15;have e3:((12 * 2 ^ 450) ^ 15:Int) < ((2 ^ 8000:Nat):Int):=by decide
 have:(x.natAbs:Int) < ((2 ^ 8000:Nat):Int):=by obtain ⟨a,b⟩:=h;omega
 exact abI.mp this
section
variable{col:Nat}{ρ ν:List Nat}{qq:Nat->Nat}{d:Int}
theorem AG{m:Nat}(t:Bz.Turn A n col ρ ν qq d W)(b:Bz.Bd A n m B)(hB:B<=2 ^ 450)(hm:col<=m)(hr:ρ.length<=12):(∀i,i < n->∀x∈Bz.aD A n m (W i),eP x)/\eP d:=by
 obtain ⟨a1,a2,a3⟩:=t.st.abs b (λc hc=>aat (t.cl c hc) hm) hr;refine ⟨λi hi x hx=> ?_,BH a3 b.b1 hB hr⟩;unfold Bz.aD at hx;rcases aaQ.mp hx with z | z
 ·obtain ⟨y,hy,rfl⟩:=aah.mp z;exact BH (a2 i y hi (aba.mp hy)) b.b1 hB hr
 ·obtain ⟨y,hy,rfl⟩:=aah.mp z;exact BH (a1 i y hi) b.b1 hB hr
end
def nC(n:Nat):Dt:= .int n
theorem Dr{n:Nat}:∀(l:List Nat),Dt.bK n (l.map nC)
 | []=>trivial
 | _::l=>⟨trivial,Dr l⟩
theorem vH{m:Nat}{l:List Int}(h:l∈Bz.aa A n m W):∃i,i < n/\l=Bz.aD A n m (W i):=by unfold Bz.aa at h;obtain ⟨i,hi,e⟩:=aah.mp h;exact ⟨i,aba.mp hi,e.symm⟩
theorem sD{α:Type}(a:α):∀u:Nat,(List.replicate u [a]).flatten=List.replicate u a
 | 0=>rfl
 | u+1=>by rw [abk,abB,sD a u];rfl
structure Br(γ:List (List Int))(u:Nat)(B:Int):Prop where
 n1:1<=γ.length
 Bm:γ.length<=12
 Rn:u<=12
 ml:∀r∈γ,r.length=u+1
 bd:Bz.Bd (Bz.arr γ) γ.length (u+1) B
 jq:B<=2 ^ 450
def z6:DF:=λas M q _=>∃(γ:List (List Int)) (u:Nat) (B:Int),as=[jW γ, .int (u:Int)]/\Br γ u B/\
 ∀ρ ν qq d W,Bz.Turn (Bz.arr γ) γ.length u ρ ν qq d W->q (.tup [jW (Bz.aa (Bz.arr γ) γ.length (u+1) W), .loc M.length]) (M++[.lst (ν.map nC)])
theorem bf:Ζ ["rows","unknowns","lines","columns","divisor","column","rank","number","head","above","below"] ["rows","unknowns"] (ψ tU):= .of rfl
theorem Cr(F:cX K "cleared" "cleared" tU f fd)(E:Ev K mg w Cm){v9:Addr}{wk:FuncData}(iD:ax P w K mg base 1 "with_weights" ["rows"] Ot v9 wk){uk:Addr}{uI:FuncData}(gS:ax P w K mg base 1 "number_of_head" ["lines","first","column"] S9 uk uI){Aj:Addr}{zQ:FuncData}(jB:ax P w K mg base 1 "moved_ahead" ["lines","first","number"] Kb Aj zQ){yn:Addr}{xA:FuncData}(fD:ax P w K mg base 1 "cleared_line" ["line","head","column","divisor"] Bv yn xA):aj P w K mg base (b9 P w) 2 f fd ["rows","unknowns"] (cJ K z6):=by
 refine F.dQ bf (λds M q x h=> ?_) (λaY A outer s H E' hr=>⟨_,(η (Α 2 bf.nd (cN (ae iD hr ξ (Ο (jv 0) θ))))
   (η (Α 3 bf.nd (jO θ))
   (η (Α 4 bf.nd υ)
   (η (g_ (cw E.bU (Ο (jv 1) θ)) (ar (i:=5) bf.nd rfl (Or.inr rfl)) aL (η (Α 6 bf.nd (cq E.bC (Ο (jv 3) θ)))
   (η (Α 7 bf.nd (ae gS hr ξ (Ο (jv 2) (Ο (jv 6) (Ο (jv 5) θ)))))
   (η (aF (Q4 (jv 7) Gi) (μ pT) Τ)
   (η (Α 2 bf.nd (ae jB hr ξ (Ο (jv 2) (Ο (jv 6) (Ο (jv 7) θ)))))
   (η (Α 8 bf.nd (Η (jv 2) (jv 6)))
   (η (ig (i:=9) bf.nd rfl (Or.inl rfl) (ys:=["head","column","divisor"]) (ah:=[8,5,4]) (.of bf rfl rfl rfl) (bx (cN (x8 (jv 2) (jv 6)))) (λC s H fp=>(ae fD hr (ia (P:=P) (w:=w)) (Ο (jv 0) (Ο (jv 1) (Ο (jv 2) (Ο (jv 3) θ)))))))
   (η (ig (i:=10) bf.nd rfl (Or.inl rfl) (ys:=["head","column","divisor"]) (ah:=[8,5,4]) (.of bf rfl rfl rfl) (bx (cN (pC (jv 2) (cc (jv 6) υ)))) (λC s H fp=>(ae fD hr (ia (P:=P) (w:=w)) (Ο (jv 0) (Ο (jv 1) (Ο (jv 2) (Ο (jv 3) θ)))))))
   (η (Α 2 bf.nd (mY (mY (jv 9) (lH (Ο (jv 8) θ))) (jv 10)))
   (η (Α 4 bf.nd (Η (jv 8) (jv 5)))
   (μ (c7 (c_ (jv 3) (Ο (jv 5) θ))))))))))))))
   (μ (Ε (dM (Ο (jv 2) (Ο (jv 3) θ))))))))),λds M q x h=> ?_⟩)
 ·obtain ⟨γ,u,B,rfl,_⟩:=h;rfl
 ·obtain ⟨γ,u,B,rfl,ro,h⟩:=h;have n1:=ro.n1;have Bm:=ro.Bm;have Rn:=ro.Rn;refine ⟨γ,rfl,Bm,λr ff=>by rw [ro.ml r ff];omega,λE0'=> ?_⟩;rw [Bz.zS ro.ml];refine mJ (d':=jW (Bz.aa (Bz.arr γ) γ.length (u+1) λi=>Bz.ind i)) (.KL (Nat.le_refl _) (by simp) (jD.old (jh _))) ?_;generalize hA:Bz.arr γ=A at *
  generalize hn:γ.length=n at *
  refine ⟨by decide, ?_⟩;walk_at "vc";refine ⟨⟨by omega,by omega⟩, ?_⟩;refine cM (λzs ρ' M'=>∃(c k:Nat) (ρ ν:List Nat) (qq:Nat->Nat) (d:Int) (W:Nat->Bz.Row) (o1 o2 o3 o4 o5 o6:Option Dt),zs=dW k c/\k+c=u/\Bz.Turn A n k ρ ν qq d W/\M'=M++[MO.lst (ν.map nC)]/\ρ'=[some (jW γ),some (.int (u:Int)),some (jW (Bz.aa A n (u+1) W)),some (.loc M.length),some (.int d),o1,o2,o3,o4,o5,o6]) (λx zs ρ' M' hj e_=> ?_) (λρ' M' hj=> ?_) _ _ _ ⟨u,0,[],[],id,1,_,none,none,none,none,none,none,by simp,by simp,Bz.Turn.start,rfl,rfl⟩
  ·obtain ⟨c,k,ρ,ν,qq,d,W,o1,o2,o3,o4,o5,o6,ex,hkc,t,rfl,rfl⟩:=hj;obtain ⟨m,rfl,rfl,rfl⟩:=cx ex;have lc:ν.length=ρ.length:=t.st.lc;have rn:ρ.length<=n:=t.st.rn;have hs1:fR (M++[MO.lst (ν.map nC)]) (.loc M.length)=some (ν.map nC):=KQ (k4 aW);walk_at "vc";refine (aE (d:= .loc M.length) hs1 ?_:gh [.loc M.length] _ _);rw [aad,lc];refine ⟨Bz.aa A n (u+1) W,ρ.length,k,rfl,by rw [Bz.dG];exact rn,by rw [Bz.dG];exact Bm,λl hl=> ?_,λhz=> ?_,λk' h1 h2 h0=> ?_⟩
   ·obtain ⟨i,_,rfl⟩:=vH hl;rw [Bz.eV];omega
   ·refine ⟨λ_=> ?_,λz=>(nomatch z)⟩;refine e_ _ _ ⟨m,k+1,ρ,ν,qq,d,W,_,_,_,_,_,_,by simp,by omega,t.skip λi a b=> ?_,rfl,rfl⟩;have:=hz i a (by rw [Bz.dG];exact b);rw [Bz.j6 b,Bz.ij (by omega)] at this;exact this
   ·rw [Bz.dG] at h2;rw [Bz.j6 h2,Bz.ij (show k < u+1 by omega)] at h0;refine ⟨λz=>(nomatch z),λ_=> ?_⟩;refine ⟨Bz.aa A n (u+1) W,ρ.length,k',rfl,h1,by rw [Bz.dG];exact h2,by rw [Bz.dG];exact Bm, ?_⟩;rw [show kf (Bz.aa A n (u+1) W) ρ.length k'=_ from Bz.yx h1 h2];have t1:=t.move h1 h2;have RA:ρ.length < n:=by omega
    have h0':Bz.rv A n (W (Bz.je ρ.length k' ρ.length)) k≠0:=by
     have:Bz.je ρ.length k' ρ.length=k':=by unfold Bz.je;rw [if_neg (Nat.lt_irrefl _),if_pos rfl]
     rw [this];exact h0
    clear h0 h1 h2 t;generalize hW1:(λi=>W (Bz.je ρ.length k' i))=W1 at *
    generalize Sd:(λi=>qq (Bz.je ρ.length k' i))=q1 at *
    have e1:W (Bz.je ρ.length k' ρ.length)=W1 ρ.length:=by rw [<-hW1]
    rw [e1] at h0';obtain ⟨bl,bd⟩:=AG t1 (m:=u+1) (by subst hA hn;exact ro.bd) ro.jq (by omega) (by omega);obtain ⟨W',t2,el⟩:=t1.step (m:=u+1) RA (by omega) h0';have P2:(Bz.aa A n (u+1) W1).length=n:=Bz.dG;have hdg:(Bz.aa A n (u+1) W1)[ρ.length]'(by rw [P2];exact RA)=Bz.aD A n (u+1) (W1 ρ.length):=by have:=Bz.j6 (A:=A) (m:=u+1) (W:=W1) RA;rw [aab,aaa (by rw [P2];exact RA)] at this;exact this
    have clr:∀l∈Bz.aa A n (u+1) W1,∀q':DQ,q' (cz (dq l (Bz.aD A n (u+1) (W1 ρ.length)) k d)) (M++[MO.lst (ν.map nC)])->Bv [cz l,cz (Bz.aD A n (u+1) (W1 ρ.length)), .int (k:Int), .int d] (M++[MO.lst (ν.map nC)]) q' (λC fs M'=>lD [] C fs M'):=λl hl q' yw=>by obtain ⟨i,hi,rfl⟩:=vH hl;exact ⟨_,_,k,d,rfl,by rw [Bz.eV,Bz.eV],by rw [Bz.eV];omega,by rw [Bz.eV];omega,bl i hi,bl _ RA,t1.d0,bd,yw⟩
    walk_at "vc";refine (Θ (d:=jW (Bz.aa A n (u+1) W1)) rfl (Ee (by rw [P2];exact RA)) ?_:cj (jW (Bz.aa A n (u+1) W1)) (.int (ρ.length:Int)) _ _);rw [hdg];have sz:∀{z:Nat},z<=40->z<=sizeLine:=λh=>aax h (by decide);refine ⟨(Bz.aa A n (u+1) W1).map cz,ρ.length,rfl,rfl, ?_⟩;rw [<-acr];refine cW (jh _) ⟨sz (by rw [aad,ace];omega), ?_⟩;refine dE (F:=λx a=>x=cz a/\a∈Bz.aa A n (u+1) W1) (f:=λl=>cz (dq l (Bz.aD A n (u+1) (W1 ρ.length)) k d)) trivial (λx a ha q' yw=>by obtain ⟨rfl,ha⟩:=ha;exact clr a ha q' yw) (jd cz _ _ λ_ h=>List.mem_of_mem_take h) ?_;rw [aaX];refine ⟨(Bz.aa A n (u+1) W1).map cz,ρ.length+1,rfl,rfl, ?_⟩;rw [<-acs];refine cW (jh _) ⟨sz (by rw [aad,abH];omega), ?_⟩;refine dE (F:=λx a=>x=cz a/\a∈Bz.aa A n (u+1) W1) (f:=λl=>cz (dq l (Bz.aD A n (u+1) (W1 ρ.length)) k d)) trivial (λx a ha q' yw=>by obtain ⟨rfl,ha⟩:=ha;exact clr a ha q' yw) (jd cz _ _ λ_ h=>List.mem_of_mem_drop h) ?_;rw [aaX];refine ⟨by show 1<=sizeLine;decide,_,_,rfl,rfl,sz (by simp;omega),_,_,rfl,rfl,sz (by simp;omega), ?_⟩;have ek:k < (Bz.aD A n (u+1) (W1 ρ.length)).length:=by rw [Bz.eV];omega
    have ev:(Bz.aD A n (u+1) (W1 ρ.length))[k]=Bz.rv A n (W1 ρ.length) k:=by have:=Bz.ij (A:=A) (n:=n) (m:=u+1) (x:=k) (w:=W1 ρ.length) (by omega);rw [aab,aaa ek] at this;exact this
    refine Θ (d:=cz (Bz.aD A n (u+1) (W1 ρ.length))) rfl (fX ek) ?_;rw [ev];refine ⟨⟨M.length,_,rfl,aW⟩,M.length,_,_,rfl,rfl,aW, ?_, ?_⟩
    ·rw [aad,lc];exact aaT (show _<=12 by omega) (by decide)
    rw [dZ];have ee:=aaZ (List.map cz) el;rw [aa2,aa2,aaM,aaM] at ee;refine e_ _ _ ⟨m,k+1,ρ++[q1 ρ.length],ν++[k],q1,_,W',some (.int (k:Int)),some (.int (ρ.length:Int)),some (.int (k':Int)),some (cz (Bz.aD A n (u+1) (W1 ρ.length))),some (.lst (((Bz.aa A n (u+1) W1).take ρ.length).map λl=>cz (dq l (Bz.aD A n (u+1) (W1 ρ.length)) k d))),some (.lst (((Bz.aa A n (u+1) W1).drop (ρ.length+1)).map λl=>cz (dq l (Bz.aD A n (u+1) (W1 ρ.length)) k d))),by simp,by omega,t2,by simp [nC], ?_⟩;show _=[some (jW γ),some (Dt.int (u:Int)),some (Dt.lst ((Bz.aa A n (u+1) W').map cz)),some (Dt.loc M.length),some (Dt.int _),_,_,_,_,_,_];rw [<-ee];rfl
  ·obtain ⟨c,k,ρ,ν,qq,d,W,o1,o2,o3,o4,o5,o6,ex,hkc,t,rfl,rfl⟩:=hj;have Vi:c=0:=by have:=aaZ List.length ex;unfold dW at this;simpa using this.symm
   have:k=u:=by omega
   subst this;exact ⟨gV,h _ _ _ _ _ t⟩
def Ow:DF:=λas M q _=>∃(γ:List (List Int)) (u:Nat) (B:Int) (ρ ν:List Nat) (qq:Nat->Nat) (d:Int) (W:Nat->Bz.Row),as=[jW (Bz.aa (Bz.arr γ) γ.length (u+1) W), .lst (ν.map nC), .int (u:Int), .int (u:Int)]/\Br γ u B/\Bz.Turn (Bz.arr γ) γ.length u ρ ν qq d W/\ν=List.range u/\
 q (.loc M.length) (M++[.lst ((List.range u).map λi=>Ν (ay (Bz.rv (Bz.arr γ) γ.length (W i) u) d))])
theorem ir:Ζ ["lines","columns","unknowns","source","told","line","column"] ["lines","columns","unknowns","source"] (ψ mB):= .of rfl
theorem x4(F:cX K "quotients" "quotients" mB f fd)(E:Ev K mg w Cm)(br:ax P w K mg base 2 "fraction" ["top","bottom"] sZ ft fk):aj P w K mg base (b9 P w) 3 f fd ["lines","columns","unknowns","source"] (cJ K Ow):=by
 refine F.dQ ir (λds M q x h=> ?_) (λaY A outer s H E' hr=>⟨_,(η (Α 4 ir.nd (Cu (d8 3 (d:= .lst [.tup [.int 0, .int 1]]) (by rfl)) (jv 2)))
   (η (cY (BQ E.vF (Ο (jv 0) (Ο (jv 1) θ))) (om rfl (cR (ar (i:=5) ir.nd rfl (Or.inl rfl)) (cR (ar (i:=6) ir.nd rfl (Or.inl rfl)) kR))) pq (μ (kB (jv 4) (jv 6) (ae br hr ξ (ι (Η (jv 5) (jv 3)) (ι (Η (jv 5) (jv 6)) θ aX) aX)))))
   (μ (Ε (jv 4))))),λds M q x h=> ?_⟩)
 ·obtain ⟨γ,u,B,ρ,ν,qq,d,W,rfl,_⟩:=h;rfl
 ·obtain ⟨γ,u,B,ρ,ν,qq,d,W,rfl,ro,t,hc,h⟩:=h;have Rn:=ro.Rn;have Bm:=ro.Bm;have hl:ρ.length=u:=by rw [<-t.st.lc,hc,aa1]
  have un:u<=γ.length:=by rw [<-hl];exact t.st.rn
  obtain ⟨bl,bd⟩:=AG t (m:=u+1) ro.bd ro.jq (by omega) (by omega);have d0:=t.d0;have one:∀i,i < u->Bz.rv (Bz.arr γ) γ.length (W i) i=d:=λi hi=>by have:=t.st.one i i (by omega) (by omega);rw [aaw rfl,hc,aab,aaS hi] at this;exact this
  generalize hA:Bz.arr γ=A at *
  generalize hn:γ.length=n at *
  let tl:Nat->List Dt:=λk=>(List.range u).map λi=>if i < k then Ν (ay (Bz.rv A n (W i) u) d) else Ν (0,1)
  have t0:(List.replicate (u:Int).toNat [Ν (0,1)]).flatten=tl 0:=by
   show _=(List.range u).map λi=>if i < 0 then _ else Ν (0,1)
   rw [show ((u:Int)).toNat=u by omega];apply abm
   ·simp
   ·intro j h1 h2;have e:(List.replicate u [Ν (0,1)]).flatten=List.replicate u (Ν (0,1)):=sD _ u;simp [e]
  have ts:∀k,k < u->(tl k).set k (Ν (ay (Bz.rv A n (W k) u) d))=tl (k+1):=λk hk=>by
   apply abm
   ·simp [tl]
   ·intro j h1 h2;rw [List.getElem_set];simp only [tl,List.getElem_map,List.getElem_range];by_cases e:k=j
    ·subst e;rw [aaw rfl,aaw (by omega)]
    ·rw [aav e];by_cases f:j < k
     ·rw [aaw f,aaw (by omega)]
     ·rw [aav f,aav (by omega)]
  refine ⟨[Ν (0,1)],u,rfl,rfl,by omega,by omega, ?_, ?_⟩
  ·show 1 * ((u:Int)).toNat<=sizeLine;exact aax (show _<=12 by omega) (by decide)
  rw [t0];refine ⟨jW (Bz.aa A n (u+1) W), .lst (ν.map nC),_,_,λ_=>True,λ_=>True,rfl,rfl,rfl, ?_⟩;have ez:qj ((Bz.aa A n (u+1) W).map cz) (ν.map nC)=(List.range u).map λi=> .tup [cz (Bz.aD A n (u+1) (W i)),nC i]:=by
   unfold qj Bz.aa;rw [hc];apply abm
   ·simp;omega
   ·intro j h1 h2;simp
  rw [ez];refine bD (λzs ρ' M'=>∃(k:Nat) (o1 o2:Option Dt),k<=u/\zs=((List.range u).drop k).map (λi=> .tup [cz (Bz.aD A n (u+1) (W i)),nC i])/\M'=M++[MO.lst (tl k)]/\ρ'=[some (jW (Bz.aa A n (u+1) W)),some (.lst (ν.map nC)),some (.int (u:Int)),some (.int (u:Int)),some (.loc M.length),o1,o2]) (λzs ρ' M' hj=>⟨trivial,trivial⟩) (λx zs ρ' M' hj e_=> ?_) (λρ' M' hj=> ?_) _ _ _ ⟨0,none,none,ab5 _,rfl,rfl,rfl⟩
  ·obtain ⟨k,o1,o2,hk,ex,rfl,rfl⟩:=hj;have qo:k < u:=by
    rcases Nat.lt_or_ge k u with z | z
    ·exact z
    ·rw [List.drop_of_length_le (by simpa using z)] at ex;cases ex
   rw [List.drop_eq_getElem_cons (by simpa using qo),List.map_cons,List.getElem_range] at ex;cases ex;have ek:k < (Bz.aD A n (u+1) (W k)).length:=by rw [Bz.eV];omega
   have eu:u < (Bz.aD A n (u+1) (W k)).length:=by rw [Bz.eV];omega
   have v1:(Bz.aD A n (u+1) (W k))[k]=d:=by have:=Bz.ij (A:=A) (n:=n) (m:=u+1) (x:=k) (w:=W k) (by omega);rw [aab,aaa ek] at this;rw [<-one k qo];exact this
   have v2:(Bz.aD A n (u+1) (W k))[u]=Bz.rv A n (W k) u:=by have:=Bz.ij (A:=A) (n:=n) (m:=u+1) (x:=u) (w:=W k) (by omega);rw [aab,aaa eu] at this;exact this
   dsimp only [g2,tm];walk_at "vc";refine Θ (d:=cz (Bz.aD A n (u+1) (W k))) rfl (fX eu) ?_;refine Θ (d:=cz (Bz.aD A n (u+1) (W k))) rfl (fX ek) ?_;rw [v1,v2];refine ⟨bd,λz=>aaK z d0,λ_=> ?_⟩;refine ⟨M.length,k,_,k,rfl,rfl,aW, ?_, ?_⟩
   ·rw [show (tl k).length=u by simp [tl]];exact tG qo
   rw [dZ];refine e_ _ _ ⟨k+1,_,_,qo,rfl, ?_,rfl⟩;rw [<-ts k qo];rfl
  ·obtain ⟨k,o1,o2,hk,ex,rfl,rfl⟩:=hj;have:k=u:=by have:=aaZ List.length ex;simp at this;omega
   subst this;have e:tl k=(List.range k).map λi=>Ν (ay (Bz.rv A n (W i) k) d):=abb λi hi=>by rw [aaw (aba.mp hi)]
   rw [e];exact h
def wg:DF:=λas M q _=>∃(γ:List (List Int)) (u:Nat) (B:Int) (yu:List Fr) (z:Bz.Row) (N:Int),as=[jW γ]/\Br γ u B/\1<=u/\yu.length=u/\Bz.QP (Bz.arr γ) γ.length u z N/\N≠0/\
 (∀i,i < u->0 < (yu.getD i (0,1)).2/\Int.gcd (yu.getD i (0,1)).1 (yu.getD i (0,1)).2=1/\N * (yu.getD i (0,1)).1=z i * (yu.getD i (0,1)).2)/\
 (∀y:Bz.Row,(∀k,k < γ.length->Bz.Δ (λx=>Bz.arr γ k x * y x) u=0)->∀x,x < u->y x=0)/\q (.loc M.length) (M++[.lst (yu.map Ν)])
theorem eA:Ζ ["rows","unknowns","found","lines","columns","line","answer"] ["rows"] (ψ oC):= .of rfl
theorem Au(F:cX K "answer_of" "answer_of" oC f fd)(E:Ev K mg w Cm){HY:Addr}{Hw:FuncData}(oX:ax P w K mg base 2 "cleared" ["rows","unknowns"] z6 HY Hw){CT:Addr}{CY:FuncData}(j4:ax P w K mg base 3 "quotients" ["lines","columns","unknowns","source"] Ow CT CY):aj P w K mg base (b9 P w) 4 f fd ["rows"] (cJ K wg):=by
 refine F.dQ eA (λds M q x h=> ?_) (λaY A outer s H E' hr=>⟨_,(η (Α 1 eA.nd (zP (cq E.bC (ι (Η (jv 0) υ) θ aX)) υ))
   (η (Α 2 eA.nd (cN (ae oX hr ξ (Ο (jv 0) (Ο (jv 1) θ)))))
   (η (Α 3 eA.nd (Η (jv 2) υ))
   (η (Α 4 eA.nd (Η (jv 2) υ))
   (η (cY (bx (cN (pC (jv 3) (cq E.bC (Ο (jv 4) θ))))) (ar (i:=5) eA.nd rfl (Or.inl rfl)) aL (μ (aF (lJ hr (Η (jv 5) (jv 1)) υ) (μ gW) Τ)))
   (η (Α 6 eA.nd (ae j4 hr ξ (Ο (jv 3) (Ο (jv 4) (Ο (jv 1) (Ο (jv 1) θ))))))
   (η (aF (uY (cq E.bC (Ο (jv 4) θ)) (jv 1)) (μ gW) Τ)
   (μ (Ε (jv 6)))))))))),λds M q x h=> ?_⟩)
 ·obtain ⟨γ,u,B,yu,z,N,rfl,_⟩:=h;rfl
 ·obtain ⟨γ,u,B,yu,z,N,rfl,ro,u1,dl,sol,hN,W9,X1,h⟩:=h;have n1:=ro.n1;have Bm:=ro.Bm;have Rn:=ro.Rn;have r0:0 < γ.length:=by omega
  have m0:γ[0].length=u+1:=ro.ml _ (aaE r0);walk_at "vc";refine (Θ (d:=jW γ) rfl (Ee r0) ?_:cj (jW γ) (.int 0) _ _);refine (aE (d:=cz γ[0]) (xs:=γ[0].map Dt.int) rfl ?_:gh [cz γ[0]] _ _);rw [aad,m0];dsimp only [CP];rw [show (((u+1:Nat):Int) - 1)=(u:Int) by omega];refine ⟨γ,u,B,rfl,ro,λρ ν qq d W t=> ?_⟩;have D_:ν=List.range u:=by
   rcases t.all with e | ⟨x,hx,hf⟩
   ·exact e
   ·obtain ⟨y,y1,y2⟩:=t.kernel hx hf;have:=X1 y y2 x hx;rw [this] at y1;exact aaK (by omega) t.d0
  have hl:ρ.length=u:=by rw [<-t.st.lc,D_,aa1]
  have un:u<=γ.length:=by rw [<-hl];exact t.st.rn
  refine mJ (d':= .tup [jW (Bz.aa (Bz.arr γ) γ.length (u+1) W), .lst (ν.map nC)]) (.tup (.cons (.old (jh _)) (.cons (.KL (Nat.le_refl _) (by simp) (jD.old (Dr _))) .nil))) ?_;have told:(List.range u).map (λi=>Ν (ay (Bz.rv (Bz.arr γ) γ.length (W i) u) d))=yu.map Ν:=by
   apply abm
   ·simp [dl]
   ·intro i h1 h2;have hi:i < u:=by simpa using h1
    simp only [List.getElem_map,List.getElem_range];obtain ⟨p0,p1,p2⟩:=W9 i hi;have gi:yu.getD i (0,1)=yu[i]:=by rw [aab,aaa (by omega)];rfl
    rw [gi] at p0 p1 p2;have e:=t.told D_ sol hi
    congr 1
    have:ay (Bz.rv (Bz.arr γ) γ.length (W i) u) d=(yu[i].1,yu[i].2):=wG t.d0 p0 p1 (by
     refine aaV hN ?_
     grind)
    exact this
  refine (Θ (d:= .tup [jW (Bz.aa (Bz.arr γ) γ.length (u+1) W), .lst (ν.map nC)]) rfl bo ?_:cj (.tup [jW (Bz.aa (Bz.arr γ) γ.length (u+1) W), .lst (ν.map nC)]) (.int 0) _ _);refine (Θ (d:= .tup [jW (Bz.aa (Bz.arr γ) γ.length (u+1) W), .lst (ν.map nC)]) rfl (Κ (j:=1) rfl) ?_:cj (.tup [jW (Bz.aa (Bz.arr γ) γ.length (u+1) W), .lst (ν.map nC)]) (.int 1) _ _);have lcu:(ν.map nC).length=u:=by rw [aad,D_,aa1]
  dsimp only [p7,fM,UZ,Td];walk_at "vc";refine (aE (d:= .lst (ν.map nC)) (xs:=ν.map nC) rfl ?_:gh [.lst (ν.map nC)] _ _);refine ⟨(Bz.aa (Bz.arr γ) γ.length (u+1) W).map cz,(ν.map nC).length,rfl,rfl, ?_⟩;rw [lcu,<-acs];refine cW (jh _) ?_;have hz:∀l∈(Bz.aa (Bz.arr γ) γ.length (u+1) W).drop u,u < l.length/\l.getD u 0=0:=λl Y4=>by
   obtain ⟨j,hj,e⟩:=abf Y4;rw [List.getElem_drop] at e;rw [abH,Bz.dG] at hj;have hu:u+j < γ.length:=by omega
   have el:l=Bz.aD (Bz.arr γ) γ.length (u+1) (W (u+j)):=by have:=Bz.j6 (A:=Bz.arr γ) (m:=u+1) (W:=W) hu;rw [aab,aaa (by rw [Bz.dG];exact hu)] at this;rw [<-e];exact this
   rw [el];refine ⟨by rw [Bz.eV];omega, ?_⟩;rw [Bz.ij (by omega)];exact t.rest sol hN (by omega) hu
  refine bD (λzs ρ' M'=>M'=M/\∃(rest:List (List Int)) (o:Option Dt),zs=rest.map cz/\(∀l∈rest,u < l.length/\l.getD u 0=0)/\ρ'=[some (jW γ),some (.int (u:Int)),some (.tup [jW (Bz.aa (Bz.arr γ) γ.length (u+1) W), .lst (ν.map nC)]),some (jW (Bz.aa (Bz.arr γ) γ.length (u+1) W)),some (.lst (ν.map nC)),o,none]) (λzs ρ' M' hj=>trivial) (λx zs ρ' M' hj e_=> ?_) (λρ' M' hj=> ?_) _ _ _ ⟨rfl,_,none,rfl,hz,rfl⟩
  ·obtain ⟨rfl,rest,o,ex,ff,rfl⟩:=hj;cases rest with
   | nil=>cases ex
   | cons l rest=>
    cases ex;obtain ⟨l1,l2⟩:=ff l aae;have lv:l[u]=0:=by rw [aab,aaa l1] at l2;exact l2
    walk_at "vc";refine (Θ (d:=cz l) rfl (fX l1) ?_:cj (cz l) (.int (u:Int)) _ _);rw [lv];exact ⟨λz=>(nomatch z),λ_=>e_ _ _ ⟨rfl,rest,_,rfl,λy hy=>ff y (aac _ hy),rfl⟩⟩
  ·obtain ⟨rfl,rest,o,ex,ff,rfl⟩:=hj;refine ⟨γ,u,B,ρ,ν,qq,d,W,rfl,ro,t,D_, ?_⟩;rw [told];walk_at "vc";refine (aE (d:= .lst (ν.map nC)) (xs:=ν.map nC) rfl ?_:gh [.lst (ν.map nC)] _ _);rw [lcu];refine ⟨λz=> ?_,λ_=>h⟩;have z:(u:Int) < u:=aap z;omega
theorem Je(cs ns:List Fr):qj (cs.map Ν) (ns.map Ν)=(cs.zip ns).map λp=> .tup [Ν p.1,Ν p.2]:=by unfold qj;rw [List.zip_map,aaM];rfl
structure Ch(B:Int)(c:Fr):Prop where
 pos:0 < c.2
 he:hW c B
 u:g6 c
 sz:Sz 300 c
theorem rE{E B C:Int}(b0:0 < B)(e0:0 < E)(be:B * E < 2 ^ 2200)(c0:0<=C)(c1:C < 2 ^ 300):∀(ps:List (Fr×Fr)) (w:Fr) (j:Nat),j+ps.length<=6->Nb (B * E) (j * C) w->(∀p∈ps,Ch B p.1/\Nb E C p.2)->Nb (B * E) ((j+ps.length:Nat) * C) (ps.foldl (λw p=>eI w (aJ p.1 p.2)) w)
 | [],w,j,_,hw,_=>hw
 | p::ps,w,j,hj,hw,h=>by
  rw [aaC] at hj;obtain ⟨h1,h2⟩:=h p aae;have jc:((j:Int)+1) * C=j * C+C:=by rw [Int.add_mul,Int.one_mul]
  have jm:((j:Int)+1) * C<=6 * C:=aaL (by omega) c0;have j0:0<=(j:Int) * C:=abh (by omega) c0;have ht:=yy h1.pos h1.he h1.u h2 ⟨aaN b0 e0,be,c0,acm c1 (by decide)⟩;have hp:=MA hw ht ⟨aaN b0 e0,be,by omega,by omega⟩;rw [<-jc] at hp;have:=rE b0 e0 be c0 c1 ps _ (j+1) (by omega) (by exact_mod_cast hp) (λq hq=>h q (aac _ hq));rw [abv,aaC,show j+(ps.length+1)=j+1+ps.length by omega];exact this
def tD:DF:=λas M q _=>∃(cs ns:List Fr) (E B C:Int),as=[.lst (cs.map Ν), .lst (ns.map Ν)]/\cs.length<=6/\0 < B/\0 < E/\B * E < 2 ^ 2200/\0<=C/\C < 2 ^ 300/\(∀c∈cs,Ch B c)/\(∀n∈ns,Nb E C n)/\q (Ν (iE (cs.zip ns))) M
theorem i7:Ζ ["chances","numbers","whole","chance","number"] ["chances","numbers"] (ψ sQ):= .of rfl
theorem Bl(F:cX K "weighed" "weighed" sQ f fd)(E:Ev K mg w Cm){IV:Addr}{IU:FuncData}(oq:ax P w K mg base 3 "plus" ["one","other"] Ia IV IU)(gA:ax P w K mg base 3 "times" ["one","other"] xR qQ r_):aj P w K mg base (b9 P w) 4 f fd ["chances","numbers"] (cJ K tD):=by
 refine F.dQ i7 (λds M q x h=> ?_) (λaY A outer s H E' hr=>⟨_,(η (Α 2 i7.nd (dM (ι υ (ι υ θ dJ) dJ)))
   (η (cY (BQ E.vF (Ο (jv 0) (Ο (jv 1) θ))) (om rfl (cR (ar (i:=3) i7.nd rfl (Or.inl rfl)) (cR (ar (i:=4) i7.nd rfl (Or.inl rfl)) kR))) pq (μ (Α 2 i7.nd (ae oq hr ξ (Ο (jv 2) (ι (ae gA hr ξ (Ο (jv 3) (Ο (jv 4) θ))) θ aV))))))
   (μ (Ε (jv 2))))),λds M q x h=> ?_⟩)
 ·obtain ⟨cs,ns,E,B,C,rfl,_⟩:=h;rfl
 ·obtain ⟨cs,ns,Ep,B,C,rfl,hz,b0,e0,be,c0,c1,hc,hn,h⟩:=h;refine ⟨gV, ?_⟩;refine ⟨.lst (cs.map Ν), .lst (ns.map Ν),cs.map Ν,ns.map Ν,λ_=>True,λ_=>True,rfl,rfl,rfl, ?_⟩;rw [Je];refine bD (λxs ρ M'=>M'=M/\∃(rest:List (Fr×Fr)) (w:Fr) (a b:Option Dt) (j:Nat),xs=rest.map (λp=> .tup [Ν p.1,Ν p.2])/\(∀p∈rest,Ch B p.1/\Nb Ep C p.2)/\Nb (B * Ep) (j * C) w/\j+rest.length<=6/\rest.foldl (λw p=>eI w (aJ p.1 p.2)) w=iE (cs.zip ns)/\ρ=[some (.lst (cs.map Ν)),some (.lst (ns.map Ν)),some (Ν w),a,b]) (λxs ρ M' hj=>⟨trivial,trivial⟩) (λx xs ρ M' hj e_=> ?_) (λρ M' hj=> ?_) _ _ _ ⟨rfl,cs.zip ns,(0,1),none,none,0,rfl,λp hp=>⟨hc _ (abD hp).1,hn _ (abD hp).2⟩,by rw [Int.natCast_zero,Int.zero_mul];exact TH, ?_,rfl,rfl⟩
  ·obtain ⟨rfl,rest,w,a,b,j,ex,yt,hw,hj,hf,rfl⟩:=hj;cases rest with
   | nil=>cases ex
   | cons p rest=>
    cases ex;obtain ⟨h1,h2⟩:=yt p aae;rw [aaC] at hj;have ht:=yy h1.pos h1.he h1.u h2 ⟨aaN b0 e0,be,c0,acm c1 (by decide)⟩;refine ⟨p.1,p.2,300,2600,rfl,h1.sz,h2.sz,by decide,w,aJ p.1 p.2,2600,2600,rfl,hw.sz,ht.sz,by decide, ?_⟩;refine e_ _ _ ⟨rfl,rest,_,_,_,j+1,rfl,λp hp=>yt p (aac _ hp), ?_,by omega,hf,rfl⟩;exact rE b0 e0 be c0 c1 [p] w j (by simp;omega) hw (λq hq=>by rw [List.mem_singleton.mp hq];exact ⟨h1,h2⟩)
  ·obtain ⟨rfl,rest,w,a,b,j,ex,yt,hw,hj,hf,rfl⟩:=hj;cases rest with
   | nil=>rw [<-hf] at h;exact h
   | cons p rest=>cases ex
  ·rw [abw];omega
def pQ:List Int->Int
 | []=>1
 | a::l=>a * pQ l
theorem sE:∀{l:List Int},(∀a∈l,0 < a)->0 < pQ l
 | [],_=>by decide
 | a::l,h=>aaN (h a aae) (sE λb hb=>h b (aac _ hb))
theorem Dz:∀{l:List Int},(∀a∈l,0 < a/\a<=1000000)->pQ l<=1000000 ^ l.length
 | [],_=>by decide
 | a::l,h=>by have i:=Dz λb hb=>h b (aac _ hb);have p:=sE (l:=l) λb hb=>(h b (aac _ hb)).1;have h0:=h a aae;show a * pQ l<=_;rw [aaC,abR,aa6 a];exact abC i h0.2 (aaj h0.1) (abS (by decide))
theorem zJ:∀{l:List Int} {a:Int},a∈l->a∣pQ l
 | b::l,a,h=>by
  rcases aaF.mp h with e | e
  ·rw [e];exact ⟨pQ l,rfl⟩
  ·obtain ⟨c,hc⟩:=zJ e;exact ⟨b * c,by show b * pQ l=_;rw [hc];grind⟩
theorem Ah{p:Fr}(h:p.2∣E):hW p E:=by obtain ⟨k,e⟩:=h;exact ⟨p.1 * k,by rw [e];grind⟩
theorem tK:∀{l:List Int} {a:Int},(∀b∈l,0 < b)->a∈l->a<=l.sum
 | b::l,a,h,ha=>by
  have ih:∀{l:List Int},(∀b∈l,0 < b)->0<=l.sum:=λ{l}=>by
   induction l with
   | nil=>intro _;exact Int.le_refl _
   | cons c l ih=>
    intro h;have:=ih λd hd=>h d (aac _ hd);have:=h c aae;rw [List.sum_cons];omega
  rw [List.sum_cons];have h0:=h b aae;rcases aaF.mp ha with e | e
  ·have:=ih λd hd=>h d (aac _ hd);omega
  ·have:=tK (λd hd=>h d (aac _ hd)) e;omega
theorem DV{cs:List Fr}(o:GS cs){c:Fr}(hc:c∈cs):0 < c.2/\c.2∣bJ cs/\g6 c/\Sz 300 c:=by
 obtain ⟨a,b,d⟩:=o.K8.2 c hc;have B0:=o.b0;obtain ⟨_,_,hB⟩:=iQ cs 1 0 (by decide) (acz _) λc hc=>⟨(o.K8.2 c hc).1,acz _⟩;have dv:c.2∣bJ cs:=hB c hc
 have le:=tK (l:=cs.map (lU (bJ cs))) (λb hb=>by
  obtain ⟨x,hx,rfl⟩:=aah.mp hb
  exact o.pos x hx) (aah.mpr ⟨c,hc,rfl⟩)
 rw [o.sum] at le;have wp:=o.pos c hc;unfold lU at le wp;obtain ⟨m,em⟩:=dv;have em':bJ cs / c.2=m:=by rw [em];exact abt m (by omega)
 rw [em'] at le wp;have m0:0 < m:=by
  rw [em] at B0;rcases ack 0 m with z | z
  ·exact z
  ·have:=aar z (aaj a);omega
 have c0:0<=c.1:=by
  rcases ack c.1 0 with z | z
  ·have:=aaL (aaj z) (aaj m0);omega
  ·exact z
 have c1:c.1<=c.2:=by rw [em] at le;exact Int.le_of_mul_le_mul_right le m0
 refine ⟨a,⟨m,em⟩,⟨c0,c1⟩,qM (k:=200) ⟨d,a, ?_⟩ (by decide)⟩;have:(c.2.natAbs:Int) < ((2 ^ 200:Nat):Int):=by rw [abj (aaj a)];exact b
 exact abI.mp this
abbrev Pl:=List (Int×Int)
def kP(pl:Pl):List Key:=pl.map λp=>Sum.inl p.1
def vP(pl:Pl):List Dt:=pl.map λp=>Dt.int p.2
abbrev dP(pl:Pl):MO:= .eO (kP pl) (vP pl)
def Λ:Pl->Int->Option Int
 | [],_=>none
 | p::r,i=>if p.1=i then some p.2 else Λ r i
def eD(pl:Pl)(i v:Int):Pl:=if (Λ pl i).isSome=true then pl.map (λp=>if p.1=i then (p.1,v) else p) else pl++[(i,v)]
theorem Km{a:Int}:(decide ((Sum.inl a:Key)=Sum.inl b))=decide (a=b):=by
 by_cases h:a=b
 ·rw [aaB h,aaB (aaZ Sum.inl h)]
 ·rw [aaI h,aaI λz=>h (Sum.inl.inj z)]
theorem Aw{i:Int}:∀{pl:Pl},eh (kP pl) (vP pl) (Sum.inl i)=(Λ pl i).map Dt.int
 | []=>rfl
 | p::r=>by
  have ih:=Aw (i:=i) (pl:=r);unfold eh at ih⊢;show (List.find? (λq:Key×Dt=>decide (q.1=Sum.inl i)) ((Sum.inl p.1,Dt.int p.2)::(kP r).zip (vP r))).map (·.2)=Option.map Dt.int (if p.1=i then some p.2 else Λ r i);rw [List.find?_cons,Km];by_cases h:p.1=i
  ·rw [aaB h,aaw h];rfl
  ·rw [aaI h,aav h];exact ih
theorem Me{i:Int}:∀{pl:Pl},Ld (kP pl) (Sum.inl i)=(Λ pl i).isSome
 | []=>rfl
 | p::r=>by
  have ih:=Me (i:=i) (pl:=r);unfold Ld at ih⊢;show (decide ((Sum.inl p.1:Key)=Sum.inl i) || (kP r).any λc=>decide (c=Sum.inl i))=(if p.1=i then some p.2 else Λ r i).isSome;rw [Km,ih];by_cases h:p.1=i
  ·rw [aaB h,aaw h];rfl
  ·rw [aaI h,aav h,Bool.false_or]
theorem DC{i v:Int}:∀{pl:Pl},lE (Sum.inl i:Key) (Dt.int v) (kP pl) (vP pl)=vP (pl.map λp=>if p.1=i then (p.1,v) else p)
 | []=>rfl
 | p::r=>by
  show (if (Sum.inl p.1:Key)=Sum.inl i then Dt.int v else Dt.int p.2)::lE (Sum.inl i:Key) (Dt.int v) (kP r) (vP r)=Dt.int (if p.1=i then (p.1,v) else p).2::vP (r.map λp=>if p.1=i then (p.1,v) else p);rw [DC];by_cases h:p.1=i
  ·rw [aaw h,aaw (aaZ Sum.inl h)]
  ·rw [aav h,aav λz=>h (Sum.inl.inj z)]
theorem A1{i v:Int}:∀{pl:Pl},kP (pl.map λp=>if p.1=i then (p.1,v) else p)=kP pl
 | []=>rfl
 | p::r=>by show (Sum.inl (if p.1=i then (p.1,v) else p).1:Key)::kP (r.map λp=>if p.1=i then (p.1,v) else p)=Sum.inl p.1::kP r;rw [A1];split <;> rfl
theorem u7{pl:Pl}{i v:Int}:fY (kP pl) (Sum.inl i)=kP (eD pl i v):=by
 unfold fY eD;rw [Me];split
 ·exact A1.symm
 ·unfold kP;rw [List.map_append];rfl
theorem AK{pl:Pl}{i v:Int}:eW (kP pl) (Sum.inl i) (vP pl) (Dt.int v)=vP (eD pl i v):=by
 unfold eW eD;rw [Me];split
 ·exact DC
 ·unfold vP;rw [List.map_append];rfl
theorem qN{i v j:Int}:∀{pl:Pl},Λ (pl.map λp=>if p.1=i then (p.1,v) else p) j=if j=i then (Λ pl j).map λ_=>v else Λ pl j
 | []=>by split <;> rfl
 | p::r=>by
  have ih:=qN (i:=i) (v:=v) (j:=j) (pl:=r);rw [aaJ];unfold Λ;by_cases h:p.1=i
  ·rw [aaw h];by_cases hj:p.1=j
   ·rw [aaw hj,aaw hj,aaw (by omega)];rfl
   ·rw [aav hj,aav hj];exact ih
  ·rw [aav h];by_cases hj:p.1=j
   ·rw [aaw hj,aaw hj,aav (by omega)]
   ·rw [aav hj,aav hj];exact ih
theorem D4{i j v:Int}:∀{pl:Pl},Λ (pl++[(i,v)]) j=if (Λ pl j).isSome=true then Λ pl j else if i=j then some v else none
 | []=>rfl
 | p::r=>by
  have ih:=D4 (i:=i) (j:=j) (v:=v) (pl:=r);rw [List.cons_append];unfold Λ;by_cases hj:p.1=j
  ·rw [aaw hj,aaw hj];rfl
  ·rw [aav hj,aav hj];exact ih
theorem qD{pl:Pl}{i v j:Int}:Λ (eD pl i v) j=if j=i then some v else Λ pl j:=by
 unfold eD;split
 ·rename_i h;rw [qN];split
  ·rename_i e;subst e;obtain ⟨x,hx⟩:=abG.mp h;rw [hx];rfl
  ·rfl
 ·rename_i h;rw [D4];by_cases e:j=i
  ·subst e;rw [aav h,aaw rfl,aaw rfl]
  ·rw [aav e];cases hj:Λ pl j with
   | none=>rw [if_neg (by simp),if_neg (by omega)]
   | some x=>rfl
def vJ(pl:Pl):Prop:=(pl.map (·.1)).Nodup
theorem EL{i v:Int}:∀{pl:Pl},Λ pl i=some v->(i,v)∈pl
 | [],h=>by cases h
 | p::r,h=>by
  unfold Λ at h;split at h
  ·rename_i e;have:p=(i,v):=by rw [<-e,<-aaz h]
   rw [this];exact aae
  ·exact aac _ (EL h)
theorem K3{i:Int}{pl:Pl}(h:Λ pl i=none):i∉pl.map (·.1):=λz=>by
 obtain ⟨p,hp,e⟩:=aah.mp z;have:∀{pl:Pl},p∈pl->Λ pl i≠none:=λ{pl}=>by
  induction pl with
  | nil=>intro h;cases h
  | cons q r ih=>
   intro h;unfold Λ;rcases aaF.mp h with e' | e'
   ·rw [if_pos (by rw [<-e'];exact e)];simp
   ·split
    ·simp
    ·exact ih e'
 exact this hp h
theorem Ra{pl:Pl}{i v:Int}(h:vJ pl):vJ (eD pl i v):=by
 unfold vJ eD;split
 ·have e:(pl.map λp=>if p.1=i then (p.1,v) else p).map (·.1)=pl.map (·.1):=by rw [aaM];refine abb λp _=> ?_;show (if p.1=i then (p.1,v) else p).1=p.1;split <;> rfl
  rw [e];exact h
 ·rename_i hn;have hn:Λ pl i=none:=by
   cases hg:Λ pl i with
   | none=>rfl
   | some x=>rw [hg] at hn;exact aaK rfl hn
  rw [aa2];refine List.nodup_append.mpr ⟨h,by simp,λa ha b hb z=> ?_⟩;have:b=i:=by simpa using hb
  exact K3 hn (by rw [<-this,<-z];exact ha)
theorem bt{E:Ms}{k:Nat}{m:MO}(h:M[k]? =some m):(M++E)[k]? =some m:=by rw [aau (aaf.mp h).1];exact h
def dt(pl:Pl)(i:Nat)(n:Nat):Bool:=match Λ pl i with
 | some v=>decide (0<=v)&&decide (v < n)
 | none=>false
def aq(p1 p2:Pl)(k:Str):Option Pl:=if k="one" then some p1 else if k="other" then some p2 else none
def fZ(pf:Str->Option Pl)(i:Nat)(r:Rw):Bool:=match pf (kindOf r) with
 | some pl=>dt pl i (Μ r).length
 | none=>true
def cU(γ:List Rw)(pf:Str->Option Pl)(i:Nat):Bool:=match γ[i]? with
 | some r=>fZ pf i r
 | none=>true
def bV(γ:List Rw)(pf:Str->Option Pl):Nat->Pl
 | 0=>[]
 | n+1=>match (γ[n]?).bind λr=>pf (kindOf r) with
  | some pl=>eD (bV γ pf n) n ((Λ pl n).getD 0)
  | none=>bV γ pf n
theorem xw(γ:List Rw)(pf:Str->Option Pl):∀n,(bV γ pf n).length<=n
 | 0=>aai _
 | n+1=>by
  have ih:=xw γ pf n;unfold bV;split
  ·unfold eD;split
   ·rw [aad];omega
   ·rw [aag];exact Nat.succ_le_succ ih
  ·omega
theorem h7(γ:List Rw)(pf:Str->Option Pl):∀(n i:Nat),Λ (bV γ pf n) i=if i < n then ((γ[i]?).bind λr=>pf (kindOf r)).map λpl=>(Λ pl i).getD 0 else none
 | 0,i=>by rw [aav (abE _)];rfl
 | n+1,i=>by
  have ih:=h7 γ pf n i;have step:Λ (bV γ pf (n+1)) i=if i=n then (match (γ[n]?).bind λr=>pf (kindOf r) with | some pl=>some ((Λ pl n).getD 0) | none=>Λ (bV γ pf n) i) else Λ (bV γ pf n) i:=by
   rw [bV];cases hb:(γ[n]?).bind λr=>pf (kindOf r) with
   | none=>dsimp only;split <;> rfl
   | some pl=>
    dsimp only;rw [qD];by_cases e:i=n
    ·rw [aaw e,aaw (by omega)]
    ·rw [aav e,aav (by omega)]
  rw [step,ih];by_cases e:i=n
  ·subst e;rw [aaw rfl,aav (abu _),aaw (abq _)];cases (γ[i]?).bind λr=>pf (kindOf r) with
   | none=>rfl
   | some pl=>rfl
  ·rw [aav e];by_cases h:i < n
   ·rw [aaw h,aaw (by omega)]
   ·rw [aav h,aav (by omega)]
theorem GJ{p1 p2:Pl}{k:Str}(h:Γ k=false):aq p1 p2 k=none:=by unfold Γ at h;rw [Bool.or_eq_false_iff,beq_eq_false_iff_ne,beq_eq_false_iff_ne] at h;unfold aq;rw [aav h.1,aav h.2]
def RH(M:Ms)(k:Nat)(pf:Str->Option Pl):Prop:=∃ks ds,M[k]? =some (.eO ks ds)/\∀z:Str,Ld ks (Sum.inr z)=(pf z).isSome/\∀pl,pf z=some pl->∃k',eh ks ds (Sum.inr z)=some (.loc k')/\M[k']? =some (dP pl)
theorem RH.app{E:Ms}{k:Nat}{pf:Str->Option Pl}(h:RH M k pf):RH (M++E) k pf:=by obtain ⟨ks,ds,a,b⟩:=h;refine ⟨ks,ds,bt a,λz=>⟨(b z).1,λpl e=> ?_⟩⟩;obtain ⟨k',c,d⟩:=(b z).2 pl e;exact ⟨k',c,bt d⟩
def T'(A:Addr):DF:=λas M q _=>∃ε γ i r k pl,as=[ao A ε γ, .loc k, .int (i:Nat)]/\M[k]? =some (dP pl)/\γ[i]? =some r/\f_ r/\q (.bl (dt pl i (Μ r).length)) M
theorem E8:Ζ ["floor","plan","place"] ["floor","plan","place"] (ψ sX):= .of rfl
theorem CG(F:cX K "has_door" "has_door" sX f fd)(E:Ev K mg w Cm)(aO:dz P w K mg base 2 Cm "doors" ["self","place"] (tP Cm) df de):aj P w K mg base (b9 P w) 3 f fd ["floor","plan","place"] (cJ K (T' Cm)):=by
 refine F.dQ E8 (λds M q x h=> ?_) (λaY A outer s H E' hr=>⟨_,(μ (Ε (iI (Ua hr (jv 2) (jv 1)) (iI (yR υ (oy hr (jv 1) (jv 2))) (mr (IY (oy hr (jv 1) (jv 2)) (cq E.bC (ι (cN (bX aO hr ξ (jv 0) (Ο (jv 2) θ))) θ aV)))))))),λds M q x h=> ?_⟩)
 ·obtain ⟨ε,γ,i,r,k,pl,rfl,_⟩:=h;rfl
 ·obtain ⟨ε,γ,i,r,k,pl,rfl,hk,hi,ro,h⟩:=h;unfold dt at h;have gi:(Sum.inl (i:Int):Key)=Sum.inl ((i:Nat):Int):=rfl;refine ⟨k,_,_,Sum.inl (i:Int),rfl,hk,rfl, ?_⟩;rw [Me];cases hg:Λ pl i with
  | none=>
   rw [hg] at h;exact ⟨λz=>(nomatch z),λ_=>h⟩
  | some v=>
   rw [hg] at h;have h:q (.bl (decide (0<=v)&&decide (v < ((Μ r).length:Int)))) M:=h;have dg:eh (kP pl) (vP pl) (Sum.inl (i:Int))=some (.int v):=by rw [Aw,hg];rfl
   refine ⟨λ_=> ?_,λz=>(nomatch z)⟩;refine ⟨k,_,_,Sum.inl (i:Int),_,rfl,hk,rfl,dg, ?_⟩;refine ⟨λz=> ?_,λz=> ?_⟩
   ·have z:0<=v:=aap z;rw [aaB z,Bool.true_and] at h;refine ⟨k,_,_,Sum.inl (i:Int),_,rfl,hk,rfl,dg, ?_⟩;refine ⟨⟨_,_, .inl rfl,rfl⟩,ε,γ,i,r,rfl,hi,ro,cW (iq _) ?_⟩;walk_at "vc";refine (aE (d:= .lst ((Μ r).map eQ)) (xs:=(Μ r).map eQ) rfl ?_:gh [.lst ((Μ r).map eQ)] _ _);rw [aad];exact h
   ·have z:¬0<=v:=aa3 z;rw [aaI z,Bool.false_and] at h;have key:decide (0<=v)=false:=aaI z;exact h
def rY(A:Addr):DF:=λas M q _=>∃ε γ k pf,as=[ao A ε γ, .loc k]/\RH M k pf/\Mm ε γ/\(∀i,i < γ.length->cU γ pf i=true)/\q (.loc M.length) (M++[dP (bV γ pf γ.length)])
theorem lj:Ζ ["floor","plans","doors","place","hand"] ["floor","plans"] (ψ sP):= .of rfl
theorem CN(F:cX K "doors_of" "doors_of" sP f fd)(E:Ev K mg w Cm)(aZ:dz P w K mg base 1 Cm "size" ["self"] (Af Cm) d_ ef)(Υ:dz P w K mg base 1 Cm "kind" ["self","place"] (nh Cm) aQ aP){KR:Addr}{Il:FuncData}(pe:ax P w K mg base 3 "has_door" ["floor","plan","place"] (T' Cm) KR Il):aj P w K mg base (b9 P w) 4 f fd ["floor","plans"] (cJ K (rY Cm)):=by
 refine F.dQ lj (λds M q x h=> ?_) (λaY A outer s H E' hr=>⟨_,(η (Α 2 lj.nd xS)
   (η (g_ (cw E.bU (ι (k7 aZ hr ξ (jv 0)) θ aV)) (ar (i:=3) lj.nd rfl (Or.inl rfl)) aL (η (Α 4 lj.nd (bX Υ hr ξ (jv 0) (Ο (jv 3) θ)))
   (η (aF (GC hr (jv 4) (jv 1)) (μ pT) Τ)
   (η (aF (iF (b8 (ae pe hr ξ (Ο (jv 0) (ι (oy hr (jv 1) (jv 4)) (Ο (jv 3) θ) aX))))) (μ gW) Τ)
   (μ (qK hr (jv 2) (jv 3) (oy hr (oy hr (jv 1) (jv 4)) (jv 3))))))))
   (μ (Ε (jv 2))))),λds M q x h=> ?_⟩)
 ·obtain ⟨ε,γ,k,pf,rfl,_⟩:=h;rfl
 ·obtain ⟨ε,γ,k,pf,rfl,tw,pl,gd0,hg⟩:=h;have qm:=pl.len;have km:k≠M.length:=λe=>by obtain ⟨ks,ds,a,_⟩:=tw;rw [e,ab6 (aai _)] at a;cases a
  walk_at "vc";refine ⟨⟨_,_, .inl rfl,rfl⟩,ε,γ,rfl, ?_⟩;refine ⟨by omega, ?_⟩;rw [show ((γ.length:Int)).toNat=γ.length by omega];refine cM (λzs ρ' M'=>∃(i m:Nat) (o3 o4:Option Dt),zs=dW (i:Int) m/\i+m=γ.length/\M'=M++[dP (bV γ pf i)]/\ρ'=[some (ao Cm ε γ),some (.loc k),some (.loc M.length),o3,o4]) (λx zs ρ' M' hj e_=> ?_) (λρ' M' hj=> ?_) _ _ _ ⟨0,γ.length,none,none,rfl,by omega,rfl,rfl⟩
  ·obtain ⟨i,m,o3,o4,ex,im,rfl,rfl⟩:=hj;obtain ⟨m',rfl,rfl,rfl⟩:=cx ex;have il:i < γ.length:=by omega
   have hi:γ[i]? =some γ[i]:=aaa il;generalize ZX:γ[i]=r at *
   have rm:r∈γ:=aam hi;have ro:=(pl.row r rm).1;have ga:cU γ pf i=fZ pf i r:=by unfold cU;rw [hi]
   have ac:∀Am,pf (kindOf r)=some Am->bV γ pf (i+1)=eD (bV γ pf i) i ((Λ Am i).getD 0):=λAm e=>by rw [bV,hi];show (match pf (kindOf r) with | some pl=>_ | none=>_)=_;rw [e]
   have an:pf (kindOf r)=none->bV γ pf (i+1)=bV γ pf i:=λe=>by rw [bV,hi];show (match pf (kindOf r) with | some pl=>_ | none=>_)=_;rw [e]
   obtain ⟨ks,ds,ca,cb⟩:=(tw.app:RH (M++[dP (bV γ pf i)]) k pf);refine ⟨⟨_,_, .inl rfl,rfl⟩,ε,γ,i,r,rfl,hi, ?_⟩;refine ⟨k,_,_,Sum.inr (kindOf r),rfl,ca,rfl, ?_⟩;rw [(cb (kindOf r)).1];cases hh:pf (kindOf r) with
   | none=>
    refine ⟨λ_=> ?_,λz=>(nomatch z)⟩;have e:=hh;refine e_ _ _ ⟨i+1,m',_,_,by rw [abL];rfl,by omega,by rw [an e],rfl⟩
   | some Am=>
    refine ⟨λz=>(nomatch z),λ_=> ?_⟩;obtain ⟨k',g2,g4⟩:=(cb (kindOf r)).2 Am hh;have g1:=ca;have g3:=hh;refine ⟨k,ks,ds,Sum.inr (kindOf r),_,rfl,g1,rfl,g2, ?_⟩;have gr:fZ pf i r=dt Am i (Μ r).length:=by unfold fZ;rw [g3]
    refine ⟨ε,γ,i,r,k',Am,rfl,g4,hi,ro,λz=> ?_,λz=> ?_⟩
    ·have z:dt Am i (Μ r).length=false:=by simpa using z
     have:=gd0 i il;rw [ga,gr,z] at this;cases this
    ·have z:dt Am i (Μ r).length=true:=by simpa using z
     obtain ⟨v,hv⟩:∃v,Λ Am i=some v:=by
      unfold dt at z;cases hv:Λ Am i with
      | none=>rw [hv] at z;cases z
      | some v=>exact ⟨v,rfl⟩
     have dg:eh (kP Am) (vP Am) (Sum.inl (i:Int))=some (.int v):=by rw [Aw,hv];rfl
     dsimp only [yk,NV];walk_at "vc";refine ⟨k,ks,ds,Sum.inr (kindOf r),_,rfl,g1,rfl,g2, ?_⟩;refine ⟨k',_,_,Sum.inl (i:Int),_,rfl,g4,rfl,dg, ?_⟩;refine ⟨M.length,_,_,Sum.inl (i:Int),rfl,aW,rfl, ?_, ?_⟩
     ·unfold kP;rw [List.length_map];have:=xw γ pf i;omega
     rw [u7 (v:=v),AK,dZ];have e:=ac Am g3;rw [hv] at e;have e:bV γ pf (i+1)=eD (bV γ pf i) i v:=e;refine e_ _ _ ⟨i+1,m',_,_,by rw [abL];rfl,by omega,by rw [e],rfl⟩
  ·obtain ⟨i,m,o3,o4,ex,im,rfl,rfl⟩:=hj;have m0:m=0:=by have:=aaZ List.length ex;rw [fU] at this;exact this.symm
   have:i=γ.length:=by omega
   subst this;exact hg
structure fW(γ:List Rw)(Ι:Pl):Prop where
 hand:∀(i:Nat) (r:Rw),γ[i]? =some r->Γ (kindOf r)=true->∃j:Nat,Λ Ι i=some (j:Int)/\j < (Μ r).length
 JU:∀(i:Nat) (r:Rw),γ[i]? =some r->Γ (kindOf r)=false->Λ Ι i=none
theorem AI{γ:List Rw}{p1 p2:Pl}(h:∀i,i < γ.length->cU γ (aq p1 p2) i=true):fW γ (bV γ (aq p1 p2) γ.length):=by
 refine ⟨λi r hi hk=> ?_,λi r hi hk=> ?_⟩
 ·have il:=(aaf.mp hi).1;have g:=h i il;unfold cU at g;rw [hi] at g;have g:fZ (aq p1 p2) i r=true:=g;obtain ⟨pl,e⟩:∃pl,aq p1 p2 (kindOf r)=some pl:=by
   unfold Γ at hk;rw [Bool.or_eq_true,abz,abz] at hk;rcases hk with e | e <;> rw [e]
   ·exact ⟨p1,rfl⟩
   ·exact ⟨p2,rfl⟩
  unfold fZ at g;rw [e] at g;have g:dt pl i (Μ r).length=true:=g;unfold dt at g;cases hv:Λ pl i with
  | none=>rw [hv] at g;cases g
  | some v=>
   rw [hv] at g;have g:(decide (0<=v)&&decide (v < ((Μ r).length:Int)))=true:=g;rw [aaq,aan,aan] at g;refine ⟨v.toNat, ?_,by omega⟩;rw [h7,aaw il,hi];show Option.map (λpl=>(Λ pl i).getD 0) (aq p1 p2 (kindOf r))=_;rw [e];show some ((Λ pl i).getD 0)=_;rw [hv,ach g.1];rfl
 ·have il:=(aaf.mp hi).1;rw [h7,aaw il,hi];show Option.map (λpl=>(Λ pl i).getD 0) (aq p1 p2 (kindOf r))=_;rw [GJ hk];rfl
def aC(Ι:Pl)(i:Nat)(r:Rw):List bH:=match Λ Ι i with
 | some j=>let d:=(Μ r).getD j.toNat d0;[(d.1,d.2.1,d.2.2++[(1,1)])]
 | none=>Μ r
def NR(A:Addr):DF:=λas M q _=>∃ε γ i r k Ι,as=[ao A ε γ, .int (i:Nat), .loc k]/\M[k]? =some (dP Ι)/\γ[i]? =some r/\f_ r/\fW γ Ι/\q (.lst ((aC Ι i r).map eQ)) M
theorem sG:Ζ ["floor","place","doors","ways"] ["floor","place","doors"] (ψ pM):= .of rfl
theorem zz(F:cX K "ways_from" "ways_from" pM f fd)(E:Ev K mg w Cm)(aO:dz P w K mg base 2 Cm "doors" ["self","place"] (tP Cm) df de)(Υ:dz P w K mg base 1 Cm "kind" ["self","place"] (nh Cm) aQ aP):aj P w K mg base (b9 P w) 3 f fd ["floor","place","doors"] (cJ K (NR Cm)):=by
 refine F.dQ sG (λds M q x h=> ?_) (λaY A outer s H E' hr=>⟨_,(η (Α 3 sG.nd (cN (bX aO hr ξ (jv 0) (Ο (jv 1) θ))))
   (η (aF (HH (bX Υ hr ξ (jv 0) (Ο (jv 1) θ)) (KD E.xN)) (μ (Ε (lH (ι (cc (Η (jv 3) (oy hr (jv 2) (jv 1))) (d8 3 (d:= .tup [.tup [.int 1, .int 1]]) (by rfl))) θ bB)))) Τ)
   (μ (Ε (jv 3))))),λds M q x h=> ?_⟩)
 ·obtain ⟨ε,γ,i,r,k,Ι,rfl,_⟩:=h;rfl
 ·obtain ⟨ε,γ,i,r,k,Ι,rfl,hk,hi,ro,dk,h⟩:=h;refine ⟨⟨_,_, .inl rfl,rfl⟩,ε,γ,i,r,rfl,hi,ro,cW (iq _) ?_⟩;refine ⟨⟨_,_, .inl rfl,rfl⟩,ε,γ,i,r,rfl,hi, ?_⟩;refine ⟨_,_,_,rfl,rfl,rfl, ?_⟩;rw [qR];cases hh:Γ (kindOf r) with
  | true=>
   refine ⟨λ_=> ?_,λz=>(nomatch z)⟩;obtain ⟨j,hj,jl⟩:=dk.hand i r hi hh;have dg:eh (kP Ι) (vP Ι) (Sum.inl (i:Int))=some (.int (j:Int)):=by rw [Aw,hj];rfl
   have e:aC Ι i r=[(((Μ r).getD j d0).1,((Μ r).getD j d0).2.1,((Μ r).getD j d0).2.2++[(1,1)])]:=by unfold aC;rw [hj];rfl
   rw [e] at h;have gd:(Μ r).getD j d0=(Μ r)[j]:=by rw [aab,aaa jl];rfl
   have dm:(Μ r)[j].2.2.length<=1:=by
    cases r with
    | fin p=>exact aaK jl (abE _)
    | τ k' ds=>exact (ro.2.2.2 _ (aaE jl)).1
   rw [gd] at h;obtain ⟨d,hd⟩:∃d,d=(Μ r)[j]:=⟨_,rfl⟩;rw [<-hd] at h dm;walk_at "vc";refine ⟨k,_,_,Sum.inl (i:Int),_,rfl,hk,rfl,dg, ?_⟩;refine (Θ (d:= .lst ((Μ r).map eQ)) rfl (Oi jl) ?_:cj (.lst ((Μ r).map eQ)) (.int (j:Int)) _ _);rw [<-hd];have sz:∀{z:Nat},z<=1000->z<=sizeLine:=λh=>aax h (by decide);refine ⟨⟨λz=>(nomatch z),sz ?_⟩,sz (by decide), ?_⟩
   ·simp;omega
   have e2:eQ (d.1,d.2.1,d.2.2++[(1,1)])= .tup ((.int d.1::Ν d.2.1::d.2.2.map Ν)++[.tup [.int 1, .int 1]]):=by unfold eQ;rw [List.map_append];rfl
   have h:q (.lst [eQ (d.1,d.2.1,d.2.2++[(1,1)])]) M:=h;rw [e2] at h;exact h
  | false=>
   refine ⟨λz=>(nomatch z),λ_=> ?_⟩;have e:aC Ι i r=Μ r:=by unfold aC;rw [dk.JU i r hi hh]
   rw [e] at h;exact h
def dN(f:Nat->Rat):Nat->Rat
 | 0=>0
 | n+1=>dN f n+f n
def aw(f:bH->Rat):List bH->Rat
 | []=>0
 | d::ds=>f d+aw f ds
theorem eF{f g:Nat->Rat}:∀{n:Nat},(∀i,i < n->f i=g i)->dN f n=dN g n
 | 0,_=>rfl
 | n+1,h=>by show dN f n+f n=dN g n+g n;rw [eF λi hi=>h i (abW hi),h n (abq _)]
theorem tF(a b:Rat)(f g:Nat->Rat):∀n,dN (λi=>a * f i - b * g i) n=a * dN f n - b * dN g n
 | 0=>by show (0:Rat)=a * 0 - b * 0;grind
 | n+1=>by show dN (λi=>a * f i - b * g i) n+(a * f n - b * g n)=a * (dN f n+f n) - b * (dN g n+g n);rw [tF a b f g n];grind
theorem zx{t:Nat}(y:Nat->Rat):∀{n:Nat},n<=t->dN (λx=>(if x=t then 1 else 0) * y x) n=0
 | 0,_=>rfl
 | n+1,h=>by show dN (λx=>(if x=t then 1 else 0) * y x) n+(if n=t then 1 else 0) * y n=0;rw [zx y (by omega),if_neg (by omega)];grind
theorem sJ{t:Nat}(y:Nat->Rat):∀{n:Nat},t < n->dN (λx=>(if x=t then 1 else 0) * y x) n=y t
 | 0,h=>aaK h (abE _)
 | n+1,h=>by
  show dN (λx=>(if x=t then 1 else 0) * y x) n+(if n=t then 1 else 0) * y n=y t;by_cases e:n=t
  ·subst e;rw [zx y (Nat.le_refl _),if_pos rfl];grind
  ·rw [sJ y (by omega),if_neg e];grind
theorem oK(f:Nat->Int):∀n,((Bz.Δ f n:Int):Rat)=dN (λi=>(f i:Rat)) n
 | 0=>rfl
 | n+1=>by show ((Bz.Δ f n+f n:Int):Rat)=dN (λi=>(f i:Rat)) n+f n;rw [Rat.intCast_add,oK f n]
def ab(q:Rat):Rat:=if q < 0 then -q else q
theorem lO{x m:Rat}:ab x<=m↔ -m<=x/\x<=m:=by unfold ab;split <;> grind
theorem Qh(x:Rat):0<=ab x:=by unfold ab;split <;> grind
theorem Ka(x:Nat->Rat):∀n,∃i,i < n+1/\∀j,j < n+1->ab (x j)<=ab (x i)
 | 0=>⟨0,by omega,λj hj=>by rw [show j=0 by omega];grind⟩
 | n+1=>by
  obtain ⟨i,hi,h⟩:=Ka x n;by_cases c:ab (x i)<=ab (x (n+1))
  ·refine ⟨n+1,by omega,λj hj=> ?_⟩;by_cases e:j=n+1
   ·subst e;grind
   ·have:=h j (by omega);grind
  ·refine ⟨i,by omega,λj hj=> ?_⟩;by_cases e:j=n+1
   ·subst e;grind
   ·exact h j (by omega)
theorem K4{x:Nat->Rat}{s c:Rat}(s1:s < 1)(h:∀i,i < n->∀m,(∀j,j < n->ab (x j)<=m)->ab (x i)<=c+s * m):∀i,i < n->ab (x i) * (1 - s)<=c:=λi hi=>by obtain ⟨k,rfl⟩:∃k,n=k+1:=⟨n - 1,by omega⟩;obtain ⟨t,ht,NT⟩:=Ka x k;have h1:=h t ht _ NT;have h2:=NT i hi;have:=Rat.mul_le_mul_of_nonneg_right h2 (show 0<=1 - s by grind);grind
theorem mF{f g:bH->Rat}:∀{ds:List bH},(∀d∈ds,f d=g d)->aw f ds=aw g ds
 | [],_=>rfl
 | d::ds,h=>by show f d+aw f ds=g d+aw g ds;rw [h d aae,mF λx hx=>h x (aac _ hx)]
theorem sV(f g:bH->Rat):∀ds:List bH,aw (λd=>f d - g d) ds=aw f ds - aw g ds
 | []=>by show (0:Rat)=0 - 0;grind
 | d::ds=>by show (f d - g d)+aw (λd=>f d - g d) ds=(f d+aw f ds) - (g d+aw g ds);rw [sV f g ds];grind
abbrev cV(d:bH):Rat:=val (χ d)
structure Bc(n:Nat)(Φ:List bH):Prop where
 to:∀d∈Φ,0<=d.1/\d.1 < n
 c0:∀d∈Φ,0<=cV d
 one:aw cV Φ<=1
theorem Es{n:Nat}{y:Nat->Rat}{m:Rat}(hm:∀j,j < n->ab (y j)<=m):∀{Φ:List bH},(∀d∈Φ,0<=d.1/\d.1 < n)->(∀d∈Φ,0<=cV d)->ab (aw (λd=>cV d * y d.1.toNat) Φ)<=aw cV Φ * m
 | [],_,_=>by show ab 0<=0 * m;unfold ab;rw [if_neg (by grind)];grind
 | d::Φ,h1,h2=>by have i:=Es hm (λx hx=>h1 x (aac _ hx)) (λx hx=>h2 x (aac _ hx));obtain ⟨a,b⟩:=h1 d aae;have c:=h2 d aae;have y1:=lO.mp (hm d.1.toNat (by omega));show ab (cV d * y d.1.toNat+aw (λd=>cV d * y d.1.toNat) Φ)<=(cV d+aw cV Φ) * m;have e1:=aaW y1.1 c;have e2:=aaW y1.2 c;have i:=lO.mp i;refine lO.mpr ⟨?_, ?_⟩ <;> grind
theorem DP{Φ:List bH}(w:Bc n Φ)(n0:0 < n){y:Nat->Rat}{m:Rat}(hm:∀j,j < n->ab (y j)<=m):ab (aw (λd=>cV d * y d.1.toNat) Φ)<=m:=by
 have:=Es hm w.to w.c0;have m0:0<=m:=by have:=hm 0 n0;have:=Qh (y 0);grind
 have:=abF w.one m0;grind
theorem IF{c:Fr}(h:0 < c.2)(hd:c.2∣B):((lU B c:Int):Rat)=val c * B:=by
 obtain ⟨k,rfl⟩:=hd;unfold lU val;rw [abt _ (by omega),aaO,aaO];have:=aG (show c.2≠0 by omega);generalize (c.1:Rat)=a at *
 generalize (c.2:Rat)=b at *
 generalize (k:Rat)=e at *
 grind
theorem Iy{B:Int}:∀{ds:List bH},(∀d∈ds,0 < (χ d).2/\(χ d).2∣B)->((((ds.map χ).map (lU B)).sum:Int):Rat)=aw cV ds * B
 | [],_=>by show ((0:Int):Rat)=0 * B;grind
 | d::ds,h=>by have i:=Iy (ds:=ds) λx hx=>h x (aac _ hx);obtain ⟨a,b⟩:=h d aae;show (((lU B (χ d)+((ds.map χ).map (lU B)).sum:Int)):Rat)=(cV d+aw cV ds) * B;rw [Rat.intCast_add,i,IF a b];grind
theorem qZ{c:Fr}(h:0 < c.2)(h0:0<=c.1):0<=val c:=by
 have e:val c * (c.2:Rat)=c.1:=by
  have:=aG (show c.2≠0 by omega);unfold val;generalize (c.1:Rat)=x at *
  generalize (c.2:Rat)=y at *
  grind
 have p:(0:Rat) < (c.2:Rat):=aby.mpr h;have q:(0:Rat)<=(c.1:Rat):=abc.mpr h0;by_cases z:0<=val c
 ·exact z
 ·have:=Rat.mul_pos (show 0 < -val c by grind) p;grind
theorem MQ{ds:List bH}(o:GS (ds.map χ)):aw cV ds=1/\∀d∈ds,0<=cV d:=by
 obtain ⟨_,_,hB⟩:=iQ (ds.map χ) 1 0 (by decide) (acz _) λc hc=>⟨(o.K8.2 c hc).1,acz _⟩;have hm:∀d∈ds,χ d∈ds.map χ:=λd hd=>aah.mpr ⟨d,hd,rfl⟩;have e:=Iy (B:=bJ (ds.map χ)) (ds:=ds) λd hd=>⟨(o.K8.2 _ (hm d hd)).1,hB _ (hm d hd)⟩;rw [o.sum] at e;have b0:=aG (show bJ (ds.map χ)≠0 by have:=o.b0;omega);refine ⟨?_,λd hd=> ?_⟩
 ·generalize ((bJ (ds.map χ):Int):Rat)=b at *
  grind
 ·refine qZ (o.K8.2 _ (hm d hd)).1 ?_;have p:=o.pos _ (hm d hd);unfold lU at p;have q0:0<=bJ (ds.map χ) / (χ d).2:=Int.ediv_nonneg (aaj o.b0) (aaj (o.K8.2 _ (hm d hd)).1);rcases ack (χ d).1 0 with z | z
  ·have:=Int.mul_nonpos_of_nonpos_of_nonneg (aaj z) q0;omega
  ·exact z
theorem Gv{p q:Fr}(hp:0 < p.2)(hq:0 < q.2):val (iH p q)=val p - val q:=by
 unfold iH;rw [kH (abl (aaN hp hq))];have h1:=aG (show p.2≠0 by omega);have h2:=aG (show q.2≠0 by omega);rw [Rat.intCast_sub,aaO,aaO,aaO];unfold val;generalize (p.1:Rat)=a at *
 generalize (p.2:Rat)=b at *
 generalize (q.1:Rat)=c at *
 generalize (q.2:Rat)=d at *
 grind
theorem B6{p q:Fr}(hp:0 < p.2)(hq:0 < q.2)(h:hW p E)(h':hW q E):hW (iH p q) E:=by obtain ⟨N,e⟩:=h;obtain ⟨N',e'⟩:=h';unfold iH;exact oS (N:=N - N') (Int.ne_of_gt (Int.mul_pos hp hq)) (by grind)
theorem ER{p q:Fr}{D:Int}(hp:0 < p.2)(hq:0 < q.2)(h:eL p C)(h':eL q D):eL (iH p q) (C+D):=by
 unfold iH;have a:=ck h.1 (aaj hq);have b:=ck h'.1 (aaj hp);have c:=ck h.2 (aaj hq);have d:=ck h'.2 (aaj hp);refine nK (aaN hp hq) ?_ ?_
 ·have e:p.2 * q.2 * (C+D)=p.2 * C * q.2+q.2 * D * p.2:=by grind
  have e2: -(q.2 * D) * p.2= -(q.2 * D * p.2):=by grind
  omega
 ·have e: -(p.2 * q.2 * (C+D))= -(p.2 * C) * q.2+ -(q.2 * D * p.2):=by grind
  omega
structure Nr(E C:Int)(p:Fr):Prop where
 red:Red p
 he:hW p E
 ab:eL p C
structure mv(n:Nat)(E C:Int)(v:Nat->Rat)(ns:List Fr):Prop where
 len:ns.length=n
 nr:∀x,x < n->Nr E C (ns.getD x (0,1))
 val:∀x,x < n->val (ns.getD x (0,1))=v x
def tI(ε:Fr)(ns:List Fr)(d:bH):List Fr:=ns.set d.1.toNat (iH (ns.getD d.1.toNat (0,1)) (aJ ε (χ d)))
def gL(ε:Fr)(n i:Nat)(Φ:List bH):List Fr:=Φ.foldl (tI ε) ((List.replicate n ((0,1):Fr)).set i (1,1))
theorem Xw(c:0<=C):Nr E C (0,1):=⟨⟨by decide,by decide⟩,⟨0,by simp⟩,⟨by show (0:Int)<=1 * C;omega,by show -(1 * C)<=(0:Int);omega⟩⟩
theorem YV:Nr E 1 (1,1):=⟨⟨by decide,by decide⟩,⟨E,by simp⟩,⟨by decide,by decide⟩⟩
theorem yP{ns:List Fr}{t x:Nat}{a:Fr}(h:t < ns.length):(ns.set t a).getD x (0,1)=if x=t then a else ns.getD x (0,1):=by
 rw [aab,List.getElem?_set];by_cases e:x=t
 ·subst e;rw [aaw rfl,aaw h,aaw rfl];rfl
 ·rw [aav (Ne.symm e),aav e,<-aab]
theorem Jl(hi:i < n):mv n E 1 (λx=>if x=i then 1 else 0) ((List.replicate n ((0,1):Fr)).set i (1,1)):=by
 have g:∀x,((List.replicate n ((0,1):Fr)).set i (1,1)).getD x (0,1)=if x=i then (1,1) else (0,1):=λx=>by
  rw [yP (by simpa using hi)]
  congr 1
  rw [aab,abX];split <;> rfl
 refine ⟨by simp,λx _=> ?_,λx _=> ?_⟩
 ·rw [g];split
  ·exact YV
  ·exact Xw (by decide)
 ·rw [g];show Pg.val (if x=i then (1,1) else (0,1))=if x=i then 1 else 0
  unfold Pg.val;split
  ·show ((1:Int):Rat) / ((1:Int):Rat)=1;grind
  ·show ((0:Int):Rat) / ((1:Int):Rat)=0;grind
structure RF(ε:Fr)(E:Int)(d:bH):Prop where
 s0:0 < ε.2
 su:g6 ε
 c0:0 < (χ d).2
 cu:g6 (χ d)
 he:hW (aJ ε (χ d)) E
theorem RF.nr{ε:Fr}{d:bH}(h:RF ε E d):Nr E 1 (aJ ε (χ d)):=by have p:=aaN h.s0 h.c0;have u:=CC h.s0 h.c0 h.su h.cu;have r:Red (aJ ε (χ d)):=bQ (abl p);have rp:=r.pos;obtain ⟨u1,u2⟩:=u;exact ⟨r,h.he,⟨by omega,by omega⟩⟩
theorem Ap{ε:Fr}{v:Nat->Rat}{ns:List Fr}{d:bH}(h:mv n E C v ns)(c:0<=C)(hd:0<=d.1/\d.1 < n)(sc:RF ε E d):mv n E (C+1) (λx=>v x - Pg.val ε * ((if d.1.toNat=x then 1 else 0) * cV d)) (tI ε ns d):=by
 have ht:d.1.toNat < ns.length:=by rw [h.len];omega
 have k:=sc.nr;have g:=λx=>yP (x:=x) (a:=iH (ns.getD d.1.toNat (0,1)) (aJ ε (χ d))) ht;refine ⟨by unfold tI;rw [List.length_set];exact h.len,λx hx=> ?_,λx hx=> ?_⟩
 ·unfold tI;rw [g];have a:=h.nr x hx;split
  ·rename_i e;rw [<-e];have p:=aaN a.red.pos k.red.pos;exact ⟨bQ (abl p),B6 a.red.pos k.red.pos a.he k.he,ER a.red.pos k.red.pos a.ab k.ab⟩
  ·have:=aar (show C<=C+1 by omega) (aaj a.red.pos);exact ⟨a.red,a.he,⟨abx a.ab.1 this,by have:=a.ab.2;omega⟩⟩
 ·unfold tI;rw [g];have a:=h.nr x hx;have b:=h.val x hx;split
  ·rename_i e;rw [<-e,Gv a.red.pos k.red.pos,b,lh sc.s0 sc.c0,if_pos rfl];grind
  ·rename_i e;rw [b,if_neg (Ne.symm e)];grind
theorem vS{n:Nat}{ε:Fr}{E:Int}:∀{Φ:List bH} {ns:List Fr} {v:Nat->Rat} {C:Int},(∀d∈Φ,(0<=d.1/\d.1 < n)/\RF ε E d)->0<=C->mv n E C v ns->mv n E (C+Φ.length) (λx=>v x - Pg.val ε * aw (λd=>(if d.1.toNat=x then 1 else 0) * cV d) Φ) (Φ.foldl (tI ε) ns)
 | [],ns,v,C,_,_,h=>by
  refine ⟨h.len,λx hx=> ?_,λx hx=> ?_⟩
  ·rw [List.length_nil,Int.natCast_zero,Int.add_zero];exact h.nr x hx
  ·show _=v x - Pg.val ε * 0;rw [show v x - Pg.val ε * 0=v x by grind];exact h.val x hx
 | d::Φ,ns,v,C,hw,c,h=>by obtain ⟨h1,h2⟩:=hw d aae;have i:=vS (Φ:=Φ) (λx hx=>hw x (aac _ hx)) (by omega) (Ap h c h1 h2);rw [abv,aaC,show C+((Φ.length+1:Nat):Int)=C+1+Φ.length by omega];refine ⟨i.len,i.nr,λx hx=> ?_⟩;rw [i.val x hx];show v x - Pg.val ε * ((if d.1.toNat=x then 1 else 0) * cV d) - Pg.val ε * aw (λd=>(if d.1.toNat=x then 1 else 0) * cV d) Φ=v x - Pg.val ε * ((if d.1.toNat=x then 1 else 0) * cV d+aw (λd=>(if d.1.toNat=x then 1 else 0) * cV d) Φ);grind
def vW(s:Rat)(i:Nat)(Φ:List bH)(x:Nat):Rat:=(if x=i then 1 else 0) - s * aw (λd=>(if d.1.toNat=x then 1 else 0) * cV d) Φ
theorem LR{ε:Fr}{Φ:List bH}(hi:i < n)(hw:∀d∈Φ,(0<=d.1/\d.1 < n)/\RF ε E d):mv n E (1+Φ.length) (vW (Pg.val ε) i Φ) (gL ε n i Φ):=vS hw (by decide) (Jl hi)
theorem Hl{n i:Nat}{s:Rat}(hi:i < n)(y:Nat->Rat):∀{Φ:List bH},(∀d∈Φ,0<=d.1/\d.1 < n)->dN (λx=>vW s i Φ x * y x) n=y i - s * aw (λd=>cV d * y d.1.toNat) Φ
 | [],_=>by rw [eF (g:=λx=>(if x=i then 1 else 0) * y x) λx _=>by show ((if x=i then 1 else 0) - s * 0) * y x=_;grind];rw [sJ y hi];show y i=y i - s * 0;grind
 | d::Φ,h=>by
  obtain ⟨a,b⟩:=h d aae;have ih:=Hl (s:=s) hi y (Φ:=Φ) λx hx=>h x (aac _ hx)
  rw [eF (g:=λx=>1 * (vW s i Φ x * y x) - (s * cV d) * ((if x=d.1.toNat then 1 else 0) * y x)) λx _=>by
   show ((if x=i then 1 else 0) - s * ((if d.1.toNat=x then 1 else 0) * cV d+aw (λd=>(if d.1.toNat=x then 1 else 0) * cV d) Φ)) * y x=1 * (((if x=i then 1 else 0) - s * aw (λd=>(if d.1.toNat=x then 1 else 0) * cV d) Φ) * y x) - (s * cV d) * ((if x=d.1.toNat then 1 else 0) * y x);by_cases e:x=d.1.toNat
   ·rw [if_pos e,if_pos e.symm];grind
   ·rw [if_neg e,if_neg (Ne.symm e)];grind]
  rw [tF,ih,sJ y (show d.1.toNat < n by omega)];show _=y i - s * (cV d * y d.1.toNat+aw (λd=>cV d * y d.1.toNat) Φ);grind
def mX(ns:List Fr):List Int:=ns.map λc=>c.1 * (bJ ns / c.2)
theorem y8{ns:List Fr}(h:∀c∈ns,Nr E C c)(e0:0 < E)(c0:0<=C):0 < bJ ns/\bJ ns<=E/\∀c∈ns,((lU (bJ ns) c:Int):Rat)=val c * (bJ ns:Int)/\ -(C * E)<=lU (bJ ns) c/\lU (bJ ns) c<=C * E:=by
 have b0:0 < bJ ns:=fB ns 1 (by decide) λc hc=>(h c hc).red.pos;obtain ⟨d1,_,d3⟩:=iQ ns 1 E (by decide) (Int.one_dvd _) λc hc=>⟨(h c hc).red.pos,x3 (h c hc).red (h c hc).he⟩;have le:=ab1 e0 d1;refine ⟨b0,le,λc hc=>⟨IF (h c hc).red.pos (d3 c hc), ?_⟩⟩;have hd:=d3 c hc;have cp:=(h c hc).red.pos;obtain ⟨a1,a2⟩:=(h c hc).ab;have le:bJ ns<=E:=le;have b0:0 < bJ ns:=b0;generalize hL:bJ ns=L at *
 have hd:c.2∣L:=by rw [<-hL];exact hd
 obtain ⟨k,rfl⟩:=hd;unfold lU;rw [abt _ (by omega)];have k0:0<=k:=by
  rcases ack k 0 with z | z
  ·have:=abT cp z;omega
  ·exact z
 have m1:=ck a1 k0;have m2:=ck a2 k0;have m3:=aar le c0;have e1:c.2 * C * k=C * (c.2 * k):=by grind
 have e2: -(c.2 * C) * k= -(C * (c.2 * k)):=by grind
 exact ⟨by omega,by omega⟩
def lQ(ε:Fr)(n i:Nat)(Φ:List bH)(given:Fr):List Int:=mX (gL ε n i Φ++[given])
structure vL(ε:Fr)(n:Nat)(E C:Int)(Φ:List bH)(given:Fr):Prop where
 wo:Bc n Φ
 sc:∀d∈Φ,RF ε E d
 gn:Nr E C given
 e0:0 < E
 cl:1+(Φ.length:Int)<=C
theorem zi{D:Int}{p:Fr}(h:Nr E C p)(l:C<=D):Nr E D p:=by have:=aar l (aaj h.red.pos);obtain ⟨a,b⟩:=h.ab;exact ⟨h.red,h.he,⟨by omega,by omega⟩⟩
theorem EM{ns:List Fr}{x:Nat}(h:x < ns.length):ns.getD x (0,1)∈ns:=by rw [aab,aaa h];exact aaE h
theorem C3{ε:Fr}{Φ:List bH}{given:Fr}(hi:i < n)(p:vL ε n E C Φ given):(lQ ε n i Φ given).length=n+1/\(∀x∈lQ ε n i Φ given, -(C * E)<=x/\x<=C * E)/\∃L:Rat,0 < L/\(∀y:Nat->Rat,dN (λx=>((lQ ε n i Φ given).getD x 0:Rat) * y x) n=L * (y i - Pg.val ε * aw (λd=>cV d * y d.1.toNat) Φ))/\((lQ ε n i Φ given).getD n 0:Rat)=L * Pg.val given:=by
 have no:=LR hi λd hd=>⟨p.wo.to d hd,p.sc d hd⟩;have c0:0<=C:=by have:=p.cl;omega
 have all:∀c∈gL ε n i Φ++[given],Nr E C c:=λc hc=>by
  rcases aaQ.mp hc with z | z
  ·obtain ⟨x,hx,e⟩:=abf z;have R0:x < n:=by rw [<-no.len];exact hx
   have:=no.nr x R0;rw [aab,aaa hx] at this;rw [<-e];exact zi this p.cl
  ·rw [aa7.mp z];exact p.gn
 obtain ⟨b0,bE,hb⟩:=y8 all p.e0 c0;have ln:(gL ε n i Φ).length=n:=no.len;have at_:∀x,x < n+1->(lQ ε n i Φ given).getD x 0=lU (bJ (gL ε n i Φ++[given])) ((gL ε n i Φ++[given]).getD x (0,1)):=λx hx=>by
  unfold lQ mX;have hx:x < (gL ε n i Φ++[given]).length:=by simp [ln];exact hx
  rw [aab,aao,aab,aaa hx];rfl
 have in_:∀x,x < n+1->(gL ε n i Φ++[given]).getD x (0,1)∈gL ε n i Φ++[given]:=λx hx=>EM (by simp [ln];exact hx);refine ⟨by unfold lQ mX;simp [ln],λx hx=> ?_,((bJ (gL ε n i Φ++[given]):Int):Rat), ?_,λy=> ?_, ?_⟩
 ·unfold lQ mX at hx;obtain ⟨c,hc,rfl⟩:=aah.mp hx;exact (hb c hc).2
 ·exact aby.mpr b0
 ·rw [eF (g:=λx=>((bJ (gL ε n i Φ++[given]):Int):Rat) * (vW (Pg.val ε) i Φ x * y x) - 0 * 0) λx hx=>by
   rw [at_ x (by omega),(hb _ (in_ x (by omega))).1];have:(gL ε n i Φ++[given]).getD x (0,1)=(gL ε n i Φ).getD x (0,1):=by rw [aab,aau (by rw [ln];exact hx),<-aab]
   rw [this,no.val x hx];grind]
  rw [tF _ 0 (λx=>vW (Pg.val ε) i Φ x * y x) (λ_=>0),Hl hi y p.wo.to];grind
 ·rw [at_ n (by omega),(hb _ (in_ n (by omega))).1];have:(gL ε n i Φ++[given]).getD n (0,1)=given:=by rw [aab,aak (by rw [ln];exact aai _),ln,acy];rfl
  rw [this];grind
structure Sys(ε:Fr)(n:Nat)(B:Int)(ws:Nat->List bH)(gv:Nat->Fr):Prop where
 n1:1<=n
 s0:0<=Pg.val ε
 s1:Pg.val ε < 1
 b1:1<=B
 Hh:∀i,i < n->∃E C,vL ε n E C (ws i) (gv i)/\C * E<=B
def hX(ε:Fr)(n:Nat)(ws:Nat->List bH)(gv:Nat->Fr):List (List Int):=(List.range n).map λi=>lQ ε n i (ws i) (gv i)
section
variable{ε:Fr}{ws:Nat->List bH}{gv:Nat->Fr}
theorem C6{k x:Nat}(h:k < n):Bz.arr (hX ε n ws gv) k x=(lQ ε n k (ws k) (gv k)).getD x 0:=by
 unfold Bz.arr hX
 congr 1
 rw [aab,aao,aaS h];rfl
theorem kW:(hX ε n ws gv).length=n:=by unfold hX;simp
theorem Sys.eq(S:Sys ε n B ws gv){k:Nat}(hk:k < n):∃L:Rat,0 < L/\(∀y:Nat->Rat,dN (λx=>(Bz.arr (hX ε n ws gv) k x:Rat) * y x) n=L * (y k - Pg.val ε * aw (λd=>cV d * y d.1.toNat) (ws k)))/\(Bz.arr (hX ε n ws gv) k n:Rat)=L * Pg.val (gv k):=by
 obtain ⟨E,C,p,_⟩:=S.Hh k hk;obtain ⟨_,_,L,l0,l1,l2⟩:=C3 hk p;refine ⟨L,l0,λy=> ?_, ?_⟩
 ·rw [<-l1 y];exact eF λx _=>by rw [C6 hk]
 ·rw [C6 hk];exact l2
theorem Sys.zero(S:Sys ε n B ws gv){y:Nat->Rat}(h:∀k,k < n->y k=Pg.val ε * aw (λd=>cV d * y d.1.toNat) (ws k)):∀k,k < n->y k=0:=λk hk=>by
 have:=K4 (n:=n) (x:=y) (c:=0) S.s1 (λi hi m hm=>by
  obtain ⟨E,C,p,_⟩:=S.Hh i hi;have w:=lO.mp (DP p.wo (by omega) hm);have a:=aaW w.1 S.s0;have b:=aaW w.2 S.s0;rw [h i hi]
  refine lO.mpr ⟨?_, ?_⟩ <;> grind) k hk
 have a0:=Qh (y k);have s1:=S.s1;have:ab (y k)=0:=by
  by_cases e:ab (y k)=0
  ·exact e
  ·have p:=Rat.mul_pos (show 0 < ab (y k) by grind) (show 0 < 1 - Pg.val ε by grind);grind
 unfold ab at this;split at this <;> grind
theorem Sys.ker(S:Sys ε n B ws gv)(y:Bz.Row)(h:∀k,k < n->Bz.Δ (λx=>Bz.arr (hX ε n ws gv) k x * y x) n=0):∀x,x < n->y x=0:=λx hx=>by
 have:=S.zero (y:=λx=>(y x:Rat)) (λk hk=>by
  obtain ⟨L,l0,l1,_⟩:=S.eq hk;have e:=aaZ (λz:Int=>(z:Rat)) (h k hk);rw [oK,eF (g:=λx=>(Bz.arr (hX ε n ws gv) k x:Rat) * (y x:Rat)) λx _=>aaO _ _,l1 λx=>(y x:Rat)] at e;have e:L * ((y k:Rat) - Pg.val ε * aw (λd=>cV d * (y d.1.toNat:Rat)) (ws k))=0:=e;rcases Rat.mul_eq_zero.mp e with z | z
  ·grind
  ·grind) x hx
 exact Rat.intCast_eq_zero_iff.mp this
theorem Sys.bd(S:Sys ε n B ws gv):Bz.Bd (Bz.arr (hX ε n ws gv)) n (n+1) B:=⟨S.b1,λk c hk hc=>by
 obtain ⟨E,C,p,hB⟩:=S.Hh k hk;obtain ⟨ln,hb,_⟩:=C3 hk p;rw [C6 hk];have:=hb ((lQ ε n k (ws k) (gv k)).getD c 0) (by rw [aab,aaa (by omega)];exact aaE _)
 exact ⟨by omega,by omega⟩⟩
structure Tab(ε:Fr)(n:Nat)(ws:Nat->List bH)(gv:Nat->Fr)(tb:List Fr):Prop where
 len:tb.length=n
 red:∀i,i < n->Red (tb.getD i (0,1))
 eq:∀i,i < n->Pg.val (tb.getD i (0,1))=Pg.val (gv i)+Pg.val ε * aw (λd=>cV d * Pg.val (tb.getD d.1.toNat (0,1))) (ws i)
theorem Sys.uniq(S:Sys ε n B ws gv){t t':List Fr}(h:Tab ε n ws gv t)(h':Tab ε n ws gv t'):t=t':=by
 have z:=S.zero (y:=λx=>Pg.val (t.getD x (0,1)) - Pg.val (t'.getD x (0,1))) (λk hk=>by
  rw [h.eq k hk,h'.eq k hk];rw [show (λd:bH=>cV d * (Pg.val (t.getD d.1.toNat (0,1)) - Pg.val (t'.getD d.1.toNat (0,1))))=λd=>cV d * Pg.val (t.getD d.1.toNat (0,1)) - cV d * Pg.val (t'.getD d.1.toNat (0,1)) by funext d;grind,sV]
  grind)
 apply abm
 ·rw [h.len,h'.len]
 ·intro i h1 h2;have hi:i < n:=by rw [<-h.len];exact h1
  have a:=h.red i hi;have b:=h'.red i hi;have c:=z i hi;rw [aab,aaa h1] at a c;rw [aab,aaa h2] at b c;exact yr a b (by have c:Pg.val t[i] - Pg.val t'[i]=0:=c;grind)
theorem Sys.ex(S:Sys ε n B ws gv)(Bm:n<=12):∃(tb:List Fr) (z:Bz.Row) (N:Int),Bz.QP (Bz.arr (hX ε n ws gv)) n n z N/\N≠0/\(∀i,i < n->N * (tb.getD i (0,1)).1=z i * (tb.getD i (0,1)).2)/\Tab ε n ws gv tb/\∀i,i < n->(tb.getD i (0,1)).2<=(12 * B) ^ n:=by
 obtain ⟨ρ,ν,q,d,W,t⟩:=Bz.Turn.exists (A:=Bz.arr (hX ε n ws gv)) (n:=n) n;have hc:ν=List.range n:=by
  rcases t.all with e | ⟨x,h1,h2⟩
  ·exact e
  ·obtain ⟨z,z1,z2⟩:=t.kernel h1 h2;have:=S.ker z z2 x h1;rw [z1] at this;exact aaK (by omega) t.d0
 have lr:ρ.length=n:=by rw [<-t.st.lc,hc,aa1]
 have sol:=t.SG λi h1 h2=>aaK h1 (by omega);have d0:=t.d0;generalize hz:Bz.Lc (Bz.arr (hX ε n ws gv)) n W ν n ν.length=z at *
 have g:∀i,i < n->((List.range n).map λi=>ay (z i) d).getD i (0,1)=ay (z i) d:=λi hi=>by rw [aab,aao,aaS hi];rfl
 refine ⟨(List.range n).map λi=>ay (z i) d,z,d,sol,d0,λi hi=> ?_,⟨by simp,λi hi=> ?_,λi hi=> ?_⟩,λi hi=> ?_⟩
 ·rw [g i hi,<-cG d0]
 ·rw [g i hi];exact bQ d0
 ·obtain ⟨L,l0,l1,l2⟩:=S.eq hi;obtain ⟨E,C,p,_⟩:=S.Hh i hi;have e:=aaZ (λz:Int=>(z:Rat)) (sol i hi);rw [oK,eF (g:=λx=>(Bz.arr (hX ε n ws gv) i x:Rat) * (z x:Rat)) λx _=>aaO _ _,l1 λx=>(z x:Rat),aaO,l2] at e;rw [g i hi,kH d0]
  rw [mF (g:=λdd=>(1 / (d:Rat)) * (cV dd * (z dd.1.toNat:Rat)) - 0) λdd hdd=>by
   obtain ⟨a,b⟩:=p.wo.to dd hdd;rw [g _ (by omega),kH d0];have:=aG d0
   grind]
  have sc:∀(k:Rat) (ds:List bH),aw (λdd=>k * (cV dd * (z dd.1.toNat:Rat)) - 0) ds=k * aw (λdd=>cV dd * (z dd.1.toNat:Rat)) ds:=λk ds=>by
   induction ds with
   | nil=>show (0:Rat)=k * 0;grind
   | cons a ds ih=>
    show k * (cV a * (z a.1.toNat:Rat)) - 0+aw (λdd=>k * (cV dd * (z dd.1.toNat:Rat)) - 0) ds=k * (cV a * (z a.1.toNat:Rat)+aw (λdd=>cV dd * (z dd.1.toNat:Rat)) ds);rw [ih];grind
  rw [sc];have:=aG d0;have e:L * ((z i:Rat) - Pg.val ε * aw (λdd=>cV dd * (z dd.1.toNat:Rat)) (ws i))=(d:Rat) * (L * Pg.val (gv i)):=e;have e2:(z i:Rat) - Pg.val ε * aw (λdd=>cV dd * (z dd.1.toNat:Rat)) (ws i)=(d:Rat) * Pg.val (gv i):=by
   have:L * ((z i:Rat) - Pg.val ε * aw (λdd=>cV dd * (z dd.1.toNat:Rat)) (ws i) - (d:Rat) * Pg.val (gv i))=0:=by grind
   rcases Rat.mul_eq_zero.mp this with y | y
   ·grind
   ·grind
  grind
 ·rw [g i hi];have ad:=t.st.YU S.bd (λc AM=>aat (t.cl c AM) (Nat.le_succ _)) (by omega);rw [lr] at ad;have l:=kJ (t:=z i) d0;have q0:=cL (t:=z i) d0;obtain ⟨a1,a2⟩:=ad;omega
end
theorem Kk{d:bH}{c:Fr}{q:DQ}(e:d.2.2=[c])(h:q (Ν c) M):cj (eQ d) (.int 2) M q:=by unfold eQ;rw [e];exact Θ (xs:=[.int d.1,Ν d.2.1,Ν c]) rfl (Κ (j:=2) rfl) h
theorem jN{k:Nat}(h:M[k]? =some (MO.lst xs)):fR M (.loc k)=some xs:=by show (match M[k]? with | some (MO.lst xs)=>some xs | _=>none)=some xs;rw [h]
theorem Hq{p:Fr}(h:Nr E C p)(e0:0 < E)(e1:E < 2 ^ 190)(c0:0<=C)(c1:C < 2 ^ 110):Sz 300 p:=Oe (k:=190) (m:=110) h.red h.he e0 e1 h.ab c0 c1
def Ij:DF:=λas M q _=>∃(ns:List Fr) (E C:Int),as=[.lst (ns.map Ν)]/\ns.length<=13/\(∀c∈ns,Nr E C c)/\0 < E/\E < 2 ^ 190/\0<=C/\C < 2 ^ 110/\q (cz (mX ns)) M
theorem mV:Ζ ["numbers","bottom"] ["numbers"] (ψ oP):= .of rfl
theorem yA(F:cX K "whole_row" "whole_row" oP f fd)(E:Ev K mg w Cm){iG:Addr}{iy:FuncData}(cy:ax P w K mg base 2 "common_bottom" ["chances"] iK iG iy):aj P w K mg base (b9 P w) 3 f fd ["numbers"] (cJ K Ij):=by
 refine F.dQ mV (λds M q x h=> ?_) (λaY A outer s H E' hr=>⟨_,(η (Α 1 mV.nd (ae cy hr ξ (Ο (jv 0) θ)))
   (μ (Ε (gx (ys:=["bottom"]) (ah:=[1]) (.of mV rfl rfl rfl) (bx (jv 0)) (λC s H fp=>(av (Η (jv 0) υ) (jT (jv 1) (Η (jv 0) υ)))))))),λds M q x h=> ?_⟩)
 ·obtain ⟨ns,E,C,rfl,_⟩:=h;rfl
 ·obtain ⟨ns,Ep,C,rfl,hz,hn,e0,e1,c0,c1,h⟩:=h;obtain ⟨b0,bE,_⟩:=y8 hn e0 c0;have Wa:∀c∈ns,Sz 300 c:=λc hc=>Hq (hn c hc) e0 e1 c0 c1;have b2:∀c∈ns,c.2 < 2 ^ 200:=λc hc=>by have:=ab1 e0 (x3 (hn c hc).red (hn c hc).he);exact aaH this (acm e1 (by decide))
  refine ⟨ns,rfl,⟨hz,λc hc=>⟨(hn c hc).red.pos,b2 c hc⟩⟩, ?_⟩;walk_at "vc";refine eJ (i:=0) rfl rfl ⟨by rw [aad];exact aax hz (by decide), ?_⟩;refine gB (f:=λd=> .int (match d with | .tup [.int a, .int b]=>a * (bJ ns / b) | _=>0)) trivial (λx hx q hq=> ?_) ?_
  ·obtain ⟨y,hy,rfl⟩:=aah.mp hx;have s:=Wa y hy;have y0:=(hn y hy).red.pos;refine ⟨⟨y0,cZ s (by decide)⟩,⟨fG s (by decide), ?_⟩,hq⟩;exact qk (k:=190) (Int.ediv_nonneg (aaj b0) (aaj y0)) (aaH (acf _ (aaj b0)) (aaH bE e1)) (by decide)
  ·rw [aaX,aaM];have e:ns.map ((λd=>Dt.int (match d with | .tup [.int a, .int b]=>a * (bJ ns / b) | _=>0)) ∘ Ν)=(mX ns).map Dt.int:=by unfold mX;rw [aaM];rfl
   rw [e];exact h
structure Yv(E C:Int):Prop where
 e1:E < 2 ^ 190
 c1:C < 2 ^ 110
def UW(A:Addr):DF:=λas M q _=>∃(ε:Fr) (γ:List Rw) (i:Nat) (Φ:List bH) (given:Fr) (E C:Int),as=[ao A ε γ, .int (i:Nat), .lst (Φ.map eQ),Ν ε,Ν given]/\i < γ.length/\γ.length<=12/\aS ε=true/\(∀d∈Φ,∃c,d.2.2=[c])/\vL ε γ.length E C Φ given/\Yv E C/\(∀d∈Φ,Sz 300 (χ d))/\∀E',q (cz (lQ ε γ.length i Φ given)) (M++E')
theorem sS:Ζ ["floor","place","ways","share","given","numbers","way"] ["floor","place","ways","share","given"] (ψ xo):= .of rfl
theorem FJ(F:cX K "led_row" "led_row" xo f fd)(E:Ev K mg w Cm)(aZ:dz P w K mg base 1 Cm "size" ["self"] (Af Cm) d_ ef){OJ:Addr}{QN:FuncData}(x9:ax P w K mg base 3 "minus" ["one","other"] JF OJ QN)(gA:ax P w K mg base 3 "times" ["one","other"] xR qQ r_){Fd:Addr}{Fw:FuncData}(lZ:ax P w K mg base 3 "whole_row" ["numbers"] Ij Fd Fw):aj P w K mg base (b9 P w) 5 f fd ["floor","place","ways","share","given"] (cJ K (UW Cm)):=by
 refine F.dQ sS (λds M q x h=> ?_) (λaY A outer s H E' hr=>⟨_,(η (Α 5 sS.nd (Cu (d8 3 (d:= .lst [.tup [.int 0, .int 1]]) (by rfl)) (k7 aZ hr ξ (jv 0))))
   (η (kB (jv 5) (jv 1) (dM (ι υ (ι υ θ dJ) dJ)))
   (η (cY (bx (jv 2)) (ar (i:=6) sS.nd rfl (Or.inl rfl)) aL (μ (kB (jv 5) (Η (jv 6) υ) (ae x9 hr ξ (ι (Η (jv 5) (Η (jv 6) υ)) (ι (ae gA hr ξ (Ο (jv 3) (ι (Η (jv 6) υ) θ aX))) θ aV) aX)))))
   (μ (Ε (ae lZ hr ξ (ι (mY (jv 5) (lH (Ο (jv 4) θ))) θ bB))))))),λds M q x h=> ?_⟩)
 ·obtain ⟨ε,γ,i,Φ,given,E,C,rfl,_⟩:=h;rfl
 ·obtain ⟨ε,γ,i,Φ,given,Ep,C,rfl,il,qm,hs,MM,p,sz,hcs,h⟩:=h;have szs:=ny hs;have e0:=p.e0;have c0:0<=C:=by have:=p.cl;omega
  generalize hn:γ.length=n at *
  refine ⟨⟨_,_, .inl rfl,rfl⟩,ε,γ,rfl, ?_⟩;rw [hn];refine ⟨[Ν (0,1)],n,rfl,rfl,by omega,by omega, ?_, ?_⟩
  ·show 1 * ((n:Int)).toNat<=sizeLine;exact aax (show _<=12 by omega) (by decide)
  rw [show ((n:Int)).toNat=n by omega,sD];dsimp only [tm];walk_at "vc";refine ⟨gV, ?_⟩;refine ⟨M.length,(i:Nat),_,i,rfl,rfl,aW,by rw [aa5];exact tG il, ?_⟩;rw [dZ];have e00:(List.replicate n (Ν (0,1))).set i (.tup [.int 1, .int 1])=((List.replicate n ((0,1):Fr)).set i (1,1)).map Ν:=by rw [List.map_set,List.map_replicate];rfl
  rw [e00];dsimp only [p7,fM];walk_at "vc";refine bD (λzs ρ' M'=>∃(fj rest:List bH) (ns:List Fr) (v:Nat->Rat) (o:Option Dt),Φ=fj++rest/\zs=rest.map eQ/\ns=fj.foldl (tI ε) ((List.replicate n ((0,1):Fr)).set i (1,1))/\mv n Ep (1+fj.length) v ns/\M'=M++[MO.lst (ns.map Ν)]/\ρ'=[some (ao Cm ε γ),some (.int (i:Int)),some (.lst (Φ.map eQ)),some (Ν ε),some (Ν given),some (.loc M.length),o]) (λzs ρ' M' hj=>trivial) (λx zs ρ' M' hj e_=> ?_) (λρ' M' hj=> ?_) _ _ _ ⟨[],Φ,_,_,none,rfl,rfl,rfl,Jl il,rfl,rfl⟩
  ·obtain ⟨fj,rest,ns,v,o,ew,ex,en,no,rfl,rfl⟩:=hj;cases rest with
   | nil=>cases ex
   | cons d rest=>
    cases ex;have dm:d∈Φ:=by rw [ew];exact aaD _ aae
    obtain ⟨t0,t1⟩:=p.wo.to d dm;obtain ⟨c,hc⟩:=MM d dm;have ec:χ d=c:=by unfold χ;rw [hc];rfl
    have sc:=p.sc d dm;have RD:=hcs d dm;have dl:1+(fj.length:Int)<=C:=by have:=aaZ List.length ew;rw [aag,aaC] at this;have:=p.cl;omega
    have tl:d.1.toNat < ns.length:=by rw [no.len];omega
    have Wa:=Hq (zi (no.nr d.1.toNat (by omega)) dl) e0 sz.e1 c0 sz.c1;have szt:=Hq (zi sc.nr (show (1:Int)<=C by omega)) e0 sz.e1 c0 sz.c1;have at_:mw (ns.map Ν) d.1=some (Ν (ns.getD d.1.toNat (0,1))):=by have:=IX tl;rw [show ((d.1.toNat:Nat):Int)=d.1 by omega] at this;rw [this,aab,aaa tl];rfl
    have nx:∀o,_:=λo=>e_ [some (ao Cm ε γ),some (.int (i:Int)),some (.lst (Φ.map eQ)),some (Ν ε),some (Ν given),some (.loc M.length),o] (M++[MO.lst ((tI ε ns d).map Ν)]) ⟨fj++[d],rest,tI ε ns d,_,o,by rw [ew];simp,rfl,by rw [List.foldl_append,<-en];rfl,by
     have:=Ap no (by omega) ⟨t0,t1⟩ sc;rw [show 1+((fj++[d]).length:Int)=1+(fj.length:Int)+1 by simp;omega]
     exact this,rfl,rfl⟩
    dsimp only [gN,tm];walk_at "vc";refine Ey ?_;refine (Θ (d:= .loc M.length) (jN aW) at_ ?_:cj (.loc M.length) (.int d.1) _ _);refine Kk hc ?_;rw [<-ec];refine ⟨ε,χ d,11,300,rfl,szs,RD,by decide, ?_⟩;refine ⟨_,_,300,300,rfl,Wa,szt,by decide, ?_⟩;refine Ey ?_;refine ⟨M.length,d.1,_,d.1.toNat,rfl,rfl,aW,by rw [aad];have:=tG tl;rwa [show ((d.1.toNat:Nat):Int)=d.1 by omega] at this, ?_⟩;rw [dZ];have:(ns.map Ν).set d.1.toNat (Ν (iH (ns.getD d.1.toNat (0,1)) (aJ ε (χ d))))=(tI ε ns d).map Ν:=by unfold tI;rw [List.map_set]
    rw [this];exact nx _
  ·obtain ⟨fj,rest,ns,v,o,ew,ex,en,no,rfl,rfl⟩:=hj;cases rest with
   | cons d rest=>cases ex
   | nil=>
    rw [aa8] at ew;subst ew;have en:ns=gL ε n i Φ:=en;walk_at "vc";refine ⟨by show 1<=sizeLine;decide,ns.map Ν,[Ν given],k4 aW,rfl, ?_, ?_⟩
    ·rw [aad,no.len];exact aax (show n+1<=13 by omega) (by decide)
    refine ⟨ns++[given],Ep,C,by rw [aa2];rfl,by rw [aag,no.len];show n+1<=13;omega,λc hc=> ?_,e0,sz.e1,c0,sz.c1, ?_⟩
    ·rcases aaQ.mp hc with z | z
     ·obtain ⟨x,hx,e⟩:=abf z;have:=no.nr x (by rw [<-no.len];exact hx);rw [aab,aaa hx] at this;rw [<-e];exact zi this p.cl
     ·rw [aa7.mp z];exact p.gn
    rw [en];exact h _
theorem zp:∀(ps:List (Fr×Fr)) (w:Fr),Red w->(∀p∈ps,0 < p.1.2/\0 < p.2.2)->Red (ps.foldl (λw p=>eI w (aJ p.1 p.2)) w)
 | [],w,h,_=>h
 | p::ps,w,h,hp=>by obtain ⟨a,b⟩:=hp p aae;have t:Red (aJ p.1 p.2):=bQ (abl (aaN a b));exact zp ps _ (bQ (abl (aaN h.pos t.pos))) λx hx=>hp x (aac _ hx)
theorem vw:∀(Φ:List bH) (w:Fr),0 < w.2->(∀d∈Φ,0 < (χ d).2/\0 < d.2.1.2)->val (((Φ.map χ).zip (Φ.map (·.2.1))).foldl (λw p=>eI w (aJ p.1 p.2)) w)=val w+aw (λd=>cV d * val d.2.1) Φ
 | [],w,_,_=>by show val w=val w+0;grind
 | d::Φ,w,h,hp=>by obtain ⟨a,b⟩:=hp d aae;have t:Red (aJ (χ d) d.2.1):=bQ (abl (aaN a b));have u:Red (eI w (aJ (χ d) d.2.1)):=bQ (abl (aaN h t.pos));have ih:=vw Φ (eI w (aJ (χ d) d.2.1)) u.pos λx hx=>hp x (aac _ hx);rw [aaJ,aaJ,abo,abv,ih,r8 h t.pos,lh a b];show _=val w+(cV d * val d.2.1+aw (λd=>cV d * val d.2.1) Φ);grind
structure FW(ε:Fr)(γ:List Rw)(X C:Int):Prop where
 pl:Mm ε γ
 n1:1<=γ.length
 hnd:∀k ds,Rw.τ k ds∈γ->Γ k=true->∀d∈ds,d.2.2=[]
 pay:∀k ds,Rw.τ k ds∈γ->∃E,0 < E/\E<=X/\∀d∈ds,Nr E C d.2.1
 fin:∀p,Rw.fin p∈γ->∃E,0 < E/\E<=X/\Nr E C p
 x1:X<=10 ^ 36
 c9:9<=C
 c1:C<=10 ^ 30
def jg(X C:Int):Int:=6 * C * (1000000000 * X)
def Ql(Ι:Pl)(i:Nat):Rw->List bH
 | .fin _=>[]
 | .τ k ds=>aC Ι i (.τ k ds)
def RC(Ι:Pl)(i:Nat):Rw->Fr
 | .fin p=>p
 | .τ k ds=>iE (((aC Ι i (.τ k ds)).map χ).zip ((aC Ι i (.τ k ds)).map (·.2.1)))
def fg(γ:List Rw)(i:Nat):Rw:=γ.getD i (.fin (0,1))
structure Xb(n:Nat)(B E C:Int)(d:bH):Prop where
 to:0<=d.1/\d.1 < n
 one:d.2.2=[χ d]
 ch:Ch B (χ d)
 py:Nr E C d.2.1
section
variable{ε:Fr}{γ:List Rw}{X:Int}{Ι:Pl}
theorem FW.Φ(fw:FW ε γ X C)(dk:fW γ Ι){k:Str}{ds:List bH}(hi:γ[i]? =some (.τ k ds)):(aC Ι i (.τ k ds)).length<=6/\aw cV (aC Ι i (.τ k ds))=1/\(∀d∈aC Ι i (.τ k ds),0<=cV d)/\∃B E,0 < B/\B<=1000000/\0 < E/\E<=X/\∀d∈aC Ι i (.τ k ds),Xb γ.length B E C d:=by
 have rm:Rw.τ k ds∈γ:=aam hi;have dr:=dw fw.pl rm;obtain ⟨E,e0,eX,hp⟩:=fw.pay k ds rm;cases hh:Γ k with
 | true=>
  obtain ⟨j,hj,jl⟩:=dk.hand i _ hi hh;have jl:j < ds.length:=jl;have gd:ds.getD j d0=ds[j]:=by rw [aab,aaa jl];rfl
  have dm:=aaE jl;have e:aC Ι i (.τ k ds)=[(ds[j].1,ds[j].2.1,[(1,1)])]:=by unfold aC;rw [hj];show [((ds.getD ((j:Int)).toNat d0).1,(ds.getD ((j:Int)).toNat d0).2.1,(ds.getD ((j:Int)).toNat d0).2.2++[(1,1)])]=_;rw [abA,gd,fw.hnd k ds rm hh _ dm];rfl
  have v1:cV (ds[j].1,ds[j].2.1,[((1,1):Fr)])=1:=by show ((1:Int):Rat) / ((1:Int):Rat)=1;grind
  rw [e];refine ⟨by simp, ?_,λd hd=> ?_,1,E,by decide,by decide,e0,eX,λd hd=> ?_⟩
  ·show cV (ds[j].1,ds[j].2.1,[(1,1)])+0=1;rw [v1];grind
  ·rw [List.mem_singleton.mp hd,v1];grind
  ·rw [aa7.mp hd];refine ⟨dr.to ds[j] dm,rfl, ?_,hp ds[j] dm⟩;show Ch 1 ((1,1):Fr);exact ⟨by decide,⟨1,by decide⟩,⟨by decide,by decide⟩,qM (k:=2) ⟨by decide,by decide,by decide⟩ (by decide)⟩
 | false=>
  have hc:k="chance"/\GS (ds.map χ):=by
   rcases dr.kd with z | ⟨_,z⟩
   ·rw [z] at hh;cases hh
   ·exact z
  obtain ⟨rfl,co⟩:=hc;have e:aC Ι i (.τ "chance" ds)=ds:=by unfold aC;rw [dk.JU i _ hi hh];rfl
  obtain ⟨s1,s2⟩:=MQ co;rw [e];refine ⟨dr.l6,s1,s2,bJ (ds.map χ),E,co.b0,co.b1,e0,eX,λd hd=> ?_⟩;obtain ⟨a,b,c,f⟩:=DV co (aah.mpr ⟨d,hd,rfl⟩);exact ⟨dr.to d hd,(dr.ro.2.2.1 rfl).1 d hd,⟨a,Ah b,c,f⟩,hp d hd⟩
theorem NU{p:Fr}(h:Nr E C p)(e0:0 < E)(e1:E<=10 ^ 36)(c0:0<=C)(c1:C<=10 ^ 30):Nb E C p:=HQ h.red h.he h.ab ⟨e0,aaH e1 (by decide),c0,aaH c1 (by decide)⟩
theorem FW.sh(fw:FW ε γ X C):0 < ε.2/\ε.2<=1000/\g6 ε/\0<=val ε/\val ε < 1/\1<=1000 * (1 - val ε):=by
 have h:=fw.pl.sh;obtain ⟨a,b,c⟩:=Jx h;unfold aS at h;rw [aaq,aaq,aan,aan,aan] at h;obtain ⟨h1,h2,h3⟩:=h;have ev:val ε * (ε.2:Rat)=ε.1:=by
  have:=aG (show ε.2≠0 by omega);unfold val;generalize (ε.1:Rat)=x at *
  generalize (ε.2:Rat)=y at *
  grind
 have p:(0:Rat) < (ε.2:Rat):=aby.mpr a;have q:(ε.2:Rat)<=((1000:Int):Rat):=abc.mpr b;have r:(ε.1:Rat)+((1:Int):Rat)<=(ε.2:Rat):=by rw [<-Rat.intCast_add];exact abc.mpr (by omega)
 have q:(ε.2:Rat)<=1000:=q;have r:(ε.1:Rat)+1<=(ε.2:Rat):=r;have lt:val ε < 1:=by
  by_cases z:val ε < 1
  ·exact z
  ·have:=Rat.mul_le_mul_of_nonneg_right (show 1<=val ε by grind) (Rat.le_of_lt p);grind
 refine ⟨a,b,c,qZ a h1,lt, ?_⟩;have:=Rat.mul_le_mul_of_nonneg_right q (show 0<=1 - val ε by grind);grind
theorem FW.Hh(fw:FW ε γ X C)(dk:fW γ Ι){r:Rw}(hi:γ[i]? =some r):∃E,vL ε γ.length E (6 * C) (Ql Ι i r) (RC Ι i r)/\6 * C * E<=jg X C/\Yv E (6 * C)/\(∀d∈Ql Ι i r,∃c,d.2.2=[c])/\∀d∈Ql Ι i r,Sz 300 (χ d):=by
 obtain ⟨s0,s1,su,_⟩:=fw.sh;have c9:=fw.c9;have c1:=fw.c1;have x1:=fw.x1;have rm:r∈γ:=aam hi;have UB:∀E,E<=1000000000 * X->6 * C * E<=jg X C:=λE h=>aar h (by omega);cases r with
 | fin p=>
  obtain ⟨E,e0,eX,hp⟩:=fw.fin p rm;exact ⟨E,⟨⟨λ_ z=>(nomatch z),λ_ z=>(nomatch z),by show (0:Rat)<=1;grind⟩,λ_ z=>(nomatch z),zi hp (by omega),e0,by show 1+0<=6 * C;omega⟩,UB E (by omega),⟨Int.lt_of_le_of_lt eX (by omega),by omega⟩,λ_ z=>(nomatch z),λ_ z=>(nomatch z)⟩
 | τ k ds=>
  obtain ⟨l6,one,pos,B,E,b0,b1,e0,eX,hw⟩:=fw.Φ dk hi;show∃E,vL ε γ.length E (6 * C) (aC Ι i (.τ k ds)) (iE (((aC Ι i (.τ k ds)).map χ).zip ((aC Ι i (.τ k ds)).map (·.2.1))))/\6 * C * E<=jg X C/\Yv E (6 * C)/\(∀d∈aC Ι i (.τ k ds),∃c,d.2.2=[c])/\∀d∈aC Ι i (.τ k ds),Sz 300 (χ d);generalize U4:aC Ι i (.τ k ds)=ws at *
  have be0:0 < B * E:=aaN b0 e0;have be1:B * E<=1000000 * X:=abC b1 eX (aaj e0) (by decide);have se0:0 < ε.2 * (B * E):=aaN s0 be0;have se1:ε.2 * (B * E)<=1000 * (1000000 * X):=abC s1 be1 (aaj be0) (by decide)
  have nb:=rE (E:=E) (B:=B) (C:=C) b0 e0 (aaH be1 (by omega)) (by omega) (by omega) ((ws.map χ).zip (ws.map (·.2.1))) (0,1) 0 (by rw [abw,aad,aad];omega) (by rw [Int.natCast_zero,Int.zero_mul];exact TH) (λp hp=>by
   obtain ⟨q1,q2⟩:=abD hp;obtain ⟨d1,m1,x1⟩:=aah.mp q1;obtain ⟨d2,m2,x2⟩:=aah.mp q2
   exact ⟨by rw [<-x1];exact (hw d1 m1).ch,by rw [<-x2];exact NU (hw d2 m2).py e0 (by omega) (by omega) c1⟩)
  have red:Red (iE ((ws.map χ).zip (ws.map (·.2.1)))):=zp _ _ ⟨by decide,by decide⟩ λp hp=>by obtain ⟨q1,q2⟩:=abD hp;obtain ⟨d1,m1,x1⟩:=aah.mp q1;obtain ⟨d2,m2,x2⟩:=aah.mp q2;exact ⟨by rw [<-x1];exact (hw d1 m1).ch.pos,by rw [<-x2];exact (hw d2 m2).py.red.pos⟩
  refine ⟨ε.2 * (B * E),⟨⟨λd hd=>(hw d hd).to,pos,by rw [one];grind⟩,λd hd=>⟨s0,su,(hw d hd).ch.pos,(hw d hd).ch.u, ?_⟩,⟨red, ?_, ?_⟩,se0,by omega⟩,UB _ (by omega),⟨Int.lt_of_le_of_lt se1 (by omega),by omega⟩,λd hd=>⟨_,(hw d hd).one⟩,λd hd=>(hw d hd).ch.sz⟩
  ·have:=zC E (rj s0 (hw d hd).ch.pos (ES ε) (hw d hd).ch.he);rwa [acq] at this
  ·have:=zC ε.2 nb.he;rwa [aa6] at this
  ·refine O1 red.pos nb.ab ?_;refine aaL ?_ (by omega);rw [abw,aad,aad];omega
theorem rw_at(h:i < γ.length):γ[i]? =some (fg γ i):=by unfold fg;rw [aab,aaa h];rfl
abbrev uQ(γ:List Rw)(Ι:Pl)(i:Nat):List bH:=Ql Ι i (fg γ i)
abbrev uU(γ:List Rw)(Ι:Pl)(i:Nat):Fr:=RC Ι i (fg γ i)
theorem FW.sys(fw:FW ε γ X C)(dk:fW γ Ι)(b1:1<=jg X C):Sys ε γ.length (jg X C) (uQ γ Ι) (uU γ Ι):=by obtain ⟨_,_,_,v0,v1,_⟩:=fw.sh;refine ⟨fw.n1,v0,v1,b1,λi hi=> ?_⟩;obtain ⟨E,p,l,_⟩:=fw.Hh dk (rw_at hi);exact ⟨E,_,p,l⟩
structure jy(ε:Fr)(γ:List Rw)(Ι:Pl)(tb:List Fr):Prop where
 tab:Tab ε γ.length (uQ γ Ι) (uU γ Ι) tb
 bot:∀i,i < γ.length->(tb.getD i (0,1)).2 < 2 ^ 1030
end
def IB(A:Addr):DF:=λas M q _=>∃ε γ i r k Ι X C,as=[ao A ε γ, .int (i:Nat), .loc k]/\M[k]? =some (dP Ι)/\γ[i]? =some r/\fW γ Ι/\FW ε γ X C/\∀E',q (cz (lQ ε γ.length i (Ql Ι i r) (RC Ι i r))) (M++E')
theorem ng:Ζ ["floor","place","doors","ways","paid"] ["floor","place","doors"] (ψ Bj):= .of rfl
theorem IL(F:cX K "row_of" "row_of" Bj f fd)(E:Ev K mg w Cm)(Υ:dz P w K mg base 1 Cm "kind" ["self","place"] (nh Cm) aQ aP){Mi:Addr}{LS:FuncData}(nQ:ax P w K mg base 5 "led_row" ["floor","place","ways","share","given"] (UW Cm) Mi LS){pD:Addr}{oR:FuncData}(fi:dz P w K mg base 2 Cm "pay" ["self","place"] (Qo Cm) pD oR){yZ:Addr}{yV:FuncData}(gz:dz P w K mg base 1 Cm "share" ["self"] (Ks Cm) yZ yV){GV:Addr}{FE:FuncData}(ma:ax P w K mg base 3 "ways_from" ["floor","place","doors"] (NR Cm) GV FE){rS:Addr}{sf:FuncData}(gE:ax P w K mg base 4 "weighed" ["chances","numbers"] tD rS sf):aj P w K mg base (b9 P w) 6 f fd ["floor","place","doors"] (cJ K (IB Cm)):=by
 refine F.dQ ng (λds M q x h=> ?_) (λaY A outer s H E' hr=>⟨_,(η (aF (dj hr (bX Υ hr ξ (jv 0) (Ο (jv 1) θ)) iB) (μ (Ε (ae nQ hr ξ (Ο (jv 0) (Ο (jv 1) (ι (lH θ) (ι (k7 gz hr ξ (jv 0)) (ι (bX fi hr ξ (jv 0) (Ο (jv 1) θ)) θ aV) aV))))))) Τ)
   (η (Α 3 ng.nd (ae ma hr ξ (Ο (jv 0) (Ο (jv 1) (Ο (jv 2) θ)))))
   (η (Α 4 ng.nd (ae gE hr ξ (ι (gx (ys:=[]) (ah:=[]) (.of ng rfl rfl rfl) (bx (jv 3)) (λC s H fp=>(Η (jv 0) υ))) (ι (gx (ys:=[]) (ah:=[]) (.of ng rfl rfl rfl) (bx (jv 3)) (λC s H fp=>(Η (jv 0) υ))) θ))))
   (μ (Ε (ae nQ hr ξ (Ο (jv 0) (Ο (jv 1) (Ο (jv 3) (ι (k7 gz hr ξ (jv 0)) (Ο (jv 4) θ) aV)))))))))),λds M q x h=> ?_⟩)
 ·obtain ⟨ε,γ,i,r,k,Ι,X,C,rfl,_⟩:=h;rfl
 ·obtain ⟨ε,γ,i,r,k,Ι,X,C,rfl,hk,hi,dk,fw,h⟩:=h;have il:=(aaf.mp hi).1;have qm:=fw.pl.len;have rm:r∈γ:=aam hi;have ro:=(fw.pl.row r rm).1;obtain ⟨Ep,p,_,sz,one,RD⟩:=fw.Hh dk hi;have sl:∀{z:Nat},z<=1000->z<=sizeLine:=λh=>aax h (by decide);refine ⟨⟨_,_, .inl rfl,rfl⟩,ε,γ,i,r,rfl,hi, ?_⟩;cases r with
  | fin pp=>
   refine ⟨λ_=> ?_,λz=>(nomatch z)⟩;walk_at "vc";refine ⟨sl (by decide), ?_⟩;refine ⟨⟨_,_, .inl rfl,rfl⟩,ε,γ,rfl, ?_⟩;refine ⟨⟨_,_, .inl rfl,rfl⟩,ε,γ,i, .fin pp,rfl,hi,ro, ?_⟩;exact ⟨ε,γ,i,[],pp,Ep,6 * C,rfl,il,qm,fw.pl.sh,one,p,sz,RD,h⟩
  | τ kd ds=>
   refine ⟨λz=>aaK (aap z) ro.1,λ_=> ?_⟩;obtain ⟨l6,_,_,B,E,b0,b1,e0,eX,hw⟩:=fw.Φ dk hi;have c9:=fw.c9;have c1:=fw.c1;have x1:=fw.x1;have h:∀E',q (cz (lQ ε γ.length i (aC Ι i (.τ kd ds)) (iE (((aC Ι i (.τ kd ds)).map χ).zip ((aC Ι i (.τ kd ds)).map (·.2.1)))))) (M++E'):=h;have p:vL ε γ.length Ep (6 * C) (aC Ι i (.τ kd ds)) (iE (((aC Ι i (.τ kd ds)).map χ).zip ((aC Ι i (.τ kd ds)).map (·.2.1)))):=p;have one:∀d∈aC Ι i (.τ kd ds),∃c,d.2.2=[c]:=one;have RD:∀d∈aC Ι i (.τ kd ds),Sz 300 (χ d):=RD;refine ⟨ε,γ,i, .τ kd ds,k,Ι,rfl,hk,hi,ro,dk, ?_⟩;generalize aC Ι i (.τ kd ds)=ws at *
   dsimp only [oZ,fM];walk_at "vc";refine ⟨by rw [aad];exact sl (by omega), ?_⟩;refine dE (F:=λx d=>x=eQ d/\d∈ws) (f:=λd=>Ν (χ d)) (as:=ws) trivial (λx d hx qq hq=> ?_) (jd eQ ws ws λx hx=>hx) ?_
   ·obtain ⟨rfl,hd⟩:=hx;walk_at "vc";exact Kk (hw d hd).one hq
   rw [aaX];refine ⟨by rw [aad];exact sl (by omega), ?_⟩;refine dE (F:=λx d=>x=eQ d/\d∈ws) (f:=λd=>Ν d.2.1) (as:=ws) trivial (λx d hx qq hq=> ?_) (jd eQ ws ws λx hx=>hx) ?_
   ·obtain ⟨rfl,hd⟩:=hx;walk_at "vc";exact yC hq
   rw [aaX];refine ⟨ws.map χ,ws.map (·.2.1),E,B,C,by rw [aaM,aaM];rfl,by rw [aad];exact l6,b0,e0, ?_,by omega,by omega,λc hc=> ?_,λc hc=> ?_, ?_⟩
   ·have:B * E<=1000000 * X:=abC b1 eX (aaj e0) (by decide);exact aaH this (by omega)
   ·obtain ⟨d,hd,rfl⟩:=aah.mp hc;exact (hw d hd).ch
   ·obtain ⟨d,hd,rfl⟩:=aah.mp hc;exact NU (hw d hd).py e0 (by omega) (by omega) c1
   refine ⟨⟨_,_, .inl rfl,rfl⟩,ε,γ,rfl, ?_⟩;exact ⟨ε,γ,i,ws,_,Ep,6 * C,rfl,il,qm,fw.pl.sh,one,p,sz,RD,h⟩
def U6(A:Addr):DF:=λas M q _=>∃ε γ k Ι X C,as=[ao A ε γ, .loc k]/\M[k]? =some (dP Ι)/\fW γ Ι/\FW ε γ X C/\jg X C<=2 ^ 450/\(12 * jg X C) ^ γ.length < 2 ^ 1030/\∀tb,jy ε γ Ι tb->q (.loc M.length) (M++[.lst (tb.map Ν)])
theorem rT:Ζ ["floor","doors"] ["floor","doors"] (ψ pd):= .of rfl
theorem yE(F:cX K "worths_by" "worths_by" pd f fd)(E:Ev K mg w Cm){E6:Addr}{Gz:FuncData}(mh:ax P w K mg base 4 "answer_of" ["rows"] wg E6 Gz)(aZ:dz P w K mg base 1 Cm "size" ["self"] (Af Cm) d_ ef){OF:Addr}{Rg:FuncData}(wB:ax P w K mg base 6 "row_of" ["floor","place","doors"] (IB Cm) OF Rg):aj P w K mg base (b9 P w) 7 f fd ["floor","doors"] (cJ K (U6 Cm)):=by
 refine F.dQ rT (λds M q x h=> ?_) (λaY A outer s H E' hr=>⟨_,(μ (Ε (ae mh hr ξ (ι (Iw (ys:=["floor","doors"]) (ah:=[0,1]) (.of rT rfl rfl rfl) (cw E.bU (ι (k7 aZ hr ξ (jv 0)) θ aV)) (λC s H fp=>(cN (ae wB hr (ia (P:=P) (w:=w)) (Ο (jv 1) (Ο (jv 0) (Ο (jv 2) θ))))))) θ)))),λds M q x h=> ?_⟩)
 ·obtain ⟨ε,γ,k,Ι,X,C,rfl,_⟩:=h;rfl
 ·obtain ⟨ε,γ,k,Ι,X,C,rfl,hk,dk,fw,jq,lG,h⟩:=h;have qm:=fw.pl.len;have n1:=fw.n1;have b1:1<=jg X C:=by obtain ⟨E,p,l,_⟩:=fw.Hh dk (rw_at (show 0 < γ.length by omega));have c9:=fw.c9;have:=aar (show 1<=E by have:=p.e0;omega) (show 0<=6 * C by omega);omega
  have S:=fw.sys dk b1;obtain ⟨tb,z,N,sol,n0,TU,tab,bot⟩:=S.ex qm;have sl:∀{z:Nat},z<=1000->z<=sizeLine:=λh=>aax h (by decide);walk_at "vc";dsimp only [IK];walk_at "vc";refine ⟨⟨_,_, .inl rfl,rfl⟩,ε,γ,rfl, ?_⟩;refine ⟨⟨by omega,by omega⟩,by rw [fU];exact sl (by omega), ?_⟩;refine ot (f:=λx=>match x with | .int j=>cz ((hX ε γ.length (uQ γ Ι) (uU γ Ι)).getD j.toNat []) | _=> .aU) _ _ (λx Xk q' hq=> ?_) ?_
  ·obtain ⟨j,hj,rfl⟩:=sM Xk;have hj:j < γ.length:=by omega
   rw [Int.zero_add] at hq⊢;have hq:q' (cz ((hX ε γ.length (uQ γ Ι) (uU γ Ι)).getD j [])) M:=hq;have e:(hX ε γ.length (uQ γ Ι) (uU γ Ι)).getD j []=lQ ε γ.length j (uQ γ Ι j) (uU γ Ι j):=by unfold hX;rw [aab,aao,aaS hj];rfl
   rw [e] at hq;exact ⟨ε,γ,j,fg γ j,k,Ι,X,C,rfl,hk,rw_at hj,dk,fw,λE'=>mJ (.old (gc _)) hq⟩
  have er:=D8 (hX ε γ.length (uQ γ Ι) (uU γ Ι)) [] cz;rw [kW] at er;rw [aaX,show ((γ.length:Int)).toNat=γ.length by omega];refine (λ(key:∀l,l=(hX ε γ.length (uQ γ Ι) (uU γ Ι)).map cz->wg [.lst l] M q _)=>key _ er) λl hl=> ?_;subst hl;have ln:∀r∈hX ε γ.length (uQ γ Ι) (uU γ Ι),r.length=γ.length+1:=λr ff=>by unfold hX at ff;obtain ⟨i,hi,rfl⟩:=aah.mp ff;obtain ⟨E,p,_⟩:=fw.Hh dk (rw_at (aba.mp hi));exact (C3 (aba.mp hi) p).1
  have bd:=S.bd;refine ⟨hX ε γ.length (uQ γ Ι) (uU γ Ι),γ.length,jg X C,tb,z,N,rfl,⟨by rw [kW];exact n1,by rw [kW];exact qm,qm,ln,by rw [kW];exact bd,jq⟩,n1,tab.len,by rw [kW];exact sol,n0,λi hi=>⟨(tab.red i hi).pos,(tab.red i hi).low,TU i hi⟩,by rw [kW];exact S.ker, ?_⟩;exact h tb ⟨tab,λi hi=>aaH (bot i hi) lG⟩
theorem JQ(x:Nat->Rat):∀n,∃i,i < n+1/\∀j,j < n+1->x i<=x j
 | 0=>⟨0,by omega,λj hj=>by rw [show j=0 by omega];grind⟩
 | n+1=>by
  obtain ⟨i,hi,h⟩:=JQ x n;by_cases c:x (n+1)<=x i
  ·refine ⟨n+1,by omega,λj hj=> ?_⟩;by_cases e:j=n+1
   ·rw [e];grind
   ·have:=h j (by omega);grind
  ·refine ⟨i,by omega,λj hj=> ?_⟩;by_cases e:j=n+1
   ·rw [e];grind
   ·exact h j (by omega)
theorem xW{n:Nat}{y:Nat->Rat}{m:Rat}(hm:∀j,j < n->m<=y j):∀{Φ:List bH},(∀d∈Φ,0<=d.1/\d.1 < n)->(∀d∈Φ,0<=cV d)->aw cV Φ * m<=aw (λd=>cV d * y d.1.toNat) Φ
 | [],_,_=>by show (0:Rat) * m<=0;grind
 | d::Φ,h1,h2=>by have i:=xW hm (λx hx=>h1 x (aac _ hx)) (λx hx=>h2 x (aac _ hx));have t:=h1 d aae;have:=aaW (hm d.1.toNat (by omega)) (h2 d aae);show (cV d+aw cV Φ) * m<=cV d * y d.1.toNat+aw (λd=>cV d * y d.1.toNat) Φ;grind
theorem QG{s:Rat}{ws:Nat->List bH}{δ r:Nat->Rat}(s0:0<=s)(s1:s < 1)(wo:∀i,i < n->Bc n (ws i))(h:∀i,i < n->δ i=r i+s * aw (λd=>cV d * δ d.1.toNat) (ws i))(r0:∀i,i < n->0<=r i):∀i,i < n->r i<=δ i:=λi hi=>by
 obtain ⟨k,rfl⟩:∃k,n=k+1:=⟨n - 1,by omega⟩;obtain ⟨t,ht,NT⟩:=JQ δ k;have nn:0<=δ t:=by
  by_cases c:0<=δ t
  ·exact c
  ·have g:=xW NT (wo t ht).to (wo t ht).c0;have o:=Rat.mul_le_mul_of_nonneg_right (wo t ht).one (show 0<= -δ t by grind);have g2:δ t<=aw (λd=>cV d * δ d.1.toNat) (ws t):=by grind
   have g3:=aaW g2 s0;have e:=h t ht;have r:=r0 t ht;have:=Rat.mul_pos (show 0 < 1 - s by grind) (show 0 < -δ t by grind);grind
 have g:=xW (y:=δ) (m:=0) (λj hj=>by have:=NT j hj;grind) (wo i hi).to (wo i hi).c0;have:=Rat.mul_nonneg s0 (show 0<=aw (λd=>cV d * δ d.1.toNat) (ws i) by grind);have e:=h i hi;grind
theorem u9(c:Rat)(f:bH->Rat):∀ds:List bH,aw (λd=>c * f d) ds=c * aw f ds
 | []=>by show (0:Rat)=c * 0;grind
 | d::ds=>by show c * f d+aw (λd=>c * f d) ds=c * (f d+aw f ds);rw [u9 c f ds];grind
section
variable{ε:Fr}{ws:Nat->List bH}{gv:Nat->Fr}{tb:List Fr}
def jF(ε:Fr)(ws:Nat->List bH)(gv:Nat->Fr)(x:Nat->Rat)(i:Nat):Rat:=val (gv i)+val ε * aw (λd=>cV d * x d.1.toNat) (ws i)
theorem Tab.cmp(S:Sys ε n B ws gv)(h:Tab ε n ws gv tb){x:Nat->Rat}{sg:Rat}(hr:∀i,i < n->0<=sg * (jF ε ws gv x i - x i)):∀i,i < n->sg * (jF ε ws gv x i - x i)<=sg * (val (tb.getD i (0,1)) - x i):=by
 refine QG (δ:=λi=>sg * (val (tb.getD i (0,1)) - x i)) (r:=λi=>sg * (jF ε ws gv x i - x i)) S.s0 S.s1 (ws:=ws) (λi hi=> ?_) (λi hi=> ?_) hr
 ·obtain ⟨E,C,p,_⟩:=S.Hh i hi;exact p.wo
 ·have e:=h.eq i hi;have l:aw (λd=>cV d * (sg * (val (tb.getD d.1.toNat (0,1)) - x d.1.toNat))) (ws i)=sg * (aw (λd=>cV d * val (tb.getD d.1.toNat (0,1))) (ws i) - aw (λd=>cV d * x d.1.toNat) (ws i)):=by rw [<-sV,<-u9];exact mF λd _=>by grind
  show sg * (val (tb.getD i (0,1)) - x i)=sg * (jF ε ws gv x i - x i)+val ε * aw (λd=>cV d * (sg * (val (tb.getD d.1.toNat (0,1)) - x d.1.toNat))) (ws i);rw [l,e];unfold jF;grind
end
def af:List (Int×Nat)->Pl->Prop
 | [],[]=>True
 | (k,c)::r,(k',v)::p=>k=k'/\0<=v/\v < c/\af r p
 | _,_=>False
def pP:List (Int×Nat)->List Pl
 | []=>[[]]
 | (k,c)::r=>(List.range c).flatMap λj:Nat=>(pP r).map λp=>(k,(j:Int))::p
theorem rJ:∀{kc:List (Int×Nat)} {p:Pl},af kc p->p∈pP kc
 | [],[],_=>aa7.mpr rfl
 | (k,c)::r,(k',v)::p,h=>by obtain ⟨rfl,v0,v1,h⟩:=h;refine List.mem_flatMap.mpr ⟨v.toNat,aba.mpr (by omega),aah.mpr ⟨p,rJ h, ?_⟩⟩;rw [ach v0]
 | [],_::_,h=>h.elim
 | _::_,[],h=>h.elim
theorem bN:∀{kc:List (Int×Nat)} {p:Pl},af kc p->p.map (·.1)=kc.map (·.1)
 | [],[],_=>rfl
 | (k,c)::r,(k',v)::p,h=>by obtain ⟨rfl,_,_,h⟩:=h;rw [aaJ,aaJ,bN h]
 | [],_::_,h=>h.elim
 | _::_,[],h=>h.elim
theorem AZ:∀{kc:List (Int×Nat)} {p:Pl} {i v:Int},af kc p->Λ p i=some v->∃c,(i,c)∈kc/\0<=v/\v < (c:Int)
 | [],[],_,_,_,h=>by cases h
 | (k,c)::r,(k',v')::p,i,v,h,g=>by
  obtain ⟨rfl,v0,v1,h⟩:=h;unfold Λ at g;split at g
  ·rename_i e;have e:k=i:=e;cases g;exact ⟨c,by rw [<-e];exact aae,v0,v1⟩
  ·obtain ⟨c',m,a⟩:=AZ h g;exact ⟨c',aac _ m,a⟩
 | [],_::_,_,_,h,_=>h.elim
 | _::_,[],_,_,h,_=>h.elim
theorem Ae:∀{kc:List (Int×Nat)} {p:Pl} {i v:Int},af kc p->(∀c,(i,c)∈kc->0<=v/\v < (c:Int))->af kc (p.map λq=>if q.1=i then (q.1,v) else q)
 | [],[],_,_,_,_=>trivial
 | (k,c)::r,(k',v')::p,i,v,h,g=>by
  obtain ⟨rfl,v0,v1,h⟩:=h;have ih:=Ae h λc hc=>g c (aac _ hc);show af ((k,c)::r) ((if k=i then (k,v) else (k,v'))::p.map λq=>if q.1=i then (q.1,v) else q);by_cases e:k=i
  ·rw [aaw e];have:=g c (by rw [<-e];exact aae);exact ⟨rfl,this.1,this.2,ih⟩
  ·rw [aav e];exact ⟨rfl,v0,v1,ih⟩
 | [],_::_,_,_,h,_=>h.elim
 | _::_,[],_,_,h,_=>h.elim
theorem nE{i:Int}:∀{p:Pl},i∈p.map (·.1)->(Λ p i).isSome=true
 | q::p,h=>by
  unfold Λ;split
  ·rfl
  ·rcases aaF.mp h with e | e
   ·rename_i ne;exact aaK e.symm ne
   ·exact nE e
theorem JL{p:Pl}{i v:Int}(h:af kc p)(hk:i∈kc.map (·.1))(g:∀c,(i,c)∈kc->0<=v/\v < (c:Int)):af kc (eD p i v):=by unfold eD;rw [aaw (nE (by rw [bN h];exact hk))];exact Ae h g
theorem BB{α:Type}{P Q:α->Bool}:∀{l:List α},(∀a∈l,P a=true->Q a=true)->∀{b:α},b∈l->Q b=true->P b=false->l.countP P < l.countP Q
 | a::l,h,b,hb,hq,hp=>by
  have le:l.countP P<=l.countP Q:=List.countP_mono_left λx hx=>h x (aac _ hx);rw [List.countP_cons,List.countP_cons];rcases aaF.mp hb with e | e
  ·subst e;rw [hq,hp];show l.countP P+0 < l.countP Q+1;omega
  ·have:=BB (λx hx=>h x (aac _ hx)) e hq hp;have ha:=h a aae;cases hP:P a with
   | false=>rw [aav (by decide)];split <;> omega
   | true=>rw [ha hP,aaw rfl];omega
noncomputable def Xx(ε:Fr)(γ:List Rw)(Ι:Pl)(i:Nat):Rat:=open Classical in if h:∃tb,jy ε γ Ι tb then val (h.choose.getD i (0,1)) else 0
noncomputable def B9(ε:Fr)(γ:List Rw)(sg:Rat)(Ι:Pl):Rat:=dN (λi=>sg * Xx ε γ Ι i) γ.length
theorem wc{ε:Fr}{γ:List Rw}{Ι:Pl}{X:Int}{tb:List Fr}(fw:FW ε γ X C)(dk:fW γ Ι)(b1:1<=jg X C)(h:jy ε γ Ι tb)(i:Nat):Xx ε γ Ι i=val (tb.getD i (0,1)):=by have ex:∃tb,jy ε γ Ι tb:=⟨tb,h⟩;unfold Xx;rw [dif_pos ex,(fw.sys dk b1).uniq ex.choose_spec.tab h.tab]
theorem xg{f g:Nat->Rat}:∀{n:Nat},(∀i,i < n->f i<=g i)->∀{k:Nat},k < n->f k < g k->dN f n < dN g n
 | n+1,h,k,hk,hl=>by
  have le:∀{m:Nat},(∀i,i < m->f i<=g i)->dN f m<=dN g m:=λ{m}=>by
   induction m with
   | zero=>intro _;show (0:Rat)<=0;grind
   | succ m ih=>
    intro h;have:=ih λi hi=>h i (abW hi);have:=h m (abq _);show dN f m+f m<=dN g m+g m;grind
  show dN f n+f n < dN g n+g n;by_cases e:k=n
  ·subst e;have:=le λi hi=>h i (abW hi);grind
  ·have:=xg (λi hi=>h i (abW hi)) (show k < n by omega) hl;have:=h n (abq _);grind
noncomputable def above(ε:Fr)(γ:List Rw)(sg:Rat)(mk:Pl->Pl)(kc:List (Int×Nat))(p:Pl):Nat:=open Classical in (pP kc).countP λq=>decide (B9 ε γ sg (mk p) < B9 ε γ sg (mk q))
theorem Hx{ε:Fr}{γ:List Rw}{sg:Rat}{mk:Pl->Pl}{p q:Pl}(hq:af kc q)(lt:B9 ε γ sg (mk p) < B9 ε γ sg (mk q)):above ε γ sg mk kc q < above ε γ sg mk kc p:=by unfold above;refine BB (λa _ ha=> ?_) (rJ hq) (decide_eq_true lt) (decide_eq_false (by grind));have:=aap ha;exact decide_eq_true (by grind)
def mU(ns:List Fr):Fr:=ns.foldl (λf n=>if cT f n then n else f) (ns.headD (0,1))
def mL(ns:List Fr):Fr:=ns.foldl (λf n=>if cT n f then n else f) (ns.headD (0,1))
def BM:DF:=λas M q _=>∃p r k l,as=[Ν p,Ν r]/\Sz k p/\Sz l r/\k+l+1<=8000/\q (.bl (cT p r)) M
theorem Lz:Ζ ["one","other"] ["one","other"] (ψ Bx):= .of rfl
theorem HK(F:cX K "under" "under" Bx f fd)(E:Ev K mg w Cm):aj P w K mg base (b9 P w) 1 f fd ["one","other"] (cJ K BM):=by
 refine F.dQ Lz (λds M q x h=> ?_) (λaY A outer s H E' hr=>⟨_,(μ (Ε (IY (av (Η (jv 0) υ) (Η (jv 1) υ)) (av (Η (jv 1) υ) (Η (jv 0) υ))))),λds M q x h=> ?_⟩)
 ·obtain ⟨p,r,k,l,rfl,_⟩:=h;rfl
 ·obtain ⟨p,r,k,l,rfl,hp,ff,hk,h⟩:=h;exact ⟨⟨fG hp (by omega),cZ ff (by omega)⟩,⟨fG ff (by omega),cZ hp (by omega)⟩,h⟩
def x6(f:List Fr->Fr):DF:=λas M q _=>∃ns:List Fr,as=[.lst (ns.map Ν)]/\ns≠[]/\(∀n∈ns,Sz 1300 n)/\q (Ν (f ns)) M
theorem jP:Ζ ["numbers","found","number"] ["numbers"] (ψ ow):= .of rfl
theorem Ac(F:cX K "greatest" "greatest" ow f fd)(E:Ev K mg w Cm){Cv:Addr}{CV:FuncData}(k_:ax P w K mg base 1 "under" ["one","other"] BM Cv CV):aj P w K mg base (b9 P w) 2 f fd ["numbers"] (cJ K (x6 mU)):=by
 refine F.dQ jP (λds M q x h=> ?_) (λaY A outer s H E' hr=>⟨_,(η (Α 1 jP.nd (Η (jv 0) υ))
   (η (cY (bx (jv 0)) (ar (i:=2) jP.nd rfl (Or.inl rfl)) aL (μ (aF (b8 (ae k_ hr ξ (Ο (jv 1) (Ο (jv 2) θ)))) (μ (Α 1 jP.nd (jv 2))) Τ)))
   (μ (Ε (jv 1))))),λds M q x h=> ?_⟩)
 ·obtain ⟨ns,rfl,_⟩:=h;rfl
 ·obtain ⟨ns,rfl,h0,hn,h⟩:=h;obtain ⟨n0,ns',rfl⟩:=abn h0;walk_at "vc";refine Θ (d:= .lst ((n0::ns').map Ν)) rfl bo ?_;refine eJ (i:=0) (d:= .lst ((n0::ns').map Ν)) rfl rfl ?_;refine bD (λxs ρ M'=>M'=M/\∃(rest:List Fr) (f:Fr) (a:Option Dt),xs=rest.map Ν/\(∀p∈rest,Sz 1300 p)/\Sz 1300 f/\rest.foldl (λf n=>if cT f n then n else f) f=mU (n0::ns')/\ρ=[some (.lst ((n0::ns').map Ν)),some (Ν f),a]) (λxs ρ M' hj=>trivial) (λx xs ρ M' hj e_=> ?_) (λρ M' hj=> ?_) _ _ _ ⟨rfl,n0::ns',n0,none,rfl,hn,hn n0 aae,rfl,rfl⟩
  ·obtain ⟨rfl,rest,f,a,ex,yt,hw,hf,rfl⟩:=hj;cases rest with
   | nil=>cases ex
   | cons p rest=>
    cases ex;have hp:=yt p aae;rw [abv] at hf;refine ⟨f,p,1300,1300,rfl,hw,hp,by decide,λz=> ?_,λz=> ?_⟩
    ·rw [z,aaw rfl] at hf;exact e_ _ _ ⟨rfl,rest,p,_,rfl,λp hp=>yt p (aac _ hp),hp,hf,rfl⟩
    ·rw [z,aav (by decide)] at hf;exact e_ _ _ ⟨rfl,rest,f,_,rfl,λp hp=>yt p (aac _ hp),hw,hf,rfl⟩
  ·obtain ⟨rfl,rest,f,a,ex,yt,hw,hf,rfl⟩:=hj;cases rest with
   | nil=>rw [<-hf] at h;exact h
   | cons p rest=>cases ex
theorem qw:Ζ ["numbers","found","number"] ["numbers"] (ψ Cb):= .of rfl
theorem JV(F:cX K "least" "least" Cb f fd)(E:Ev K mg w Cm){Cv:Addr}{CV:FuncData}(k_:ax P w K mg base 1 "under" ["one","other"] BM Cv CV):aj P w K mg base (b9 P w) 2 f fd ["numbers"] (cJ K (x6 mL)):=by
 refine F.dQ qw (λds M q x h=> ?_) (λaY A outer s H E' hr=>⟨_,(η (Α 1 qw.nd (Η (jv 0) υ))
   (η (cY (bx (jv 0)) (ar (i:=2) qw.nd rfl (Or.inl rfl)) aL (μ (aF (b8 (ae k_ hr ξ (Ο (jv 2) (Ο (jv 1) θ)))) (μ (Α 1 qw.nd (jv 2))) Τ)))
   (μ (Ε (jv 1))))),λds M q x h=> ?_⟩)
 ·obtain ⟨ns,rfl,_⟩:=h;rfl
 ·obtain ⟨ns,rfl,h0,hn,h⟩:=h;obtain ⟨n0,ns',rfl⟩:=abn h0;walk_at "vc";refine Θ (d:= .lst ((n0::ns').map Ν)) rfl bo ?_;refine eJ (i:=0) (d:= .lst ((n0::ns').map Ν)) rfl rfl ?_;refine bD (λxs ρ M'=>M'=M/\∃(rest:List Fr) (f:Fr) (a:Option Dt),xs=rest.map Ν/\(∀p∈rest,Sz 1300 p)/\Sz 1300 f/\rest.foldl (λf n=>if cT n f then n else f) f=mL (n0::ns')/\ρ=[some (.lst ((n0::ns').map Ν)),some (Ν f),a]) (λxs ρ M' hj=>trivial) (λx xs ρ M' hj e_=> ?_) (λρ M' hj=> ?_) _ _ _ ⟨rfl,n0::ns',n0,none,rfl,hn,hn n0 aae,rfl,rfl⟩
  ·obtain ⟨rfl,rest,f,a,ex,yt,hw,hf,rfl⟩:=hj;cases rest with
   | nil=>cases ex
   | cons p rest=>
    cases ex;have hp:=yt p aae;rw [abv] at hf;refine ⟨p,f,1300,1300,rfl,hp,hw,by decide,λz=> ?_,λz=> ?_⟩
    ·rw [z,aaw rfl] at hf;exact e_ _ _ ⟨rfl,rest,p,_,rfl,λp hp=>yt p (aac _ hp),hp,hf,rfl⟩
    ·rw [z,aav (by decide)] at hf;exact e_ _ _ ⟨rfl,rest,f,_,rfl,λp hp=>yt p (aac _ hp),hw,hf,rfl⟩
  ·obtain ⟨rfl,rest,f,a,ex,yt,hw,hf,rfl⟩:=hj;cases rest with
   | nil=>rw [<-hf] at h;exact h
   | cons p rest=>cases ex
structure HS(ε:Fr)(γ:List Rw)(tb:List Fr):Prop where
 sh:aS ε=true
 len:γ.length<=12
 row:∀r∈γ,f_ r/\fE r γ.length=true
 tl:tb.length=γ.length
 ts:∀t∈tb,Sz 1150 t
def fe(ε:Fr)(tb:List Fr):Rw->Fr
 | .fin p=>p
 | .τ k ds=>if k="one" then mU (ds.map (Ω ε tb)) else mL (ds.map (Ω ε tb))
def cK(ε:Fr)(tb:List Fr):Rw->List Nat
 | .fin _=>[]
 | .τ k ds=>if Γ k then (List.range ds.length).filter λj=>decide (Ω ε tb (ds.getD j d0)=fe ε tb (.τ k ds)) else []
theorem AF{ε:Fr}{γ:List Rw}{tb:List Fr}{k:Str}{ds:List bH}(f:HS ε γ tb)(h:Rw.τ k ds∈γ):ag ds γ.length=true/\(Γ k=true\/k="chance"):=by
 have h2:=(f.row _ h).2;have h2:(if Γ k then ag ds γ.length else if k="chance" then ag ds γ.length&&ai (ds.map χ) else false)=true:=h2;by_cases hk:Γ k=true
 ·rw [aaw hk] at h2;exact ⟨h2, .inl hk⟩
 ·rw [aav hk] at h2;by_cases hc:k="chance"
  ·rw [aaw hc,aaq] at h2;exact ⟨h2.1, .inr hc⟩
  ·rw [aav hc] at h2;cases h2
theorem D'{ε:Fr}{γ:List Rw}{tb:List Fr}{k:Str}{ds:List bH}{d:bH}(f:HS ε γ tb)(h:Rw.τ k ds∈γ)(hd:d∈ds):0<=d.1/\d.1 < γ.length/\Sz 101 d.2.1:=by have h2:=(AF f h).1;unfold ag at h2;rw [aaq,aaq] at h2;have h3:=abQ.mp h2.2 d hd;unfold aN at h3;rw [aaq,aaq,aan,aan] at h3;exact ⟨h3.1,h3.2.1,CS h3.2.2 ((f.row _ h).1.2.2.2 d hd).2⟩
theorem JM{ε:Fr}{γ:List Rw}{tb:List Fr}{k:Str}{ds:List bH}(f:HS ε γ tb)(h:Rw.τ k ds∈γ):1<=ds.length/\ds.length<=6:=by have h2:=(AF f h).1;unfold ag at h2;rw [aaq,aaq,aan,aan] at h2;exact h2.1
theorem Ed{ε:Fr}{γ:List Rw}{tb:List Fr}(f:HS ε γ tb)(h0:0<=t)(h1:t < γ.length):mw (tb.map Ν) t=some (Ν (ua tb t))/\Sz 1150 (ua tb t):=by
 have hl:t.toNat < tb.length:=by rw [f.tl];omega
 have e:ua tb t=tb[t.toNat]:=by unfold ua;rw [List.getD_eq_getElem?_getD,List.getElem?_eq_getElem hl];rfl
 refine ⟨?_,by rw [e];exact f.ts _ (aaE hl)⟩;have e2:(tb.map Ν)[t.toNat]? =some (Ν (ua tb t)):=by rw [aao,aaa hl,e];rfl
 have:=Κ e2;rwa [show ((t.toNat:Nat):Int)=t by omega] at this
theorem Kw{ε:Fr}{γ:List Rw}{tb:List Fr}{k:Str}{ds:List bH}{d:bH}(f:HS ε γ tb)(h:Rw.τ k ds∈γ)(hd:d∈ds):Sz 1300 (Ω ε tb d):=by obtain ⟨a,b,c⟩:=D' f h hd;exact qM (MC c (zk (ny f.sh) (Ed f a b).2)) (by decide)
theorem Tc(p q:Fr):nF [.int p.1, .int p.2] [.int q.1, .int q.2]=decide (p=q):=by
 obtain ⟨a,b⟩:=p;obtain ⟨c,d⟩:=q;show ((a==c)&&((b==d)&&true))=_;rw [Bool.and_true];by_cases h1:a=c
 ·by_cases h2:b=d
  ·subst h1 h2;simp
  ·have:¬((a,b)=(c,d)):=λz=>h2 (Prod.mk.inj z).2;rw [decide_eq_false this];simp [h2]
 ·have:¬((a,b)=(c,d)):=λz=>h1 (Prod.mk.inj z).1;rw [decide_eq_false this];simp [h1]
theorem R1{p r:Fr}{k:Bool->Ms->Prop}(h:k (decide (p=r)) M):Cs (Ν p) (Ν r) M (λd M1=>match d with | .bl b=>k b M1 | _=>False):=by show k (nF [.int p.1, .int p.2] [.int r.1, .int r.2]) M;rw [Tc];exact h
theorem qa(p:Fr->Bool):∀(xs:List Fr) (n:Nat),((i9 n (xs.map Ν)).filter (λx=>match x with | .tup [_, .tup [.int a, .int b]]=>p (a,b) | _=>false)).map (λx=>match x with | .tup [i,_]=>i | _=> .aU)=((List.range xs.length).filter λj=>p (xs.getD j (0,1))).map λj:Nat=>Dt.int ((n+j:Nat):Int)
 | [],n=>rfl
 | x::xs,n=>by
  have ih:=qa p xs (n+1);rw [aaC,abM,aaJ];show (List.filter _ (.tup [.int n,Ν x]::i9 (n+1) (xs.map Ν))).map _=_;have e1:((List.map Nat.succ (List.range xs.length)).filter λj=>p ((x::xs).getD j (0,1)))=((List.range xs.length).filter λj=>p (xs.getD j (0,1))).map Nat.succ:=by rw [List.filter_map];rfl
  by_cases hp:p x=true
  ·have h1:(match Dt.tup [.int n,Ν x] with | .tup [_, .tup [.int a, .int b]]=>p (a,b) | _=>false)=true:=hp;rw [ab2 (by exact h1),ab2 (by exact hp),aaJ,aaJ,ih,e1,aaM]
   congr 1
   apply abb;intro j _;show Dt.int _=Dt.int _
   congr 2;omega
  ·have h1:¬(match Dt.tup [.int n,Ν x] with | .tup [_, .tup [.int a, .int b]]=>p (a,b) | _=>false)=true:=hp;rw [ab3 (by exact h1),ab3 (by exact hp),ih,e1,aaM];apply abb;intro j _;show Dt.int _=Dt.int _
   congr 2;omega
def Jn(C:Addr):DF:=λas M q _=>∃ε γ tb td i j k ds d,as=[ao C ε γ, .int (i:Nat), .int (j:Nat),td]/\γ[i]? =some (.τ k ds)/\ds[j]? =some d/\HS ε γ tb/\fR M td=some (tb.map Ν)/\q (Ν (Ω ε tb d)) M
theorem nL:Ζ ["self","place","door","table","taken"] ["self","place","door","table"] (ψ ky):= .of rfl
theorem uB(F:cX K "shown" "Floor.shown" ky f fd)(E:Ev K mg w Cm){IV:Addr}{IU:FuncData}(oq:ax P w K mg base 3 "plus" ["one","other"] Ia IV IU)(gA:ax P w K mg base 3 "times" ["one","other"] xR qQ r_):aj P w K mg base (b9 P w) 4 f fd ["self","place","door","table"] (cJ K (Jn Cm)):=by
 refine F.dQ nL (λds M q x h=> ?_) (λaY A outer s H E' hr=>⟨_,(η (Α 4 nL.nd (Η (Η (Η (q_ E.dU E.cE (jv 0)) (jv 1)) υ) (jv 2)))
   (μ (Ε (ae oq hr ξ (ι (Η (jv 4) υ) (ι (ae gA hr ξ (ι (q_ E.dU E.fA (jv 0)) (ι (Η (jv 3) (Η (jv 4) υ)) θ aX))) θ aV) aX))))),λds M q x h=> ?_⟩)
 ·obtain ⟨ε,γ,tb,td,i,j,k,ds,d,rfl,_⟩:=h;rfl
 ·obtain ⟨ε,γ,tb,td,i,j,k,ds,d,rfl,hi,hj,f,ht,h⟩:=h;have hm:Rw.τ k ds∈γ:=aam hi;have hd:d∈ds:=aam hj;obtain ⟨a,b,c⟩:=D' f hm hd;obtain ⟨t1,t2⟩:=Ed f a b;have hdj:(ds.map eQ)[j]? =some (eQ d):=by rw [aao,hj];rfl
  refine ⟨_,_,_, .inl rfl,rfl, ?_⟩;walk_at "vc";refine Θ (xs:=γ.map az) rfl (Κ (n9 hi)) (El (Θ (d:= .lst (ds.map eQ)) rfl (Κ hdj) ?_));refine yC ⟨_,_,_, .inl rfl,rfl,Ey (Θ (d:=td) ht t1 ⟨ε,ua tb d.1,11,1150,rfl,ny f.sh,t2,by decide,d.2.1,_,101,1161,rfl,c,zk (ny f.sh) t2,by decide,h⟩)⟩
def pJ(C:Addr):DF:=λas M q _=>∃ε γ tb td i k ds,as=[ao C ε γ, .int (i:Nat),td]/\γ[i]? =some (.τ k ds)/\HS ε γ tb/\fR M td=some (tb.map Ν)/\q (.lst (ds.map λd=>Ν (Ω ε tb d))) M
theorem jS:Ζ ["self","place","table"] ["self","place","table"] (ψ gP):= .of rfl
theorem oj(F:cX K "all_shown" "Floor.all_shown" gP f fd)(E:Ev K mg w Cm)(aO:dz P w K mg base 2 Cm "doors" ["self","place"] (tP Cm) df de){zM:Addr}{zL:FuncData}(jA:dz P w K mg base 4 Cm "shown" ["self","place","door","table"] (Jn Cm) zM zL):aj P w K mg base (b9 P w) 5 f fd ["self","place","table"] (cJ K (pJ Cm)):=by
 refine F.dQ jS (λds M q x h=> ?_) (λaY A outer s H E' hr=>⟨_,(μ (Ε (Iw (ys:=["place","table","self"]) (ah:=[1,2,0]) (.of jS rfl rfl rfl) (cw E.bU (ι (cq E.bC (ι (cN (bX aO hr ξ (jv 0) (Ο (jv 1) θ))) θ aV)) θ aV)) (λC s H fp=>(bX jA hr (ia (P:=P) (w:=w)) (jv 3) (Ο (jv 1) (Ο (jv 0) (Ο (jv 2) θ)))))))),λds M q x h=> ?_⟩)
 ·obtain ⟨ε,γ,tb,td,i,k,ds,rfl,_⟩:=h;rfl
 ·obtain ⟨ε,γ,tb,td,i,k,ds,rfl,hi,f,ht,h⟩:=h;have hm:Rw.τ k ds∈γ:=aam hi;have ro:=(f.row _ hm).1;have l6:=JM f hm;refine ⟨⟨_,_, .inl rfl,rfl⟩,ε,γ,i, .τ k ds,rfl,hi,ro,cW (ds:=ds.map eQ) (iq ds) ?_⟩;walk_at "vc";refine aE (d:= .lst (ds.map eQ)) (xs:=ds.map eQ) rfl ?_;rw [aad];refine ⟨⟨by omega,by omega⟩,by rw [fU];exact aax (show _<=6 by omega) (by decide), ?_⟩;refine ot (f:=λx=>match x with | .int j=>Ν (Ω ε tb (ds.getD j.toNat d0)) | _=> .aU) _ _ (λx Xk q' hq=> ?_) ?_
  ·obtain ⟨j,hj,rfl⟩:=sM Xk;have hj:j < ds.length:=by omega
   have e:ds.getD (0+(j:Int)).toNat d0=ds[j]:=by rw [show (0+(j:Int)).toNat=j by omega,aab,aaa hj];rfl
   have hq:q' (Ν (Ω ε tb (ds.getD (0+(j:Int)).toNat d0))) M:=hq;rw [e] at hq;refine ⟨⟨_,_, .inl rfl,rfl⟩,ε,γ,tb,td,i,j,k,ds,ds[j],by rw [Int.zero_add],hi,aaa hj,f,ht,hq⟩
  ·rw [aaX,show ((ds.length:Int)).toNat=ds.length by omega];exact (λ(key:∀l,l=ds.map (λd=>Ν (Ω ε tb d))->q (.lst l) M)=>key _ (D8 ds d0 (λd=>Ν (Ω ε tb d)))) λl hl=>by rw [hl];exact h
def NW(C:Addr):DF:=λas M q _=>∃ε γ tb td i r,as=[ao C ε γ, .int (i:Nat),td]/\γ[i]? =some r/\Γ (kindOf r)=true/\HS ε γ tb/\fR M td=some (tb.map Ν)/\q (Ν (fe ε tb r)) M
theorem kN:Ζ ["self","place","table","kind"] ["self","place","table"] (ψ mT):= .of rfl
theorem yb(F:cX K "look" "Floor.look" mT f fd)(E:Ev K mg w Cm)(Υ:dz P w K mg base 1 Cm "kind" ["self","place"] (nh Cm) aQ aP){pD:Addr}{oR:FuncData}(fi:dz P w K mg base 2 Cm "pay" ["self","place"] (Qo Cm) pD oR){rS:Addr}{sf:FuncData}(gE:ax P w K mg base 4 "weighed" ["chances","numbers"] tD rS sf){gO:Addr}{g7:FuncData}(a_:dz P w K mg base 5 Cm "all_shown" ["self","place","table"] (pJ Cm) gO g7)(aO:dz P w K mg base 2 Cm "doors" ["self","place"] (tP Cm) df de){ET:Addr}{Gm:FuncData}(my:ax P w K mg base 2 "greatest" ["numbers"] (x6 mU) ET Gm){P6:Addr}{Qs:FuncData}(xB:ax P w K mg base 2 "least" ["numbers"] (x6 mL) P6 Qs):aj P w K mg base (b9 P w) 6 f fd ["self","place","table"] (cJ K (NW Cm)):=by
 refine F.dQ kN (λds M q x h=> ?_) (λaY A outer s H E' hr=>⟨_,(η (Α 3 kN.nd (bX Υ hr ξ (jv 0) (Ο (jv 1) θ)))
   (η (aF (dj hr (jv 3) iB) (μ (Ε (bX fi hr ξ (jv 0) (Ο (jv 1) θ)))) Τ)
   (η (aF (dj hr (jv 3) iB) (μ (Ε (ae gE hr ξ (ι (gx (ys:=[]) (ah:=[]) (.of kN rfl rfl rfl) (bx (cN (bX aO hr ξ (jv 0) (Ο (jv 1) θ)))) (λC s H fp=>(Η (jv 0) υ))) (ι (bX a_ hr ξ (jv 0) (Ο (jv 1) (Ο (jv 2) θ))) θ aV))))) Τ)
   (η (aF (dj hr (jv 3) iB) (μ (Ε (ae my hr ξ (ι (bX a_ hr ξ (jv 0) (Ο (jv 1) (Ο (jv 2) θ))) θ aV)))) Τ)
   (μ (Ε (ae xB hr ξ (ι (bX a_ hr ξ (jv 0) (Ο (jv 1) (Ο (jv 2) θ))) θ aV)))))))),λds M q x h=> ?_⟩)
 ·obtain ⟨ε,γ,tb,td,i,r,rfl,_⟩:=h;rfl
 ·obtain ⟨ε,γ,tb,td,i,r,rfl,hi,hand,f,ht,h⟩:=h;have hm:r∈γ:=aam hi;have ro:=(f.row _ hm).1;refine ⟨⟨_,_, .inl rfl,rfl⟩,ε,γ,i,r,rfl,hi, ?_⟩;cases r with
  | fin p=>exact ⟨λ_=>⟨⟨_,_, .inl rfl,rfl⟩,ε,γ,i, .fin p,rfl,hi,ro,h⟩,λz=>(nomatch z)⟩
  | τ k ds=>
   have l6:=JM f hm;have eS:ds.map (λd=>Ν (Ω ε tb d))=(ds.map (Ω ε tb)).map Ν:=by rw [aaM];rfl
   have hS:∀n∈ds.map (Ω ε tb),Sz 1300 n:=λn hn=>by obtain ⟨d,hd,rfl⟩:=aah.mp hn;exact Kw f hm hd
   have hN:ds.map (Ω ε tb)≠[]:=λz=>by have:=aaZ List.length z;rw [aad] at this;simp at this;rw [this] at l6;exact aaK l6.1 (by decide)
   refine ⟨λz=>aaK (aap z) ro.1,λ_=>⟨λz=> ?_,λz=> ?_⟩⟩
   ·have z:k="chance":=aap z;rw [z] at hand;exact aaK hand (by show¬Γ (Str.ofString "chance")=true;decide)
   ·have z:k≠"chance":=aa3 z;refine ⟨λz1=> ?_,λz1=> ?_⟩
    ·have z1:k="one":=aap z1;have e1:fe ε tb (.τ k ds)=mU (ds.map (Ω ε tb)):=aaw z1;rw [e1] at h;refine ⟨⟨_,_, .inl rfl,rfl⟩,ε,γ,tb,td,i,k,ds,rfl,hi,f,ht, ?_⟩;rw [eS];exact ⟨_,rfl,hN,hS,h⟩
    ·have z1:k≠"one":=aa3 z1;have e1:fe ε tb (.τ k ds)=mL (ds.map (Ω ε tb)):=aav z1;rw [e1] at h;refine ⟨⟨_,_, .inl rfl,rfl⟩,ε,γ,tb,td,i,k,ds,rfl,hi,f,ht, ?_⟩;rw [eS];exact ⟨_,rfl,hN,hS,h⟩
def Ov(C:Addr):DF:=λas M q _=>∃ε γ tb td i r,as=[ao C ε γ, .int (i:Nat),td]/\γ[i]? =some r/\HS ε γ tb/\fR M td=some (tb.map Ν)/\q (.lst ((cK ε tb r).map λj:Nat=>Dt.int j)) M
theorem kg:Ζ ["self","place","table","look"] ["self","place","table"] (ψ l_):= .of rfl
theorem xf(F:cX K "best" "Floor.best" l_ f fd)(E:Ev K mg w Cm)(Υ:dz P w K mg base 1 Cm "kind" ["self","place"] (nh Cm) aQ aP){BR:Addr}{BN:FuncData}(kD:dz P w K mg base 6 Cm "look" ["self","place","table"] (NW Cm) BR BN){gO:Addr}{g7:FuncData}(a_:dz P w K mg base 5 Cm "all_shown" ["self","place","table"] (pJ Cm) gO g7):aj P w K mg base (b9 P w) 7 f fd ["self","place","table"] (cJ K (Ov Cm)):=by
 refine F.dQ kg (λds M q x h=> ?_) (λaY A outer s H E' hr=>⟨_,(η (aF (vG (bX Υ hr ξ (jv 0) (Ο (jv 1) θ)) (KD E.xN)) (μ (Ε (lH θ))) Τ)
   (η (Α 3 kg.nd (bX kD hr ξ (jv 0) (Ο (jv 1) (Ο (jv 2) θ))))
   (μ (Ε (JJ (ys:=["look"]) (ah:=[3]) (.of kg rfl rfl rfl) (wW E.eN (ι (bX a_ hr ξ (jv 0) (Ο (jv 1) (Ο (jv 2) θ))) θ aV)) (λC s H fp=>(dj hr (jv 1) (jv 2))) (λC s H fp=>(jv 0))))))),λds M q x h=> ?_⟩)
 ·obtain ⟨ε,γ,tb,td,i,r,rfl,_⟩:=h;rfl
 ·obtain ⟨ε,γ,tb,td,i,r,rfl,hi,f,ht,h⟩:=h;have hm:r∈γ:=aam hi;have ro:=(f.row _ hm).1;refine ⟨⟨_,_, .inl rfl,rfl⟩,ε,γ,i,r,rfl,hi, .str (kindOf r),[.str "one", .str "other"],[.str "one", .str "other"],rfl,rfl,rfl, ?_⟩;rw [qR];cases r with
  | fin p=>exact ⟨λ_=>⟨by decide,h⟩,λz=>(nomatch (show (!Γ "end")=false from z))⟩
  | τ k ds=>
   have l6:=JM f hm;refine ⟨λz=> ?_,λz=> ?_⟩
   ·have z:Γ k=false:=by have:(!Γ k)=true:=z;simpa using this
    have e1:cK ε tb (.τ k ds)=[]:=aav (by rw [z];decide);rw [e1] at h;exact ⟨by decide,h⟩
   ·have z:Γ k=true:=by have:(!Γ k)=false:=z;simpa using this
    have e1:cK ε tb (.τ k ds)=(List.range ds.length).filter λj=>decide (Ω ε tb (ds.getD j d0)=fe ε tb (.τ k ds)):=aaw z;rw [e1] at h;refine ⟨⟨_,_, .inl rfl,rfl⟩,ε,γ,tb,td,i, .τ k ds,rfl,hi,z,f,ht, ?_⟩;refine ⟨⟨_,_, .inl rfl,rfl⟩,ε,γ,tb,td,i,k,ds,rfl,hi,f,ht, ?_⟩;generalize fe ε tb (.τ k ds)=lk at *
    have eS:ds.map (λd=>Ν (Ω ε tb d))=(ds.map (Ω ε tb)).map Ν:=by rw [aaM];rfl
    rw [eS];refine ⟨_,_,_,rfl,rfl,by rw [jw,aad,aad];exact aax l6.2 (by decide), ?_⟩;refine gm trivial (λx=>match x with | .tup [_, .tup [.int a, .int b]]=>decide ((a,b)=lk) | _=>false) (λx=>match x with | .tup [i,_]=>i | _=> .aU) _ _ (λx hx q' p' h1 h2=> ?_) ?_
    ·obtain ⟨j,hj,ej⟩:=abf hx;obtain ⟨y,hy,rfl⟩:=pE (n:=0) (i:=j) (aaf.mpr ⟨hj,ej⟩);rw [aao] at hy;obtain ⟨s0,hs0,rfl⟩:=Option.map_eq_some_iff.mp hy;have h1:decide (s0=lk)=true->q' (.int ((0+j:Nat):Int)) M:=h1;have h2:decide (s0=lk)=false->p' M:=h2;clear hx hj ej hy;have key:Cs (Ν s0) (Ν lk) M (λd M1=>match d with | .bl b=>(match b with | true=>q' (.int ((0+j:Nat):Int)) M1 | false=>p' M1) | _=>False):=by
      refine R1 (k:=λb M1=>match b with | true=>q' (.int ((0+j:Nat):Int)) M1 | false=>p' M1) ?_;cases hb:decide (s0=lk) with
      | true=>exact h1 hb
      | false=>exact h2 hb
     exact key
    ·rw [aaX,qa (λs0=>decide (s0=lk)) (ds.map (Ω ε tb)) 0,aad];have e3:∀j∈List.range ds.length,decide ((ds.map (Ω ε tb)).getD j (0,1)=lk)=decide (Ω ε tb (ds.getD j d0)=lk):=λj hj=>by have hj:=aba.mp hj;rw [aab,aao,aab,aaa hj];rfl
     rw [List.filter_congr e3];have e4:∀l:List Nat,(l.map λj:Nat=>Dt.int ((0+j:Nat):Int))=l.map λj:Nat=>Dt.int j:=λl=>abb λj _=>by rw [Nat.zero_add]
     rw [e4];exact h
end
end Pg
namespace L2
open PySem
theorem yT{g:Dt->En->(En->Prop)->Prop}{tb:DS}{Dn:lI}{k:Nat}{u:Addr->HO}{m:MO}(J:List Key->En->Ms->Prop)(bc:∀xs ρ M,J xs ρ M->M[k]? =some (.raw u))
  (step:∀x xs ρ M,J (x::xs) ρ M->(∀ρ M,J xs ρ M->ug g tb Dn k u m xs ρ M)->g (JZ x) ρ λρ'=>tb {Dn with nx:=ug g tb Dn k u m xs,ct:=ug g tb Dn k u m xs,bk:=λρ M=>M[k]? =some (.raw u)/\Dn.nx ρ (M.set k m)} ρ' M)
  (fin:∀ρ M,J [] ρ M->Dn.nx ρ (M.set k m)):∀(xs:List Key) (ρ:En) (M:Ms),J xs ρ M->ug g tb Dn k u m xs ρ M
 | [],ρ,M,h=>⟨bc _ _ _ h,fin _ _ h⟩
 | x::xs,ρ,M,h=>⟨bc _ _ _ h,step x xs ρ M h λρ' M' h'=>yT J bc step fin xs ρ' M' h'⟩
end L2
namespace Pg
open PySem L2 Fr0 Tx
variable{M:Ms}{xs:List Dt}{ds:List bH}{mg:Str->Option Value}{f cC eE:Addr}{fd cI et:FuncData}{ε:Fr}{γ:List Rw}{tb nI:List Fr}{X C a b:Int}{Ι bP p:Pl}{i j n:Nat}{r:Rw}{d:bH}{hand ο z:Str}{its:Array Value}{cB:Bool}{Ts:List Nat}
def iN(ε:Fr)(γ:List Rw)(tb:List Fr)(i:Int):List Nat:=match γ[i.toNat]? with
 | some r=>cK ε tb r
 | none=>[]
def A3(l:List Nat)(v:Int):Bool:=Rh (.int v) (l.map λj:Nat=>V.int j)
def qd(ε:Fr)(γ:List Rw)(tb:List Fr)(p:Int×Int):Pl:=if A3 (iN ε γ tb p.1) p.2 then [] else [(p.1,((iN ε γ tb p.1).headD 0:Nat))]
def Β(ε:Fr)(γ:List Rw)(tb:List Fr)(pl:Pl):Pl:=pl.flatMap (qd ε γ tb)
theorem vv:∀l:List Nat,gY (l.map λj:Nat=>Dt.int j)=some (l.map λj:Nat=>V.int j)
 | []=>rfl
 | j::l=>by have ih:=vv l;rw [aaJ,aaJ];unfold gY;rw [ih];rfl
theorem K5{k:Nat}{m:MO}(h:M[k]? =some m):M.set k m=M:=by
 apply acv;intro i;rw [List.getElem?_set];split
 ·rename_i e;subst e;rw [aaw (aaf.mp h).1,h]
 ·rfl
theorem wR(pl:Pl):vP pl=(pl.map (·.2)).map Dt.int:=by unfold vP;rw [List.map_map];rfl
theorem fT{ε:Fr}{γ:List Rw}{tb:List Fr}{i:Int}:∀{pl:Pl},i∈(Β ε γ tb pl).map (·.1)->i∈pl.map (·.1)
 | p::r,h=>by
  unfold Β at h;rw [List.flatMap_cons,aa2] at h;rcases aaQ.mp h with z | z
  ·unfold qd at z;split at z
   ·cases z
   ·rw [aaJ];exact aaF.mpr (.inl (aa7.mp z))
  ·exact aac _ (fT z)
theorem jC{ε:Fr}{γ:List Rw}{tb:List Fr}:∀pl:Pl,(Β ε γ tb pl).length<=pl.length
 | []=>aai _
 | p::r=>by
  have ih:=jC (ε:=ε) (γ:=γ) (tb:=tb) r;unfold Β at ih⊢;rw [List.flatMap_cons,aag,aaC];have:(qd ε γ tb p).length<=1:=by
   unfold qd;split
   ·exact ab5 _
   ·exact aai _
  omega
theorem nj{i:Int}:∀{pl:Pl},i∉pl.map (·.1)->Λ pl i=none
 | [],_=>rfl
 | p::r,h=>by unfold Λ;rw [aav λz=>h (by rw [<-z];exact aae)];exact nj λz=>h (aac _ z)
theorem Mn{E:Ms}{td:Dt}(h:fR M td=some xs):fR (M++E) td=some xs:=by
 cases td with
 | loc j=>
  have h:(match M[j]? with | some (.lst xs)=>some xs | _=>none)=some xs:=h;show (match (M++E)[j]? with | some (.lst xs)=>some xs | _=>none)=some xs;cases e:M[j]? with
  | none=>rw [e] at h;cases h
  | some m=>rw [bt e];rw [e] at h;exact h
 | _=>exact h
theorem Mv{td:Dt}{k:Nat}{ks:List Key}{ds:List Dt}{m:MO}(h:fR M td=some xs)(hk:M[k]? =some (.eO ks ds)):fR (M.set k m) td=some xs:=by
 cases td with
 | loc j=>
  have h:(match M[j]? with | some (.lst xs)=>some xs | _=>none)=some xs:=h;show (match (M.set k m)[j]? with | some (.lst xs)=>some xs | _=>none)=some xs;rw [abi (λz=>by rw [<-z,hk] at h;cases h)];exact h
 | _=>exact h
section
variable{P:Program}{w:World}{K:fI}{base:Heap}{Cm:Addr}
def wd(A:Addr):DF:=λas M q _=>∃(ε:Fr) (γ:List Rw) (tb:List Fr) (td:Dt) (k:Nat) (pl:Pl),as=[ao A ε γ, .loc k,td]/\M[k]? =some (dP pl)/\HS ε γ tb/\fR M td=some (tb.map Ν)/\vJ pl/\pl.length<=12/\(∀p∈pl,0<=p.1/\∃r,γ[p.1.toNat]? =some r/\Γ (kindOf r)=true/\cK ε tb r≠[])/\q (.loc M.length) (M++[dP (Β ε γ tb pl)])
theorem fJ:Ζ ["floor","plan","table","better","place","best"] ["floor","plan","table"] (ψ jr):= .of rfl
theorem si(F:cX K "better_doors" "better_doors" jr f fd)(E:Ev K mg w Cm){Bi:Addr}{Cy:FuncData}(j_:dz P w K mg base 7 Cm "best" ["self","place","table"] (Ov Cm) Bi Cy):aj P w K mg base (b9 P w) 8 f fd ["floor","plan","table"] (cJ K (wd Cm)):=by
 refine F.dQ fJ (λds M q x h=> ?_) (λaY A outer s H E' hr=>⟨_,(η (Α 3 fJ.nd xS)
   (η (NA (jv 1) (ar (i:=4) fJ.nd rfl (Or.inl rfl)) aL (η (Α 5 fJ.nd (bX j_ hr ξ (jv 0) (Ο (jv 4) (Ο (jv 2) θ))))
   (μ (aF (vG (LH (jv 1) (jv 4)) (jv 5)) (μ (qK hr (jv 3) (jv 4) (Η (jv 5) υ))) Τ))))
   (μ (Ε (jv 3))))),λds M q x h=> ?_⟩)
 ·obtain ⟨ε,γ,tb,td,k,pl,rfl,_⟩:=h;rfl
 ·obtain ⟨ε,γ,tb,td,k,pl,rfl,hk,f,ht,nd,qm,hp,h⟩:=h;have kl:k < M.length:=(aaf.mp hk).1;walk_at "vc";refine ⟨k,kP pl,pl.map (·.2),rfl,by rw [<-wR];exact bt hk,λep=> ?_⟩;show ug _ _ _ k (Ob P w (kP pl) (pl.map (·.2)) ep) _ _ _ ((M++[MO.eO [] []]).set k (.raw (Ob P w (kP pl) (pl.map (·.2)) ep)));have PF:∀p∈pl,eh (kP pl) ((pl.map (·.2)).map Dt.int) (Sum.inl p.1)=some (.int p.2):=λp hm=>by
   rw [<-wR,Aw];have:∀{l:Pl},vJ l->p∈l->Λ l p.1=some p.2:=λ{l}=>by
    induction l with
    | nil=>intro _ z;cases z
    | cons a l ih=>
     intro nl hm;unfold vJ at nl;rw [aaJ,abK] at nl;unfold Λ;rcases aaF.mp hm with e | e
     ·rw [aaw (by rw [e]),e]
     ·rw [aav λz=>nl.1 (by rw [z];exact aah.mpr ⟨p,e,rfl⟩)];exact ih nl.2 e
   rw [this nd hm];rfl
  generalize hu:Ob P w (kP pl) (pl.map (·.2)) ep=u;have VX:(M++[MO.eO [] []]).set k (.raw u)=M.set k (.raw u)++[dP []]:=by rw [abU _ _ kl];rfl
  have hb:∀Ι,((M.set k (.raw u)++[dP Ι]).set k (.eO (kP pl) (vP pl)))=M++[dP Ι]:=λΙ=>by
   rw [abU _ _ (by rw [abg];exact kl),List.set_set]
   congr 1
   exact K5 hk
  rw [VX];refine yT (λxs ρ' M'=>∃(fj rest:Pl) (o4 o5:Option Dt),pl=fj++rest/\xs=kP rest/\M'=M.set k (.raw u)++[dP (Β ε γ tb fj)]/\ρ'=[some (ao Cm ε γ),some (.loc k),some td,some (.loc M.length),o4,o5]) (λxs ρ' M' hj=> ?_) (λx xs ρ' M' hj e_=> ?_) (λρ' M' hj=> ?_) _ _ _ ⟨[],pl,none,none,rfl,rfl,rfl,rfl⟩
  ·obtain ⟨fj,rest,o4,o5,e,rfl,rfl,rfl⟩:=hj;exact bt (by rw [aa9 kl])
  ·obtain ⟨fj,rest,o4,o5,e,ex,rfl,rfl⟩:=hj;cases rest with
   | nil=>cases ex
   | cons p rest=>
    cases ex;have pm:p∈pl:=by rw [e];simp
    obtain ⟨p0,r,Vo,yt,hr3⟩:=hp p pm;obtain ⟨p1,v⟩:=p;obtain ⟨i,rfl⟩:∃i:Nat,p1=(i:Int):=⟨p1.toNat,by have:0<=p1:=p0;omega⟩;have Vo:γ[i]? =some r:=Vo;have hbA:iN ε γ tb (i:Int)=cK ε tb r:=by unfold iN;rw [abA,Vo]
    have MN:(M.set k (.raw u)++[dP (Β ε γ tb fj)])[k]? =some (.raw u):=bt (by rw [aa9 kl]);have U7:(M.set k (.raw u)++[dP (Β ε γ tb fj)])[M.length]? =some (dP (Β ε γ tb fj)):=by have:=aW (M:=M.set k (.raw u)) (o:=dP (Β ε γ tb fj));rwa [abg] at this
    have bsn:Β ε γ tb (fj++[((i:Int),v)])=Β ε γ tb fj++qd ε γ tb ((i:Int),v):=by unfold Β;rw [List.flatMap_append];simp
    have S6:∀Ι o5,Ι=Β ε γ tb (fj++[((i:Int),v)])->_:=λΙ o5 ea=>e_ [some (ao Cm ε γ),some (.loc k),some td,some (.loc M.length),some (.int (i:Int)),o5] (M.set k (.raw u)++[dP Ι]) ⟨fj++[((i:Int),v)],rest,_,o5,by rw [e,aaP];rfl,rfl,by rw [ea],rfl⟩;have hg:=PF _ pm;rw [<-hu] at MN U7 S6⊢;walk_at "vc";refine ⟨⟨_,_, .inl rfl,rfl⟩,ε,γ,tb,td,i,r,rfl,Vo,f,Mn (Mv ht hk), ?_⟩;generalize cK ε tb r=bl at *
    refine ⟨k,kP pl,(pl.map λx:Int×Int=>x.2),ep,Sum.inl (i:Int),v,rfl,MN,rfl,hg, ?_⟩;refine ⟨.int v,_,_,rfl,rfl,vv bl,λz=> ?_,λz=> ?_⟩
    ·have z:(!A3 bl v)=true:=z;have z:¬A3 bl v=true:=by simpa using z
     obtain ⟨j,ZE,rfl⟩:=abn hr3;dsimp only [yk];walk_at "vc";refine (Θ (d:= .lst ((j::ZE).map λj:Nat=>Dt.int j)) rfl bo ?_:cj (.lst ((j::ZE).map λj:Nat=>Dt.int j)) (.int 0) _ _);have ll:=jC (ε:=ε) (γ:=γ) (tb:=tb) fj;have dl:fj.length<=12:=by have:=aaZ List.length e;rw [aag] at this;omega
     refine ⟨M.length,_,_,Sum.inl (i:Int),rfl,U7,rfl,by unfold kP;rw [List.length_map];omega, ?_⟩;rw [u7 (v:=(j:Int)),AK];have gn:Λ (Β ε γ tb fj) (i:Int)=none:=nj λy=>by have y:=fT y;rw [e] at nd;unfold vJ at nd;rw [aa2,acu] at nd;exact nd.2.2 _ y _ aae rfl
     have e1:eD (Β ε γ tb fj) (i:Int) (j:Int)=Β ε γ tb (fj++[((i:Int),v)]):=by rw [bsn];unfold eD qd;rw [gn,hbA,aav z,aav (by decide)];rfl
     rw [e1,ab7 (h:=by rw [abg];exact aai _),abg,acy];exact S6 _ _ rfl
    ·have z:(!A3 bl v)=false:=z;have z:A3 bl v=true:=by simpa using z
     exact S6 _ _ (by rw [bsn];unfold qd;rw [hbA,if_pos z,List.append_nil])
  ·obtain ⟨fj,rest,o4,o5,e,ex,rfl,rfl⟩:=hj;have:rest=[]:=by cases rest with | nil=>rfl | cons p r=>cases ex
   subst this;rw [aa8] at e;rw [wR] at hb;rw [hb,<-e];exact h
def da(γ:List Rw)(i:Nat):Str:=match γ[i]? with
 | some r=>kindOf r
 | none=>""
def iX(γ:List Rw)(hand:Str):List Nat:=(List.range γ.length).filter λi=>decide (da γ i=hand)
def xI(γ:List Rw)(hand:Str):Pl:=(iX γ hand).map λi:Nat=>((i:Int),0)
theorem B7(p:Nat->Bool)(n:Nat):((dW 0 n).filter λx=>match x with | .int j=>p j.toNat | _=>false)=((List.range n).filter p).map λi:Nat=>Dt.int i:=by
 unfold dW;rw [List.filter_map];have e:((λx:Dt=>match x with | .int j=>p j.toNat | _=>false) ∘ λi:Nat=>Dt.int (0+(i:Int)))=p:=funext λi=>by show p (0+(i:Int)).toNat=p i;rw [show (0+(i:Int)).toNat=i by omega]
 rw [e];exact abb λi _=>by show Dt.int (0+(i:Int))=Dt.int i;rw [Int.zero_add]
def DB(A:Addr):DF:=λas M q _=>∃(ε:Fr) (γ:List Rw) (hand:Str),as=[ao A ε γ, .str hand]/\γ.length<=12/\q (.lst ((iX γ hand).map λi:Nat=>Dt.int i)) M
theorem tQ:Ζ ["floor","hand"] ["floor","hand"] (ψ pF):= .of rfl
theorem yI(F:cX K "places_of" "places_of" pF f fd)(E:Ev K mg w Cm){d_:Addr}{ef:FuncData}(aZ:dz P w K mg base 1 Cm "size" ["self"] (Af Cm) d_ ef){aQ:Addr}{aP:FuncData}(Υ:dz P w K mg base 1 Cm "kind" ["self","place"] (nh Cm) aQ aP):aj P w K mg base (b9 P w) 2 f fd ["floor","hand"] (cJ K (DB Cm)):=by
 refine F.dQ tQ (λds M q x h=> ?_) (λaY A outer s H E' hr=>⟨_,(μ (Ε (Kx (ys:=["hand","floor"]) (ah:=[1,0]) (.of tQ rfl rfl rfl) (NY (cw E.bU (ι (k7 aZ hr ξ (jv 0)) θ aV))) (λC s H fp=>(dj hr (bX Υ hr (ia (P:=P) (w:=w)) (jv 2) (Ο (jv 0) θ)) (jv 1))) (λC s H fp=>(jv 0))))),λds M q x h=> ?_⟩)
 ·obtain ⟨ε,γ,hand,rfl,_⟩:=h;rfl
 ·obtain ⟨ε,γ,hand,rfl,qm,h⟩:=h;have sl:∀{z:Nat},z<=1000->z<=sizeLine:=λh=>aax h (by decide);walk_at "vc";dsimp only [BC,ZG];walk_at "vc";refine ⟨⟨_,_, .inl rfl,rfl⟩,ε,γ,rfl, ?_⟩;refine ⟨by omega,by rw [fU];exact sl (by omega), ?_⟩;rw [show ((γ.length:Int)).toNat=γ.length by omega];refine gm trivial (λx=>match x with | .int j=>decide (da γ j.toNat=hand) | _=>false) (λx=>x) _ _ (λx hx q' p' h1 h2=> ?_) ?_
  ·obtain ⟨j,hj,rfl⟩:=sM hx;rw [Int.zero_add] at h1 h2⊢;have hr:γ[j]? =some γ[j]:=aaa hj;have QD:da γ j=kindOf γ[j]:=by unfold da;rw [hr]
   have h1:decide (da γ j=hand)=true->q' (.int (j:Int)) M:=h1;have h2:decide (da γ j=hand)=false->p' M:=h2;rw [QD] at h1 h2;refine ⟨⟨_,_, .inl rfl,rfl⟩,ε,γ,j,γ[j],rfl,hr, ?_⟩;show (match decide (kindOf γ[j]=hand) with | true=>q' (.int (j:Int)) M | false=>p' M);cases hb:decide (kindOf γ[j]=hand) with
   | true=>exact h1 hb
   | false=>exact h2 hb
  ·rw [aaX,List.map_id'];exact (λ(key:∀l,l=(iX γ hand).map (λi:Nat=>Dt.int i)->q (.lst l) M)=>key _ (B7 (λi=>decide (da γ i=hand)) γ.length)) λl hl=>by rw [hl];exact h
def wZ(A:Addr):DF:=λas M q _=>∃(ε:Fr) (γ:List Rw) (hand:Str),as=[ao A ε γ, .str hand]/\γ.length<=12/\q (.loc M.length) (M++[dP (xI γ hand)])
theorem kL:Ζ ["floor","hand","plan","place"] ["floor","hand"] (ψ lY):= .of rfl
theorem wJ(F:cX K "first_plan" "first_plan" lY f fd)(E:Ev K mg w Cm){E_:Addr}{Gn:FuncData}(lS:ax P w K mg base 2 "places_of" ["floor","hand"] (DB Cm) E_ Gn):aj P w K mg base (b9 P w) 3 f fd ["floor","hand"] (cJ K (wZ Cm)):=by
 refine F.dQ kL (λds M q x h=> ?_) (λaY A outer s H E' hr=>⟨_,(η (Α 2 kL.nd xS)
   (η (cY (bx (ae lS hr ξ (Ο (jv 0) (Ο (jv 1) θ)))) (ar (i:=3) kL.nd rfl (Or.inl rfl)) aL (μ (qK hr (jv 2) (jv 3) υ)))
   (μ (Ε (jv 2))))),λds M q x h=> ?_⟩)
 ·obtain ⟨ε,γ,hand,rfl,_⟩:=h;rfl
 ·obtain ⟨ε,γ,hand,rfl,qm,h⟩:=h;have afg:(iX γ hand).length<=12:=by have:=List.length_filter_le (λi=>decide (da γ i=hand)) (List.range γ.length);rw [aa1] at this;unfold iX;omega
  have pnd:(iX γ hand).Nodup:=List.nodup_range.filter _;walk_at "vc";dsimp only [p7,fM];walk_at "vc";refine ⟨ε,γ,hand,rfl,qm, ?_⟩;refine bD (λxs ρ' M'=>∃(fj rest:List Nat) (o3:Option Dt),iX γ hand=fj++rest/\xs=rest.map (λi:Nat=>Dt.int i)/\M'=M++[dP (fj.map λi:Nat=>((i:Int),0))]/\ρ'=[some (ao Cm ε γ),some (.str hand),some (.loc M.length),o3]) (λxs ρ' M' hj=>trivial) (λx xs ρ' M' hj e_=> ?_) (λρ' M' hj=> ?_) _ _ _ ⟨[],iX γ hand,none,rfl,rfl,rfl,rfl⟩
  ·obtain ⟨fj,rest,o3,e,ex,rfl,rfl⟩:=hj;cases rest with
   | nil=>cases ex
   | cons i rest=>
    cases ex;have dl:fj.length<=12:=by have:=aaZ List.length e;rw [aag] at this;omega
    dsimp only [yk];walk_at "vc";refine ⟨M.length,_,_,Sum.inl (i:Int),rfl,aW,rfl,by unfold kP;rw [List.length_map,List.length_map];omega, ?_⟩;rw [u7 (v:=0),AK,dZ];have gn:Λ (fj.map λi:Nat=>((i:Int),0)) (i:Int)=none:=nj λy=>by
     rw [aaM] at y;obtain ⟨j,hj,ej⟩:=aah.mp y;have ej:(j:Int)=(i:Int):=ej;have:j=i:=by omega
     subst this;rw [e,acu] at pnd;exact pnd.2.2 _ hj _ aae rfl
    refine e_ _ _ ⟨fj++[i],rest,_,by rw [e,aaP];rfl,rfl, ?_,rfl⟩;unfold eD;rw [gn,aav (by decide),aa2];rfl
  ·obtain ⟨fj,rest,o3,e,ex,rfl,rfl⟩:=hj;have:rest=[]:=by cases rest with | nil=>rfl | cons p r=>cases ex
   subst this;rw [aa8] at e;rw [<-e];exact h
def bj:Pl->Pl->Pl
 | p,[]=>p
 | p,e::r=>bj (eD p e.1 e.2) r
theorem Em:∀{r p:Pl},pV (kP p) (kP r)=kP (bj p r)
 | [],p=>rfl
 | e::r,p=>by show pV (fY (kP p) (Sum.inl e.1)) (kP r)=kP (bj (eD p e.1 e.2) r);rw [u7 (v:=e.2)];exact Em
theorem DR:∀{r p:Pl},tJ (kP p) (vP p) (kP r) (vP r)=vP (bj p r)
 | [],p=>rfl
 | e::r,p=>by show tJ (fY (kP p) (Sum.inl e.1)) (eW (kP p) (Sum.inl e.1) (vP p) (.int e.2)) (kP r) (vP r)=vP (bj (eD p e.1 e.2) r);rw [u7 (v:=e.2),AK];exact DR
theorem e6{i:Int}:∀{r p:Pl},vJ r->Λ (bj p r) i=match Λ r i with | some v=>some v | none=>Λ p i
 | [],p,_=>rfl
 | e::r,p,nd=>by
  unfold vJ at nd;rw [aaJ,abK] at nd;have ih:=e6 (i:=i) (r:=r) (p:=eD p e.1 e.2) nd.2;show Λ (bj (eD p e.1 e.2) r) i=match (if e.1=i then some e.2 else Λ r i) with | some v=>some v | none=>Λ p i
  rw [ih,qD];by_cases h:e.1=i
  ·have hn:Λ r i=none:=by
    cases hg:Λ r i with
    | none=>rfl
    | some v=>exact aaK (aah.mpr ⟨_,EL hg,h.symm⟩) nd.1
   rw [hn,aaw h,aaw h.symm]
  ·rw [aav h,aav (Ne.symm h)]
def Tf(A:Addr):DF:=λas M q _=>∃(ε:Fr) (γ:List Rw) (kh ka:Nat) (ph pa:Pl) (X C:Int),as=[ao A ε γ, .loc kh, .loc ka]/\M[kh]? =some (dP ph)/\M[ka]? =some (dP pa)/\ph.length+pa.length<=1000/\fW γ (bj ph pa)/\FW ε γ X C/\jg X C<=2 ^ 450/\(12 * jg X C) ^ γ.length < 2 ^ 1030/\∀tb,jy ε γ (bj ph pa) tb->q (.loc (M.length+1)) (M++[dP (bj ph pa), .lst (tb.map Ν)])
theorem jR:Ζ ["floor","held","answer","doors"] ["floor","held","answer"] (ψ g8):= .of rfl
theorem oi(F:cX K "worths_against" "worths_against" g8 f fd)(E:Ev K mg w Cm){G8:Addr}{GZ:FuncData}(l9:ax P w K mg base 7 "worths_by" ["floor","doors"] (U6 Cm) G8 GZ):aj P w K mg base (b9 P w) 8 f fd ["floor","held","answer"] (cJ K (Tf Cm)):=by
 refine F.dQ jR (λds M q x h=> ?_) (λaY A outer s H E' hr=>⟨_,(η (Α 3 jR.nd (Hz E.tX (Ο (jv 1) θ)))
   (η (c7 (Cp (jv 3) (jv 2)))
   (μ (Ε (ae l9 hr ξ (Ο (jv 0) (Ο (jv 3) θ))))))),λds M q x h=> ?_⟩)
 ·obtain ⟨ε,γ,kh,ka,ph,pa,X,C,rfl,_⟩:=h;rfl
 ·obtain ⟨ε,γ,kh,ka,ph,pa,X,C,rfl,hh,ha,lz,dk,fw,jq,lG,h⟩:=h;walk_at "vc";refine ⟨kh,_,_,rfl,hh, ?_⟩;dsimp only [DY];walk_at "vc";have kl:ka < M.length:=(aaf.mp ha).1;refine ⟨⟨M.length,_,_,rfl,aW⟩,M.length,ka,_,_,_,_,rfl,rfl,by omega,aW,bt ha,by unfold kP;rw [List.length_map,List.length_map];exact lz, ?_⟩;rw [Em,DR,dZ];refine ⟨ε,γ,_,_,X,C,rfl,aW,dk,fw,jq,lG,λtb wt=> ?_⟩;have:=h tb wt;simpa [List.append_assoc] using this
theorem KP{a b:Fr}(ha:0 < a.2)(hb:0 < b.2):a.1 * b.2<=b.1 * a.2↔val a<=val b:=by
 have e1:val a * (a.2:Rat)=a.1:=by
  have:=aG (show a.2≠0 by omega);unfold val;generalize (a.1:Rat)=x at *
  generalize (a.2:Rat)=y at *
  grind
 have e2:val b * (b.2:Rat)=b.1:=by
  have:=aG (show b.2≠0 by omega);unfold val;generalize (b.1:Rat)=x at *
  generalize (b.2:Rat)=y at *
  grind
 have p1:(0:Rat) < (a.2:Rat):=aby.mpr ha;have p2:(0:Rat) < (b.2:Rat):=aby.mpr hb;have pp:=Rat.mul_pos p1 p2;rw [<-abc,aaO,aaO,<-e1,<-e2];generalize (a.2:Rat)=y at *
 generalize (b.2:Rat)=z at *
 generalize val a=u at *
 generalize val b=v at *
 constructor
 ·intro h;by_cases c:u<=v
  ·exact c
  ·have:=Rat.mul_pos (show 0 < u - v by grind) pp;grind
 ·intro h;have:=abF h (Rat.le_of_lt pp);grind
theorem kS{f n:Fr}(h1:0 < f.2)(h2:0 < n.2):cT f n=true↔val f < val n:=by
 unfold cT;rw [aan];have:=KP h2 h1;constructor
 ·intro h;by_cases c:val n<=val f
  ·have:=this.mpr c;omega
  ·grind
 ·intro h;by_cases c:n.1 * f.2<=f.1 * n.2
  ·have:=this.mp c;grind
  ·omega
theorem m8:∀(ns:List Fr) (f:Fr),0 < f.2->(∀n∈ns,0 < n.2)->(ns.foldl (λf n=>if cT f n then n else f) f∈f::ns)/\val f<=val (ns.foldl (λf n=>if cT f n then n else f) f)/\∀n∈ns,val n<=val (ns.foldl (λf n=>if cT f n then n else f) f)
 | [],f,_,_=>⟨List.mem_cons_self,by show val f<=val f;grind,λ_ z=>nomatch z⟩
 | a::ns,f,h,hn=>by
  have ha:=hn a aae;have u:=kS h ha;rw [abv];by_cases c:cT f a=true
  ·rw [aaw c];obtain ⟨m,l,al⟩:=m8 ns a ha λn z=>hn n (aac _ z);have:=u.mp c;refine ⟨List.mem_cons_of_mem _ m,by grind,λn z=> ?_⟩;rcases aaF.mp z with e | e
   ·rw [e];exact l
   ·exact al n e
  ·rw [aav c];obtain ⟨m,l,al⟩:=m8 ns f h λn z=>hn n (aac _ z);have c2:¬val f < val a:=λz=>c (u.mpr z);refine ⟨?_,l,λn z=> ?_⟩
   ·rcases aaF.mp m with e | e
    ·rw [e];exact aae
    ·exact aac _ (aac _ e)
   ·rcases aaF.mp z with e | e
    ·rw [e];grind
    ·exact al n e
theorem mD:∀(ns:List Fr) (f:Fr),0 < f.2->(∀n∈ns,0 < n.2)->(ns.foldl (λf n=>if cT n f then n else f) f∈f::ns)/\val (ns.foldl (λf n=>if cT n f then n else f) f)<=val f/\∀n∈ns,val (ns.foldl (λf n=>if cT n f then n else f) f)<=val n
 | [],f,_,_=>⟨List.mem_cons_self,by show val f<=val f;grind,λ_ z=>nomatch z⟩
 | a::ns,f,h,hn=>by
  have ha:=hn a aae;have u:=kS ha h;rw [abv];by_cases c:cT a f=true
  ·rw [aaw c];obtain ⟨m,l,al⟩:=mD ns a ha λn z=>hn n (aac _ z);have:=u.mp c;refine ⟨List.mem_cons_of_mem _ m,by grind,λn z=> ?_⟩;rcases aaF.mp z with e | e
   ·rw [e];exact l
   ·exact al n e
  ·rw [aav c];obtain ⟨m,l,al⟩:=mD ns f h λn z=>hn n (aac _ z);have c2:¬val a < val f:=λz=>c (u.mpr z);refine ⟨?_,l,λn z=> ?_⟩
   ·rcases aaF.mp m with e | e
    ·rw [e];exact aae
    ·exact aac _ (aac _ e)
   ·rcases aaF.mp z with e | e
    ·rw [e];grind
    ·exact al n e
def gf(k:Str):Rat:=if k="one" then 1 else -1
section
variable{k:Str}
theorem pN(h0:ds≠[])(hp:∀d∈ds,0 < (Ω ε tb d).2):fe ε tb (.τ k ds)∈ds.map (Ω ε tb)/\∀d∈ds,gf k * val (Ω ε tb d)<=gf k * val (fe ε tb (.τ k ds)):=by
 obtain ⟨d1,nD,rfl⟩:=abn h0;have hn:∀n∈(d1::nD).map (Ω ε tb),0 < n.2:=λn hn=>by obtain ⟨d,hd,rfl⟩:=aah.mp hn;exact hp d hd
 have h1:=hp d1 aae;unfold gf;by_cases e:k="one"
 ·have e1:fe ε tb (.τ k (d1::nD))=mU ((d1::nD).map (Ω ε tb)):=aaw e;obtain ⟨m,l,al⟩:=m8 ((d1::nD).map (Ω ε tb)) (Ω ε tb d1) h1 hn;have e2:mU ((d1::nD).map (Ω ε tb))=((d1::nD).map (Ω ε tb)).foldl (λf n=>if cT f n then n else f) (Ω ε tb d1):=rfl;rw [e1,e2,aaw e];refine ⟨?_,λd hd=> ?_⟩
  ·rcases aaF.mp m with y | y
   ·rw [y];exact aae
   ·exact y
  ·have:=al _ (aah.mpr ⟨d,hd,rfl⟩);grind
 ·have e1:fe ε tb (.τ k (d1::nD))=mL ((d1::nD).map (Ω ε tb)):=aav e;obtain ⟨m,l,al⟩:=mD ((d1::nD).map (Ω ε tb)) (Ω ε tb d1) h1 hn;have e2:mL ((d1::nD).map (Ω ε tb))=((d1::nD).map (Ω ε tb)).foldl (λf n=>if cT n f then n else f) (Ω ε tb d1):=rfl;rw [e1,e2,aav e];refine ⟨?_,λd hd=> ?_⟩
  ·rcases aaF.mp m with y | y
   ·rw [y];exact aae
   ·exact y
  ·have:=al _ (aah.mpr ⟨d,hd,rfl⟩);grind
end
theorem wx{l:List Nat}{v:Int}:A3 l v=true↔∃j∈l,(j:Int)=v:=by
 unfold A3 Rh;rw [List.any_eq_true];constructor
 ·rintro ⟨u,hu,e⟩;obtain ⟨j,hj,rfl⟩:=aah.mp hu;refine ⟨j,hj, ?_⟩;unfold sU at e;simpa using e
 ·rintro ⟨j,hj,e⟩;refine ⟨.int j,aah.mpr ⟨j,hj,rfl⟩, ?_⟩;unfold sU;simpa using e
section
variable{k:Str}
theorem js(hi:γ[i]? =some r):fg γ i=r:=by unfold fg;rw [aab,hi];rfl
theorem i4(hh:Γ k=true):j∈cK ε tb (.τ k ds)↔j < ds.length/\Ω ε tb (ds.getD j d0)=fe ε tb (.τ k ds):=by have e:cK ε tb (.τ k ds)=(List.range ds.length).filter λj=>decide (Ω ε tb (ds.getD j d0)=fe ε tb (.τ k ds)):=aaw hh;rw [e,List.mem_filter,aba,aan]
theorem LV(hh:Γ k=true)(h0:ds≠[])(hp:∀d∈ds,0 < (Ω ε tb d).2):cK ε tb (.τ k ds)≠[]:=by obtain ⟨m,_⟩:=pN (k:=k) h0 hp;obtain ⟨d,hd,e⟩:=aah.mp m;obtain ⟨j,jl,ej⟩:=abf hd;have:j∈cK ε tb (.τ k ds):=(i4 hh).mpr ⟨jl,by rw [aab,aaa jl];show Ω ε tb ds[j]=_;rw [ej,e]⟩;exact List.ne_nil_of_mem this
theorem ik(fw:FW ε γ X C)(hm:Rw.τ k ds∈γ)(hd:d∈ds)(hp:∀t,t < γ.length->0 < (tb.getD t (0,1)).2):val (Ω ε tb d)=val d.2.1+val ε * val (tb.getD d.1.toNat (0,1))/\Red (Ω ε tb d):=by have s0:=fw.sh.1;have dr:=dw fw.pl hm;obtain ⟨t0,t1⟩:=dr.to d hd;have tp:0 < (tb.getD d.1.toNat (0,1)).2:=hp _ (by omega);have p0:=(dr.py d hd).2;have t:Red (aJ ε (tb.getD d.1.toNat (0,1))):=bQ (abl (aaN s0 tp));refine ⟨?_,bQ (abl (aaN p0 t.pos))⟩;show val (eI d.2.1 (aJ ε (tb.getD d.1.toNat (0,1))))=_;rw [r8 p0 t.pos,lh s0 tp]
theorem j5(fw:FW ε γ X C)(hi:γ[i]? =some (.τ k ds))(hh:Γ k=true)(gj:Λ Ι i=some (j:Int))(jl:j < ds.length)(hp:∀t,t < γ.length->0 < (tb.getD t (0,1)).2):jF ε (uQ γ Ι) (uU γ Ι) (λx=>val (tb.getD x (0,1))) i=val (Ω ε tb (ds.getD j d0)):=by
 have rm:Rw.τ k ds∈γ:=aam hi;have gd:ds.getD j d0=ds[j]:=by rw [aab,aaa jl];rfl
 have dm:=aaE jl;have e:aC Ι i (.τ k ds)=[(ds[j].1,ds[j].2.1,[(1,1)])]:=by unfold aC;rw [gj];show [((ds.getD ((j:Int)).toNat d0).1,(ds.getD ((j:Int)).toNat d0).2.1,(ds.getD ((j:Int)).toNat d0).2.2++[(1,1)])]=_;rw [abA,gd,fw.hnd k ds rm hh _ dm];rfl
 have v1:val ((1,1):Fr)=1:=by show ((1:Int):Rat) / ((1:Int):Rat)=1;grind
 have v0:val ((0,1):Fr)=0:=by show ((0:Int):Rat) / ((1:Int):Rat)=0;grind
 have p0:=((dw fw.pl rm).py ds[j] dm).2;have eg:val (RC Ι i (.τ k ds))=val ds[j].2.1:=by show val (iE (((aC Ι i (.τ k ds)).map χ).zip ((aC Ι i (.τ k ds)).map (·.2.1))))=_;rw [e];show val (eI (0,1) (aJ (1,1) ds[j].2.1))=_;have t:Red (aJ ((1,1):Fr) ds[j].2.1):=bQ (abl (aaN (by decide) p0));rw [r8 (by decide) t.pos,lh (by decide) p0,v0,v1];grind
 unfold jF uQ uU;rw [js hi,eg,gd,(ik fw rm dm hp).1];show _+val ε * aw (λd=>cV d * val (tb.getD d.1.toNat (0,1))) (aC Ι i (.τ k ds))=_;rw [e];show _+val ε * (cV (ds[j].1,ds[j].2.1,[((1,1):Fr)]) * val (tb.getD ds[j].1.toNat (0,1))+0)=_;have:cV (ds[j].1,ds[j].2.1,[((1,1):Fr)])=1:=v1;rw [this];grind
theorem AX{x:Nat->Rat}(h:Λ Ι i=Λ bP i):jF ε (uQ γ Ι) (uU γ Ι) x i=jF ε (uQ γ bP) (uU γ bP) x i:=by
 have e:∀r,aC Ι i r=aC bP i r:=λr=>by unfold aC;rw [h]
 have e1:Ql Ι i (fg γ i)=Ql bP i (fg γ i):=by
  cases fg γ i with
  | fin p=>rfl
  | τ k ds=>exact e _
 have e2:RC Ι i (fg γ i)=RC bP i (fg γ i):=by
  cases fg γ i with
  | fin p=>rfl
  | τ k ds=>
   show iE (((aC Ι i (.τ k ds)).map χ).zip ((aC Ι i (.τ k ds)).map (·.2.1)))=iE (((aC bP i (.τ k ds)).map χ).zip ((aC bP i (.τ k ds)).map (·.2.1)));rw [e]
 unfold jF uQ uU;rw [e1,e2]
theorem jy.jF(h:jy ε γ Ι tb)(il:i < γ.length):jF ε (uQ γ Ι) (uU γ Ι) (λx=>val (tb.getD x (0,1))) i=val (tb.getD i (0,1)):=(h.tab.eq i il).symm
end
structure i5(hand ο:Str):Prop where
 h1:Γ hand=true
 h2:Γ ο=true
 ne:hand≠ο
 two:∀z:Str,Γ z=true->z=hand\/z=ο
 sg:gf ο= -gf hand
theorem fN(h:hand="one"/\ο="other"\/hand="other"/\ο="one"):i5 hand ο:=by
 refine ⟨?_, ?_, ?_,λz hz=> ?_, ?_⟩
 ·rcases h with ⟨rfl,rfl⟩ | ⟨rfl,rfl⟩ <;> decide
 ·rcases h with ⟨rfl,rfl⟩ | ⟨rfl,rfl⟩ <;> decide
 ·rcases h with ⟨rfl,rfl⟩ | ⟨rfl,rfl⟩ <;> decide
 ·unfold Γ at hz;rw [Bool.or_eq_true,abz,abz] at hz;rcases h with ⟨rfl,rfl⟩ | ⟨rfl,rfl⟩
  ·exact hz
  ·exact hz.symm
 ·unfold gf;rcases h with ⟨rfl,rfl⟩ | ⟨rfl,rfl⟩
  ·rw [aav (by decide),aaw rfl]
  ·rw [if_pos rfl,if_neg (by decide)];grind
theorem z_{k:Str}(h:Γ k=true):∃r,i5 k r/\i5 r k:=by
 unfold Γ at h;rw [Bool.or_eq_true,abz,abz] at h;rcases h with h | h
 ·exact ⟨"other",fN (.inl ⟨h,rfl⟩),fN (.inr ⟨rfl,h⟩)⟩
 ·exact ⟨"one",fN (.inr ⟨h,rfl⟩),fN (.inl ⟨rfl,h⟩)⟩
section
def Ek(ε:Fr)(γ:List Rw)(tb:List Fr)(ο:Str)(Ι bP:Pl)(i:Nat):Prop:=∃ds j j',γ[i]? =some (.τ ο ds)/\Λ Ι i=some ((j:Nat):Int)/\Λ bP i=some ((j':Nat):Int)/\j < ds.length/\j∉cK ε tb (.τ ο ds)/\j'∈cK ε tb (.τ ο ds)
theorem sW(fw:FW ε γ X C){k:Str}(hm:Rw.τ k ds∈γ)(hp:∀t,t < γ.length->0 < (tb.getD t (0,1)).2):Red (fe ε tb (.τ k ds))/\∀d∈ds,gf k * val (Ω ε tb d)<=gf k * val (fe ε tb (.τ k ds)):=by have l1:=(dw fw.pl hm).l1;obtain ⟨m,al⟩:=pN (ε:=ε) (tb:=tb) (k:=k) (ds:=ds) (λz=>by rw [z] at l1;exact aaK l1 (by decide)) λd hd=>(ik fw hm hd hp).2.pos;refine ⟨?_,al⟩;obtain ⟨d,hd,e⟩:=aah.mp m;rw [<-e];exact (ik fw hm hd hp).2
theorem Ba{k:Str}{a b:Rat}(h:gf k * a=gf k * b):a=b:=by unfold gf at h;split at h <;> grind
def ZJ(ε:Fr)(γ:List Rw)(tb:List Fr)(hand ο:Str)(Ι bP:Pl)(i:Nat):Prop:=Λ bP i=Λ Ι i\/Ek ε γ tb hand Ι bP i\/∃ds j j',γ[i]? =some (.τ ο ds)/\Λ Ι i=some ((j:Nat):Int)/\Λ bP i=some ((j':Nat):Int)/\j' < ds.length/\j∈cK ε tb (.τ ο ds)
theorem qY(fw:FW ε γ X C)(hs:i5 hand ο)(NF:fW γ bP)(b1:1<=jg X C)(h:jy ε γ Ι tb)(h':jy ε γ bP nI)(hd:∀i,i < γ.length->ZJ ε γ tb hand ο Ι bP i):(∀i,i < γ.length->gf hand * val (tb.getD i (0,1))<=gf hand * val (nI.getD i (0,1)))/\∀i,i < γ.length->Ek ε γ tb hand Ι bP i->gf hand * val (tb.getD i (0,1)) < gf hand * val (nI.getD i (0,1)):=by
 have hp:∀t,t < γ.length->0 < (tb.getD t (0,1)).2:=λt ht=>(h.tab.red t ht).pos;have chg:∀i,i < γ.length->Ek ε γ tb hand Ι bP i->0 < gf hand * (jF ε (uQ γ bP) (uU γ bP) (λx=>val (tb.getD x (0,1))) i - val (tb.getD i (0,1))):=λi il ⟨ds,j,j',hi,g,g',jl,nb,b⟩=>by
  have rm:Rw.τ hand ds∈γ:=aam hi;obtain ⟨Ny,e'⟩:=(i4 hs.h1).mp b;obtain ⟨lr,al⟩:=sW (tb:=tb) fw rm hp;have gd:ds.getD j d0=ds[j]:=by rw [aab,aaa jl];rfl
  have dm:=aaE jl;rw [j5 fw hi hs.h1 g' Ny hp,<-h.jF il,j5 fw hi hs.h1 g jl hp,e',gd];have le:=al _ dm;have ne:val (Ω ε tb ds[j])≠val (fe ε tb (.τ hand ds)):=λz=>nb ((i4 hs.h1).mpr ⟨jl,by rw [gd];exact yr (ik fw rm dm hp).2 lr z⟩);have ne2:gf hand * val (Ω ε tb ds[j])≠gf hand * val (fe ε tb (.τ hand ds)):=λz=>ne (Ba z);grind
 have r0:∀i,i < γ.length->0<=gf hand * (jF ε (uQ γ bP) (uU γ bP) (λx=>val (tb.getD x (0,1))) i - val (tb.getD i (0,1))):=λi il=>by
  rcases hd i il with e | e | ⟨ds,j,j',hi,g,g',Ny,b⟩
  ·rw [AX e,h.jF il];grind
  ·exact Rat.le_of_lt (chg i il e)
  ·have rm:Rw.τ ο ds∈γ:=aam hi;obtain ⟨jl,e⟩:=(i4 hs.h2).mp b;obtain ⟨lr,al⟩:=sW (tb:=tb) fw rm hp;have gd':ds.getD j' d0=ds[j']:=by rw [aab,aaa Ny];rfl
   have le:=al _ (aaE Ny);rw [j5 fw hi hs.h2 g' Ny hp,<-h.jF il,j5 fw hi hs.h2 g jl hp,e,gd'];rw [hs.sg] at le;grind
 have key:=Tab.cmp (fw.sys NF b1) h'.tab (x:=λx=>val (tb.getD x (0,1))) (sg:=gf hand) r0;refine ⟨λi il=> ?_,λi il e=> ?_⟩
 ·have:=key i il;have:=r0 i il;grind
 ·have:=key i il;have:=chg i il e;grind
theorem FI(fw:FW ε γ X C)(hh:Γ ο=true)(dk:fW γ Ι)(NF:fW γ bP)(b1:1<=jg X C)(h:jy ε γ Ι tb)(h':jy ε γ bP nI)(hd:∀i,i < γ.length->Λ bP i=Λ Ι i\/Ek ε γ tb ο Ι bP i):(∀i,i < γ.length->gf ο * val (tb.getD i (0,1))<=gf ο * val (nI.getD i (0,1)))/\∀i,i < γ.length->Ek ε γ tb ο Ι bP i->gf ο * val (tb.getD i (0,1)) < gf ο * val (nI.getD i (0,1)):=by obtain ⟨r,hs,_⟩:=z_ hh;exact qY fw hs NF b1 h h' λi il=>(hd i il).elim .inl λc=> .inr (.inl c)
theorem Cj(fw:FW ε γ X C)(hh:Γ ο=true)(dk:fW γ Ι)(NF:fW γ bP)(b1:1<=jg X C)(h:jy ε γ Ι tb)(h':jy ε γ bP nI)(hd:∀i,i < γ.length->Λ bP i=Λ Ι i\/Ek ε γ tb ο Ι bP i)(il:i < γ.length)(hc:Ek ε γ tb ο Ι bP i):B9 ε γ (gf ο) Ι < B9 ε γ (gf ο) bP:=by
 obtain ⟨a,b⟩:=FI fw hh dk NF b1 h h' hd;unfold B9;refine xg (λj hj=> ?_) il ?_
 ·rw [wc fw dk b1 h,wc fw NF b1 h'];exact a j hj
 ·rw [wc fw dk b1 h,wc fw NF b1 h'];exact b i il hc
theorem zh(fw:FW ε γ X C)(hh:Γ ο=true)(NF:fW γ bP)(b1:1<=jg X C)(h:jy ε γ Ι tb)(h':jy ε γ bP nI)(hd:∀i,i < γ.length->Λ bP i=Λ Ι i\/∃ds j j',γ[i]? =some (.τ ο ds)/\Λ Ι i=some ((j:Nat):Int)/\Λ bP i=some ((j':Nat):Int)/\j' < ds.length/\j∈cK ε tb (.τ ο ds)):∀i,i < γ.length->gf ο * val (nI.getD i (0,1))<=gf ο * val (tb.getD i (0,1)):=λi il=>by obtain ⟨r,_,hs⟩:=z_ hh;have k:=(qY fw hs NF b1 h h' λi il=>(hd i il).elim .inl λc=> .inr (.inr c)).1 i il;rw [hs.sg];grind
end
theorem Nt{p:Fr}(h:0 < p.2)(a:eL p C):ab (val p)<=(C:Rat):=by
 have e:val p * (p.2:Rat)=p.1:=by
  have:=aG (show p.2≠0 by omega);unfold val;generalize (p.1:Rat)=x at *
  generalize (p.2:Rat)=y at *
  grind
 have p0:(0:Rat) < (p.2:Rat):=aby.mpr h;have a1:(p.1:Rat)<=(p.2:Rat) * (C:Rat):=by rw [<-aaO];exact abc.mpr a.1
 have a2: -((p.2:Rat) * (C:Rat))<=(p.1:Rat):=by rw [<-aaO,<-Rat.intCast_neg];exact abc.mpr a.2
 refine lO.mpr ⟨?_, ?_⟩
 ·by_cases z: -(C:Rat)<=val p
  ·exact z
  ·have:=Rat.mul_pos (show 0 < -(C:Rat) - val p by grind) p0;grind
 ·by_cases z:val p<=(C:Rat)
  ·exact z
  ·have:=Rat.mul_pos (show 0 < val p - (C:Rat) by grind) p0;grind
theorem Nl{p:Fr}(h:0 < p.2)(a:ab (val p)<=(C:Rat)):eL p C:=by
 have e:val p * (p.2:Rat)=p.1:=by
  have:=aG (show p.2≠0 by omega);unfold val;generalize (p.1:Rat)=x at *
  generalize (p.2:Rat)=y at *
  grind
 have p0:(0:Rat)<=(p.2:Rat):=abc.mpr (aaj h);obtain ⟨a1,a2⟩:=lO.mp a;have b1:=abF a1 p0;have b2:=abF a2 p0;constructor
 ·apply abc.mp;rw [Rat.intCast_mul];grind
 ·apply abc.mp;rw [Rat.intCast_neg,Rat.intCast_mul];grind
theorem Sys.abs{B:Int}{ws:Nat->List bH}{gv:Nat->Fr}{c:Rat}(S:Sys ε n B ws gv)(h:Tab ε n ws gv tb)(s3:1<=1000 * (1 - val ε))(hg:∀i,i < n->ab (val (gv i))<=c):∀i,i < n->ab (val (tb.getD i (0,1)))<=1000 * c:=λi hi=>by
 have s0:=S.s0;have s1:=S.s1
 have:=K4 (n:=n) (x:=λx=>val (tb.getD x (0,1))) (c:=c) s1 (λi hi m hm=>by
  obtain ⟨E,C,p,_⟩:=S.Hh i hi;have w:=lO.mp (DP p.wo (by omega) hm);have a:=aaW w.1 s0;have b:=aaW w.2 s0;have g:=lO.mp (hg i hi);rw [h.eq i hi]
  refine lO.mpr ⟨?_, ?_⟩ <;> grind) i hi
 have a0:=Qh (val (tb.getD i (0,1)));have:=aaW s3 a0;grind
structure GO(tb:List Fr)(n:Nat):Prop where
 len:tb.length=n
 red:∀t∈tb,Red t
 sz:∀t∈tb,t.2 < 2 ^ 1030/\t.1.natAbs < 2 ^ 1150
theorem jy.ok(fw:FW ε γ X C)(dk:fW γ Ι)(b1:1<=jg X C)(h:jy ε γ Ι tb):GO tb γ.length:=by
 have S:=fw.sys dk b1;obtain ⟨_,_,_,_,_,s3⟩:=fw.sh;have c1:=fw.c1;have ln:=h.tab.len;have g:∀t∈tb,∃i,i < γ.length/\tb.getD i (0,1)=t:=λt ht=>by obtain ⟨i,hi,e⟩:=abf ht;exact ⟨i,by omega,by rw [aab,aaa hi,e];rfl⟩
 have ab:=S.abs h.tab s3 (c:=((6 * C:Int):Rat)) λi hi=>by obtain ⟨E,p,_⟩:=fw.Hh dk (rw_at hi);exact Nt p.gn.red.pos p.gn.ab
 refine ⟨ln,λt ht=> ?_,λt ht=> ?_⟩
 ·obtain ⟨i,hi,e⟩:=g t ht;rw [<-e];exact h.tab.red i hi
 ·obtain ⟨i,hi,e⟩:=g t ht;have r:=h.tab.red i hi;have b:=h.bot i hi;have a:=ab i hi;rw [e] at r b a;have r0:=r.pos;have a:Pg.ab (val t)<=((1000 * (6 * C):Int):Rat):=by rw [aaO];exact a
  obtain ⟨v1,v2⟩:=Nl r0 a;refine ⟨b, ?_⟩;have m:t.2 * (1000 * (6 * C))<=2 ^ 1030 * (1000 * (6 * 10 ^ 30)):=abC (aaj b) (by omega) (by have:=fw.c9;omega) (by decide);have:(t.1.natAbs:Int) < ((2 ^ 1150:Nat):Int):=aaH (show _<=(2:Int) ^ 1030 * (1000 * (6 * 10 ^ 30)) by omega) (by decide);exact abI.mp this
def jf(hand:Str)(pl:Pl):Str->Option Pl:=λz=>if z=hand then some pl else none
abbrev bI(γ:List Rw)(hand:Str)(pl:Pl):Pl:=bV γ (jf hand pl) γ.length
def e9(γ:List Rw)(ο:Str):List (Int×Nat):=(iX γ ο).map λi:Nat=>((i:Int),(Μ (fg γ i)).length)
theorem EN{γ:List Rw}:∀{l:List Nat},(∀i∈l,1<=(Μ (fg γ i)).length)->af (l.map λi:Nat=>((i:Int),(Μ (fg γ i)).length)) (l.map λi:Nat=>((i:Int),(0:Int)))
 | [],_=>trivial
 | i::l,h=>⟨rfl,Int.le_refl _,by have:=h i aae;omega,EN λj hj=>h j (aac _ hj)⟩
section
variable{pl:Pl}
theorem iU:i∈iX γ ο↔i < γ.length/\da γ i=ο:=by unfold iX;rw [List.mem_filter,aba,aan]
theorem zX(fw:FW ε γ X C)(hh:Γ ο=true)(h:i∈iX γ ο):∃ds,γ[i]? =some (.τ ο ds)/\Μ (fg γ i)=ds/\1<=ds.length:=by
 obtain ⟨il,e⟩:=iU.mp h;have hi:γ[i]? =some γ[i]:=aaa il;unfold da at e;rw [hi] at e;have e:kindOf γ[i]=ο:=e;cases hr:γ[i] with
 | fin p=>
  rw [hr] at e;rw [<-e] at hh;exact aaK hh (by show¬Γ (Str.ofString "end")=true;decide)
 | τ k ds=>
  rw [hr] at e hi;have e:k=ο:=e;subst e;exact ⟨ds,hi,by rw [js hi];rfl,(dw fw.pl (aam hi)).l1⟩
theorem tW(fw:FW ε γ X C)(hh:Γ ο=true):af (e9 γ ο) (xI γ ο):=EN λi hi=>by obtain ⟨ds,_,e,l⟩:=zX fw hh hi;rw [e];exact l
theorem gq:(e9 γ ο).map (·.1)=(iX γ ο).map λi:Nat=>(i:Int):=by unfold e9;rw [List.map_map];rfl
theorem bz(h:af (e9 γ ο) p):vJ p:=by unfold vJ;rw [bN h,gq];have nd:(iX γ ο).Nodup:=List.nodup_range.filter _;exact List.Pairwise.map _ (λa b Xn z=>Xn (by have z:(a:Int)=(b:Int):=z;omega)) nd
theorem cf(fw:FW ε γ X C)(hh:Γ ο=true)(h:af (e9 γ ο) p):(∀ds,γ[i]? =some (.τ ο ds)->∃j:Nat,Λ p i=some (j:Int)/\j < ds.length)/\(∀r,γ[i]? =some r->kindOf r≠ο->Λ p i=none):=by
 refine ⟨λds hi=> ?_,λr hi hk=> ?_⟩
 ·have il:=(aaf.mp hi).1;have m:i∈iX γ ο:=iU.mpr ⟨il,by unfold da;rw [hi];rfl⟩;have s:=nE (i:=(i:Int)) (p:=p) (by rw [bN h,gq];exact aah.mpr ⟨i,m,rfl⟩);obtain ⟨v,hv⟩:=abG.mp s;obtain ⟨c,hc,v0,v1⟩:=AZ h hv;unfold e9 at hc;obtain ⟨i',_,e⟩:=aah.mp hc;have e1:(i':Int)=(i:Int):=aaZ Prod.fst e;have e2:(Μ (fg γ i')).length=c:=aaZ Prod.snd e;have:i'=i:=by omega
  subst this;rw [js hi] at e2;have e2:ds.length=c:=e2;exact ⟨v.toNat,by rw [hv,ach v0],by omega⟩
 ·refine nj λz=> ?_;rw [bN h,gq] at z;obtain ⟨i',m,e⟩:=aah.mp z;have:i'=i:=by have e:(i':Int)=(i:Int):=e;omega
  subst this;have:=(iU.mp m).2;unfold da at this;rw [hi] at this;exact hk this
theorem OY(fw:FW ε γ X C)(h1:Γ hand=true)(h2:Γ ο=true)(lF:hand≠ο)(two:∀k:Str,Γ k=true->k=hand\/k=ο)(gd:∀i,i < γ.length->cU γ (jf hand pl) i=true)(h:af (e9 γ ο) p):fW γ (bj (bI γ hand pl) p):=by
 have PF:∀(i:Nat) (r:Rw),γ[i]? =some r->kindOf r≠hand->Λ (bI γ hand pl) i=none:=λi r hi hk=>by have il:=(aaf.mp hi).1;rw [h7,aaw il,hi];show Option.map _ (jf hand pl (kindOf r))=none;unfold jf;rw [aav hk];rfl
 refine ⟨λi r hi hk=> ?_,λi r hi hk=> ?_⟩
 ·rw [e6 (bz h)];rcases two _ hk with e | e
  ·have il:=(aaf.mp hi).1;rw [(cf (i:=i) fw h2 h).2 r hi (λz=>lF (e.symm.trans z))];dsimp only;have g:=gd i il;unfold cU at g;rw [hi] at g;have g:fZ (jf hand pl) i r=true:=g;have ep:jf hand pl (kindOf r)=some pl:=by unfold jf;rw [if_pos e]
   unfold fZ at g;rw [ep] at g;have g:dt pl i (Μ r).length=true:=g;rw [h7,aaw il,hi];show∃j:Nat,Option.map (λpl=>(Λ pl i).getD 0) (jf hand pl (kindOf r))=some (j:Int)/\_;rw [ep];unfold dt at g;cases hv:Λ pl i with
   | none=>rw [hv] at g;cases g
   | some v=>
    rw [hv] at g;have g:(decide (0<=v)&&decide (v < ((Μ r).length:Int)))=true:=g;rw [aaq,aan,aan] at g;refine ⟨v.toNat, ?_,by omega⟩;show some ((Λ pl i).getD 0)=_;rw [hv,ach g.1];rfl
  ·cases r with
   | fin q=>exact aaK hk (by show¬Γ (Str.ofString "end")=true;decide)
   | τ k ds=>
    have e:k=ο:=e;subst e;obtain ⟨j,gj,jl⟩:=(cf (i:=i) fw h2 h).1 ds hi;rw [gj];exact ⟨j,rfl,jl⟩
 ·rw [e6 (bz h),(cf (i:=i) fw h2 h).2 r hi (λz=>by rw [z,h2] at hk;cases hk)];exact PF i r hi λz=>by rw [z,h1] at hk;cases hk
end
section
variable{pl:Pl}
theorem tT:∀pl:Pl,((Β ε γ tb pl).map (·.1)).Sublist (pl.map (·.1))
 | []=>List.Sublist.refl _
 | a::r=>by
  have ih:=tT r;have e:Β ε γ tb (a::r)=qd ε γ tb a++Β ε γ tb r:=by unfold Β;rw [List.flatMap_cons]
  rw [e,aa2,aaJ];unfold qd;split
  ·exact List.Sublist.cons _ ih
  ·exact List.Sublist.cons₂ _ ih
theorem oW(h:vJ pl):vJ (Β ε γ tb pl):=(tT pl).nodup h
theorem hG{i:Int}:∀{pl:Pl},vJ pl->Λ (Β ε γ tb pl) i=(match Λ pl i with
 | some v=>if A3 (iN ε γ tb i) v then none else some (((iN ε γ tb i).headD 0:Nat):Int)
 | none=>none)
 | [],_=>rfl
 | a::r,nd=>by
  unfold vJ at nd;rw [aaJ,abK] at nd;have ih:=hG (i:=i) (pl:=r) nd.2;have e:Β ε γ tb (a::r)=qd ε γ tb a++Β ε γ tb r:=by unfold Β;rw [List.flatMap_cons]
  rw [e];by_cases ei:a.1=i
  ·have e2:Λ (a::r) i=some a.2:=by unfold Λ;rw [if_pos ei]
   have hn:Λ (Β ε γ tb r) i=none:=nj λz=>nd.1 (by rw [ei];exact fT z);rw [e2];dsimp only;unfold qd;rw [ei];by_cases c:A3 (iN ε γ tb i) a.2=true
   ·rw [aaw c,aaw c,aaX,hn]
   ·rw [aav c,aav c];show Λ ((i,(((iN ε γ tb i).headD 0:Nat):Int))::Β ε γ tb r) i=_;unfold Λ;rw [aaw rfl]
  ·have e2:Λ (a::r) i=Λ r i:=by rw [Λ,aav ei]
   rw [e2,<-ih];unfold qd;split
   ·rfl
   ·show Λ ((a.1,_)::Β ε γ tb r) i=_;rw [Λ,aav ei]
theorem zf{kc:List (Int×Nat)}:∀(q s:Pl),af kc s->(∀e∈q,e.1∈kc.map (·.1)/\∀c,(e.1,c)∈kc->0<=e.2/\e.2 < (c:Int))->af kc (bj s q)
 | [],s,h,_=>h
 | e::q,s,h,hq=>by obtain ⟨a,b⟩:=hq e aae;exact zf q (eD s e.1 e.2) (JL h a b) λx hx=>hq x (aac _ hx)
theorem iO(fw:FW ε γ X C)(hh:Γ ο=true)(h:af (e9 γ ο) p)(hp:∀t,t < γ.length->0 < (tb.getD t (0,1)).2)(hm:i∈iX γ ο):∃ds j,γ[i]? =some (.τ ο ds)/\Μ (fg γ i)=ds/\Λ p i=some ((j:Nat):Int)/\j < ds.length/\iN ε γ tb i=cK ε tb (.τ ο ds)/\cK ε tb (.τ ο ds)≠[]/\(cK ε tb (.τ ο ds)).headD 0∈cK ε tb (.τ ο ds):=by obtain ⟨ds,hi,ed,l1⟩:=zX fw hh hm;obtain ⟨j,gj,jl⟩:=(cf (i:=i) fw hh h).1 ds hi;have rm:Rw.τ ο ds∈γ:=aam hi;have ne:cK ε tb (.τ ο ds)≠[]:=LV hh (λz=>by rw [z] at l1;exact aaK l1 (by decide)) λd hd=>(ik fw rm hd hp).2.pos;refine ⟨ds,j,hi,ed,gj,jl,by unfold iN;rw [Int.toNat_natCast,hi],ne, ?_⟩;obtain ⟨b,bs,e⟩:=abn ne;rw [e];exact aae
theorem fS(fw:FW ε γ X C)(hh:Γ ο=true)(h:af (e9 γ ο) p)(hp:∀t,t < γ.length->0 < (tb.getD t (0,1)).2):af (e9 γ ο) (bj p (Β ε γ tb p)):=by
 refine zf _ _ h λe he=> ?_;have ke:e.1∈p.map (·.1):=fT (aah.mpr ⟨e,he,rfl⟩);have kk:=ke;rw [bN h] at kk;rw [bN h,gq] at ke;obtain ⟨i,hm,ei⟩:=aah.mp ke;obtain ⟨ds,j,hi,ed,gj,jl,eb,ne,hd⟩:=iO fw hh h hp hm;refine ⟨kk,λc hc=> ?_⟩;have c1:c=ds.length:=by
  unfold e9 at hc;obtain ⟨i',_,e'⟩:=aah.mp hc;have e1:(i':Int)=e.1:=aaZ Prod.fst e';have e2:(Μ (fg γ i')).length=c:=aaZ Prod.snd e';have:i'=i:=by have ei:(i:Int)=e.1:=ei;omega
  subst this;rw [<-e2,ed]
 have gb:=hG (ε:=ε) (γ:=γ) (tb:=tb) (i:=e.1) (bz h);have nb:=oW (ε:=ε) (γ:=γ) (tb:=tb) (bz h);have ge:Λ (Β ε γ tb p) e.1=some e.2:=by
  have:∀{l:Pl},vJ l->e∈l->Λ l e.1=some e.2:=λ{l}=>by
   induction l with
   | nil=>intro _ z;cases z
   | cons a l ih=>
    intro nl hm;unfold vJ at nl;rw [aaJ,abK] at nl;unfold Λ;rcases aaF.mp hm with y | y
    ·rw [aaw (by rw [y]),y]
    ·rw [aav λz=>nl.1 (by rw [z];exact aah.mpr ⟨e,y,rfl⟩)];exact ih nl.2 y
  exact this nb he
 have ei:e.1=(i:Int):=ei.symm;rw [ge,ei,gj,eb] at gb;dsimp only at gb;split at gb
 ·cases gb
 ·have gb:=aaz gb;have:=((i4 hh).mp hd).1;omega
theorem vc(fw:FW ε γ X C)(hh:Γ ο=true)(h:af (e9 γ ο) p)(hp:∀t,t < γ.length->0 < (tb.getD t (0,1)).2)(hb:Pl):∀i,i < γ.length->Λ (bj hb (bj p (Β ε γ tb p))) i=Λ (bj hb p) i\/Ek ε γ tb ο (bj hb p) (bj hb (bj p (Β ε γ tb p))) i:=λi il=>by
 have h':=fS (tb:=tb) fw hh h hp;have gb:=hG (ε:=ε) (γ:=γ) (tb:=tb) (i:=(i:Int)) (bz h);have g1:=e6 (i:=(i:Int)) (p:=p) (oW (ε:=ε) (γ:=γ) (tb:=tb) (bz h));have g2:=e6 (i:=(i:Int)) (p:=hb) (bz h');have g3:=e6 (i:=(i:Int)) (p:=hb) (bz h);by_cases hm:i∈iX γ ο
 ·obtain ⟨ds,j,hi,ed,gj,jl,eb,ne,hd⟩:=iO fw hh h hp hm;rw [gj,eb] at gb;dsimp only at gb;by_cases c:A3 (cK ε tb (.τ ο ds)) (j:Int)=true
  ·rw [aaw c] at gb;rw [gb] at g1;left;rw [g2,g3,g1]
  ·rw [aav c] at gb;rw [gb] at g1;right;refine ⟨ds,j,_,hi,by rw [g3,gj],by rw [g2,g1],jl,λz=>c (wx.mpr ⟨j,z,rfl⟩),hd⟩
 ·have hi:γ[i]? =some γ[i]:=aaa il;have gn:=(cf (i:=i) fw hh h).2 γ[i] hi λz=>hm (iU.mpr ⟨il,by unfold da;rw [hi];exact z⟩);rw [gn] at gb;have gb:Λ (Β ε γ tb p) i=none:=gb;rw [gb] at g1;left;rw [g2,g3,g1]
theorem p_(fw:FW ε γ X C)(hh:Γ ο=true)(h:af (e9 γ ο) p)(hp:∀t,t < γ.length->0 < (tb.getD t (0,1)).2)(hb:Pl)(ne:Β ε γ tb p≠[]):∃i,i < γ.length/\Ek ε γ tb ο (bj hb p) (bj hb (bj p (Β ε γ tb p))) i:=by
 obtain ⟨e,r,er⟩:=abn ne;have he:e∈Β ε γ tb p:=by rw [er];exact aae
 have ke:e.1∈p.map (·.1):=fT (aah.mpr ⟨e,he,rfl⟩);rw [bN h,gq] at ke;obtain ⟨i,hm,ei⟩:=aah.mp ke;have ei:(i:Int)=e.1:=ei;have il:=(iU.mp hm).1;refine ⟨i,il, ?_⟩;have h':=fS (tb:=tb) fw hh h hp;obtain ⟨ds,j,hi,ed,gj,jl,eb,ne',hd⟩:=iO fw hh h hp hm;have gb:=hG (ε:=ε) (γ:=γ) (tb:=tb) (i:=(i:Int)) (bz h);have s:(Λ (Β ε γ tb p) (i:Int)).isSome=true:=nE (aah.mpr ⟨e,he,ei.symm⟩);rw [gj,eb] at gb;dsimp only at gb;by_cases c:A3 (cK ε tb (.τ ο ds)) (j:Int)=true
 ·rw [aaw c] at gb;rw [gb] at s;cases s
 ·rw [aav c] at gb;have g1:=e6 (i:=(i:Int)) (p:=p) (oW (ε:=ε) (γ:=γ) (tb:=tb) (bz h));rw [gb] at g1;refine ⟨ds,j,_,hi,by rw [e6 (bz h),gj],by rw [e6 (bz h'),g1],jl,λz=>c (wx.mpr ⟨j,z,rfl⟩),hd⟩
theorem mq(fw:FW ε γ X C)(hh:Γ ο=true)(h:af (e9 γ ο) p)(hp:∀t,t < γ.length->0 < (tb.getD t (0,1)).2)(e:Β ε γ tb p=[])(hi:γ[i]? =some (.τ ο ds))(gj:Λ p i=some (j:Int)):j∈cK ε tb (.τ ο ds):=by
 have il:=(aaf.mp hi).1;have hm:i∈iX γ ο:=iU.mpr ⟨il,by unfold da;rw [hi];rfl⟩;obtain ⟨nD,j',ue,_,VC,_,eb,_,_⟩:=iO (tb:=tb) fw hh h hp hm;rw [hi] at ue;cases ue;have gb:=hG (ε:=ε) (γ:=γ) (tb:=tb) (i:=(i:Int)) (bz h);rw [e,gj,eb] at gb;dsimp only at gb;split at gb
 ·rename_i c;obtain ⟨b,hb,y⟩:=wx.mp c;have:b=j:=by omega
  rw [<-this];exact hb
 ·cases gb
end
theorem jy.W3(fw:FW ε γ X C)(dk:fW γ Ι)(b1:1<=jg X C)(h:jy ε γ Ι tb):HS ε γ tb:=by
 have ok:=h.ok fw dk b1;refine ⟨fw.pl.sh,fw.pl.len,fw.pl.row,ok.len,λt ht=>⟨(ok.sz t ht).2,(ok.red t ht).pos, ?_⟩⟩;have:(t.2.natAbs:Int) < ((2 ^ 1150:Nat):Int):=by rw [abj (aaj (ok.red t ht).pos)];exact acm (ok.sz t ht).1 (by decide)
 exact abI.mp this
theorem EK{k:Nat}{pl:Pl}(h:M[k]? =some (dP pl)):RH (M++[.eO [Sum.inr hand] [.loc k]]) M.length (jf hand pl):=by
 refine ⟨_,_,aW,λz=>⟨?_,λq e=> ?_⟩⟩
 ·unfold jf;show (decide ((Sum.inr hand:Key)=Sum.inr z) || false)=_;rw [Bool.or_false];by_cases y:z=hand
  ·rw [aaw y,aaB (by rw [y])];rfl
  ·rw [aav y,aaI λx=>y (Sum.inr.inj x).symm];rfl
 ·unfold jf at e;split at e
  ·rename_i y;cases e;subst y;refine ⟨k, ?_,bt h⟩;show ((List.zip [Sum.inr z] [Dt.loc k]).find? _).map _=_;simp [List.zip]
  ·cases e
def zc(A:Addr):DF:=λas M q _=>∃(ε:Fr) (γ:List Rw) (hand ο:Str) (k:Nat) (pl:Pl) (X C:Int),as=[ao A ε γ, .str hand, .loc k]/\M[k]? =some (dP pl)/\(hand="one"/\ο="other"\/hand="other"/\ο="one")/\FW ε γ X C/\jg X C<=2 ^ 450/\(12 * jg X C) ^ γ.length < 2 ^ 1030/\1<=jg X C/\(∀i,i < γ.length->cU γ (jf hand pl) i=true)/\∀(p:Pl) (tb:List Fr) (E':Ms) (kt:Nat),af (e9 γ ο) p->jy ε γ (bj (bI γ hand pl) p) tb->Β ε γ tb p=[]->M.length+3<=kt->(M++[.eO [Sum.inr hand] [.loc k],dP (bI γ hand pl),dP p]++E')[kt]? =some (.lst (tb.map Ν))->q (.tup [.loc (M.length+2), .loc kt]) (M++[.eO [Sum.inr hand] [.loc k],dP (bI γ hand pl),dP p]++E')
theorem fo:Ζ ["floor","hand","plan","held","answer","table","better"] ["floor","hand","plan"] (ψ sk):= .of rfl
theorem Ck(F:cX K "against" "against" sk f fd)(E:Ev K mg w Cm){qW:Addr}{rZ:FuncData}(gC:ax P w K mg base 4 "doors_of" ["floor","plans"] (rY Cm) qW rZ){mH:Addr}{mf:FuncData}(eG:ax P w K mg base 3 "first_plan" ["floor","hand"] (wZ Cm) mH mf){qT:Addr}{qS:FuncData}(d7:ax P w K mg base 8 "worths_against" ["floor","held","answer"] (Tf Cm) qT qS){jK:Addr}{jj:FuncData}(bZ:ax P w K mg base 8 "better_doors" ["floor","plan","table"] (wd Cm) jK jj):aj P w K mg base (b9 P w) 9 f fd ["floor","hand","plan"] (cJ K (zc Cm)):=by
 refine F.dQ fo (λds M q x h=> ?_) (λaY A outer s H E' hr=>⟨_,(η (Α 3 fo.nd (ae gC hr ξ (Ο (jv 0) (ι (yU (jv 1) (jv 2)) θ))))
   (η (Α 4 fo.nd (ae eG hr ξ (Ο (jv 0) (ι (Tu E.lC (jv 1)) θ aX))))
   (η (Α 5 fo.nd (ae d7 hr ξ (Ο (jv 0) (Ο (jv 3) (Ο (jv 4) θ)))))
   (η (Α 6 fo.nd (ae bZ hr ξ (Ο (jv 0) (Ο (jv 4) (Ο (jv 5) θ)))))
   (η (nz (C9 (HD E.bC (Ο (jv 6) θ)) υ) (η (c7 (Cp (jv 4) (jv 6)))
   (η (Α 5 fo.nd (ae d7 hr ξ (Ο (jv 0) (Ο (jv 3) (Ο (jv 4) θ)))))
   (μ (Α 6 fo.nd (ae bZ hr ξ (Ο (jv 0) (Ο (jv 4) (Ο (jv 5) θ)))))))))
   (μ (Ε (dM (Ο (jv 4) (Ο (jv 5) θ)))))))))),λds M q x h=> ?_⟩)
 ·obtain ⟨ε,γ,hand,ο,k,pl,X,C,rfl,_⟩:=h;rfl
 ·obtain ⟨ε,γ,hand,ο,k,pl,X,C,rfl,hk,ff,fw,jq,lG,b1,gd,h⟩:=h;have qm:=fw.pl.len;have lk:List.lookup hand [(Str.ofString "one",Str.ofString "other"),(Str.ofString "other",Str.ofString "one"),(Str.ofString "chance",Str.ofString "chance")]=some ο:=by rcases ff with ⟨rfl,rfl⟩ | ⟨rfl,rfl⟩ <;> decide
  have h1:Γ hand=true:=by rcases ff with ⟨rfl,rfl⟩ | ⟨rfl,rfl⟩ <;> decide
  have h2:Γ ο=true:=by rcases ff with ⟨rfl,rfl⟩ | ⟨rfl,rfl⟩ <;> decide
  have lF:hand≠ο:=by rcases ff with ⟨rfl,rfl⟩ | ⟨rfl,rfl⟩ <;> decide
  have two:∀z:Str,Γ z=true->z=hand\/z=ο:=λz hz=>by
   unfold Γ at hz;rw [Bool.or_eq_true,abz,abz] at hz;rcases ff with ⟨rfl,rfl⟩ | ⟨rfl,rfl⟩
   ·exact hz
   ·exact hz.symm
  have Qv:∀{p},af (e9 γ ο) p->fW γ (bj (bI γ hand pl) p):=λhp=>OY fw h1 h2 lF two gd hp;have GP:∀{p},af (e9 γ ο) p->p.length<=12:=λ{p} hp=>by have:=aaZ List.length (bN hp);rw [aad,gq,aad] at this;have l:=List.length_filter_le (λi=>decide (da γ i=ο)) (List.range γ.length);rw [aa1] at l;have l:(iX γ ο).length<=γ.length:=l;omega
  have hlen:(bI γ hand pl).length<=12:=aax (xw γ _ _) qm;walk_at "vc";dsimp only [BA,U3];walk_at "vc";refine ⟨Sum.inr hand,rfl, ?_⟩;refine ⟨ε,γ,M.length,jf hand pl,rfl,EK hk,fw.pl,gd, ?_⟩;refine ⟨hand,ο,rfl,lk, ?_⟩;refine ⟨ε,γ,ο,rfl,qm, ?_⟩;obtain ⟨A5,hd0⟩:∃d:MO,d=MO.eO [Sum.inr hand] [Dt.loc k]:=⟨_,rfl⟩;rw [<-hd0] at h⊢;dsimp only [bI] at h Qv hlen;generalize Z9:bV γ (jf hand pl) γ.length=held at *
  have B3:∀p:Pl,M++[A5]++[dP held]++[dP p]=M++[A5,dP held,dP p]:=λp=>by simp
  have kh1:(M++[A5]).length=M.length+1:=by simp
  have VE:(M++[A5]++[dP held]).length=M.length+2:=by simp
  rw [kh1,VE,B3];have ZA:∀(p:Pl) (E:Ms),(M++[A5,dP held,dP p]++E)[M.length+1]? =some (dP held):=λp E=>bt (by rw [aak (by omega),show M.length+1 - M.length=1 by omega];rfl);have RG:∀(p:Pl) (E:Ms),(M++[A5,dP held,dP p]++E)[M.length+2]? =some (dP p):=λp E=>bt (by rw [aak (by omega),show M.length+2 - M.length=2 by omega];rfl);have f0:=tW fw h2;generalize xI γ ο=p0 at *
  have gp:∀{p:Pl} {tb:List Fr},jy ε γ (bj held p) tb->∀t,t < γ.length->0 < (tb.getD t (0,1)).2:=λwt t ht=>(wt.tab.red t ht).pos;have ZL:∀{p:Pl} {tb:List Fr},af (e9 γ ο) p->jy ε γ (bj held p) tb->∀e∈p,0<=e.1/\∃r,γ[e.1.toNat]? =some r/\Γ (kindOf r)=true/\cK ε tb r≠[]:=λ{p tb} hp wt e he=>by have ke:e.1∈p.map (·.1):=aah.mpr ⟨e,he,rfl⟩;rw [bN hp,gq] at ke;obtain ⟨i,hm,ei⟩:=aah.mp ke;have ei:(i:Int)=e.1:=ei;obtain ⟨ds,j,hi,_,_,_,_,ne,_⟩:=iO fw h2 hp (gp wt) hm;exact ⟨by omega, .τ ο ds,by rw [<-ei,abA];exact hi,h2,ne⟩
  have ZS:∀{p:Pl} {E:Ms},(M++[A5,dP held,dP p]++E).length+1=M.length+4+E.length:=by intro p E;rw [aag,aag];show M.length+3+E.length+1=_;omega
  have atT:∀(p:Pl) (E:Ms) (m:MO) (tb:List Fr),(M++[A5,dP held,dP p]++(E++[m, .lst (tb.map Ν)]))[M.length+4+E.length]? =some (.lst (tb.map Ν)):=λp E m tb=>by rw [aak (by rw [aag];show M.length+3<=_;omega),aak (by rw [aag];show E.length<=M.length+4+E.length - (M.length+3);omega)];rw [aag];show [m,MO.lst (tb.map Ν)][M.length+4+E.length - (M.length+3) - E.length]? =_;rw [show M.length+4+E.length - (M.length+3) - E.length=1 by omega];rfl
  have e0:M++[A5,dP held,dP p0]=M++[A5,dP held,dP p0]++[]:=(aa8 _).symm;rw [e0];refine ⟨ε,γ,M.length+1,M.length+2,held,p0,X,C,rfl,ZA p0 [],RG p0 [],by have:=GP f0;omega,Qv f0,fw,jq,lG,λRK XU=> ?_⟩;rw [ZS,aaP (M++[A5,dP held,dP p0])];refine ⟨ε,γ,RK, .loc _,M.length+2,p0,rfl,RG p0 _,XU.W3 fw (Qv f0) b1,jN (atT p0 [] _ RK),bz f0,GP f0,ZL f0 XU, ?_⟩;have XI:∀(p p':Pl) (E:Ms),(M++[A5,dP held,dP p]++E).set (M.length+2) (dP p')=M++[A5,dP held,dP p']++E:=λp p' E=>by rw [aaP,aaP,ab7 (h:=by omega),show M.length+2 - M.length=2 by omega];rfl
  have l3:∀(p:Pl) (E:Ms),M.length+3<=(M++[A5,dP held,dP p]++E).length:=λp E=>by rw [aag,aag];show M.length+3<=M.length+3+E.length;omega
  have Xa:∀{p:Pl} {tb:List Fr},af (e9 γ ο) p->(Β ε γ tb p).length<=12:=λhp=>aax (jC _) (GP hp);refine ⟨λm ρ' M'=>∃(p:Pl) (tb:List Fr) (E1:Ms) (kb kt:Nat),af (e9 γ ο) p/\jy ε γ (bj held p) tb/\above ε γ (gf ο) (bj held) (e9 γ ο) p=m/\M'=M++[A5,dP held,dP p]++E1/\M'[kb]? =some (dP (Β ε γ tb p))/\M.length+3<=kb/\M.length+3<=kt/\M'[kt]? =some (.lst (tb.map Ν))/\ρ'=[some (ao Cm ε γ),some (.str hand),some (.loc k),some (.loc (M.length+1)),some (.loc (M.length+2)),some (.loc kt),some (.loc kb)],⟨_,p0,RK,[]++[dP (bj held p0), .lst (RK.map Ν)]++[dP (Β ε γ RK p0)],_,_,f0,XU,rfl,by simp only [List.append_assoc],aW,l3 p0 _,by show M.length+3<=M.length+4+0;omega,bt (atT p0 [] _ RK),rfl⟩,λm ρ' M' hw=> ?_⟩;obtain ⟨p,tb,E1,kb,kt,fp,wt,hm,rfl,TM,kb3,Ve,VO,rfl⟩:=hw;walk_at "vc";refine ⟨kb,_,_,rfl,TM, ?_⟩;have kl:(kP (Β ε γ tb p)).length=(Β ε γ tb p).length:=by unfold kP;rw [List.length_map]
  rw [kl];refine ⟨λz=>⟨_,λρ2 M2 hn=>hn, ?_⟩,λz=> ?_⟩
  ·have z:(0:Int) < ((Β ε γ tb p).length:Int):=aap z;have ne:Β ε γ tb p≠[]:=λy=>by rw [y] at z;exact aaK z (by decide)
   have ur:=fS (tb:=tb) fw h2 fp (gp wt);have hd:=vc fw h2 fp (gp wt) held;obtain ⟨i,il,hc⟩:=p_ fw h2 fp (gp wt) held ne;dsimp only [IM,DY];walk_at "vc";refine ⟨⟨M.length+2,_,_,rfl,RG p E1⟩,M.length+2,kb,_,_,_,_,rfl,rfl,by omega,RG p E1,TM,by rw [kl];have:=GP fp;have:=Xa (tb:=tb) fp;unfold kP;rw [List.length_map];omega, ?_⟩;rw [Em,DR,XI];generalize bj p (Β ε γ tb p)=p' at *
   refine ⟨ε,γ,M.length+1,M.length+2,held,p',X,C,rfl,ZA p' E1,RG p' E1,by have:=GP ur;omega,Qv ur,fw,jq,lG,λnI K'=> ?_⟩;rw [ZS,aaP (M++[A5,dP held,dP p'])];refine ⟨ε,γ,nI, .loc _,M.length+2,p',rfl,RG p' _,K'.W3 fw (Qv ur) b1,jN (atT p' E1 _ nI),bz ur,GP ur,ZL ur K', ?_⟩;refine ⟨_, ?_,p',nI,E1++[dP (bj held p'), .lst (nI.map Ν)]++[dP (Β ε γ nI p')],_,_,ur,K',rfl,by simp only [List.append_assoc],aW,l3 p' _,by omega,bt (atT p' E1 _ nI),rfl⟩;rw [<-hm];exact Hx ur (Cj fw h2 (Qv fp) (Qv ur) b1 wt K' hd il hc)
  ·have z:¬(0:Int) < ((Β ε γ tb p).length:Int):=aa3 z;have e:Β ε γ tb p=[]:=List.length_eq_zero_iff.mp (by omega);exact ⟨gV,h p tb E1 kt fp wt e Ve VO⟩
section
variable{pa p' S_:Pl}
theorem jH(fw:FW ε γ X C)(hs:i5 hand ο)(fp:af (e9 γ hand) p)(fa:af (e9 γ ο) pa)(hi:γ[i]? =some r):(kindOf r=hand->Λ (bj (bI γ hand p) pa) i=Λ p i)/\(kindOf r=ο->Λ (bj (bI γ hand p) pa) i=Λ pa i)/\(Γ (kindOf r)=false->Λ (bj (bI γ hand p) pa) i=none):=by
 have il:=(aaf.mp hi).1;have g:=e6 (i:=(i:Int)) (p:=bI γ hand p) (bz fa);have hh:Λ (bI γ hand p) i=((jf hand p (kindOf r)).map λpl=>(Λ pl i).getD 0):=by rw [h7,aaw il,hi];rfl
 refine ⟨λe=> ?_,λe=> ?_,λe=> ?_⟩
 ·rw [g,(cf (i:=i) fw hs.h2 fa).2 r hi λz=>hs.ne (e.symm.trans z)];show Λ (bI γ hand p) i=_;rw [hh];cases r with
  | fin q=>exact aaK (show Γ (Str.ofString "end")=true by rw [<-hs.h1,<-e];rfl) (by decide)
  | τ k ds=>
   have e:k=hand:=e;subst e;obtain ⟨j,gj,_⟩:=(cf (i:=i) fw hs.h1 fp).1 ds hi;have:jf k p (kindOf (.τ k ds))=some p:=aaw rfl;rw [this];show some ((Λ p i).getD 0)=Λ p i;rw [gj];rfl
 ·cases r with
  | fin q=>exact aaK (show Γ (Str.ofString "end")=true by rw [<-hs.h2,<-e];rfl) (by decide)
  | τ k ds=>
   have e:k=ο:=e;subst e;obtain ⟨j,gj,_⟩:=(cf (i:=i) fw hs.h2 fa).1 ds hi;rw [g,gj]
 ·rw [g,(cf (i:=i) fw hs.h2 fa).2 r hi (λz=>by rw [z,hs.h2] at e;cases e)];show Λ (bI γ hand p) i=_;rw [hh];have:jf hand p (kindOf r)=none:=aav λz=>by rw [z,hs.h1] at e;cases e
  rw [this];rfl
def DL(ε:Fr)(γ:List Rw)(hand ο:Str)(p pa:Pl)(tb:List Fr):Prop:=af (e9 γ ο) pa/\jy ε γ (bj (bI γ hand p) pa) tb/\Β ε γ tb pa=[]
theorem D1{q:Pl}(nd:vJ q)(i:Int):Λ (bj [] q) i=Λ q i:=by rw [e6 nd];cases Λ q i <;> rfl
theorem sx(fw:FW ε γ X C)(hs:i5 hand ο)(fp:af (e9 γ hand) p)(b:DL ε γ hand ο p pa tb)(fa':af (e9 γ ο) S_)(ur:af (e9 γ hand) p')(hb:∀i,i < γ.length->Λ p' i=Λ p i\/Ek ε γ tb hand p p' i):∀i,i < γ.length->ZJ ε γ tb hand ο (bj (bI γ hand p) pa) (bj (bI γ hand p') S_) i:=λi il=>by
 obtain ⟨fa,wt,be⟩:=b;have hp:∀t,t < γ.length->0 < (tb.getD t (0,1)).2:=λt ht=>(wt.tab.red t ht).pos;have hi:γ[i]? =some γ[i]:=aaa il;generalize γ[i]=r at *
 obtain ⟨a1,a2,a3⟩:=jH (i:=i) fw hs fp fa hi;obtain ⟨c1,c2,c3⟩:=jH (i:=i) fw hs ur fa' hi;cases hk:Γ (kindOf r) with
 | false=>left;rw [a3 hk,c3 hk]
 | true=>
  rcases hs.two _ hk with e | e
  ·rcases hb i il with z | ⟨ds,j,j',ue,g,g',jl,nb,b⟩
   ·left;rw [a1 e,c1 e,z]
   ·right;left;exact ⟨ds,j,j',ue,by rw [a1 e];exact g,by rw [c1 e];exact g',jl,nb,b⟩
  ·right;right;cases r with
   | fin q=>exact aaK hk (by show¬Γ (Str.ofString "end")=true;decide)
   | τ k ds=>
    have e':k=ο:=e;subst e';obtain ⟨j,gj,jl⟩:=(cf (i:=i) fw hs.h2 fa).1 ds hi;obtain ⟨j',VC,Ny⟩:=(cf (i:=i) fw hs.h2 fa').1 ds hi;exact ⟨ds,j,j',hi,by rw [a2 rfl,gj],by rw [c2 rfl,VC],Ny,mq fw hs.h2 fa hp be hi gj⟩
theorem qG(fw:FW ε γ X C)(hs:i5 hand ο)(fp:af (e9 γ hand) p)(fa:af (e9 γ ο) pa):fW γ (bj (bI γ hand p) pa):=by
 refine ⟨λi r hi hk=> ?_,λi r hi hk=>(jH fw hs fp fa hi).2.2 hk⟩;obtain ⟨a1,a2,_⟩:=jH (i:=i) fw hs fp fa hi;cases r with
 | fin q=>exact aaK hk (by show¬Γ (Str.ofString "end")=true;decide)
 | τ k ds=>
  rcases hs.two _ hk with e | e
  ·have e':k=hand:=e;subst e';rw [a1 rfl];exact (cf (i:=i) fw hs.h1 fp).1 ds hi
  ·have e':k=ο:=e;subst e';rw [a2 rfl];exact (cf (i:=i) fw hs.h2 fa).1 ds hi
noncomputable def RI(ε:Fr)(γ:List Rw)(hand ο:Str)(p:Pl)(i:Nat):Rat:=open Classical in if h:∃tb,∃pa,DL ε γ hand ο p pa tb then val (h.choose.getD i (0,1)) else 0
theorem D3(fw:FW ε γ X C)(hs:i5 hand ο)(b1:1<=jg X C)(fp:af (e9 γ hand) p)(b:DL ε γ hand ο p pa tb)(il:i < γ.length):RI ε γ hand ο p i=val (tb.getD i (0,1)):=by
 have ex:∃tb,∃pa,DL ε γ hand ο p pa tb:=⟨tb,pa,b⟩;unfold RI;rw [dif_pos ex];obtain ⟨S_,b'⟩:=ex.choose_spec;generalize ex.choose=nI at *
 have u:=(qY fw hs (qG fw hs fp b'.1) b1 b.2.1 b'.2.1 (sx fw hs fp b b'.1 fp λ_ _=> .inl rfl)).1 i il;have v:=(qY fw hs (qG fw hs fp b.1) b1 b'.2.1 b.2.1 (sx fw hs fp b' b.1 fp λ_ _=> .inl rfl)).1 i il;exact Ba (k:=hand) (Rat.le_antisymm v u)
noncomputable def oQ(ε:Fr)(γ:List Rw)(hand ο:Str)(p:Pl):Nat:=open Classical in (pP (e9 γ hand)).countP λq=>decide (dN (λi=>gf hand * RI ε γ hand ο p i) γ.length < dN (λi=>gf hand * RI ε γ hand ο q i) γ.length)
theorem Nf(fw:FW ε γ X C)(hs:i5 hand ο)(b1:1<=jg X C)(fp:af (e9 γ hand) p)(b:DL ε γ hand ο p pa tb)(ne:Β ε γ tb p≠[])(b':DL ε γ hand ο (bj p (Β ε γ tb p)) S_ nI):oQ ε γ hand ο (bj p (Β ε γ tb p)) < oQ ε γ hand ο p:=by
 have hp:∀t,t < γ.length->0 < (tb.getD t (0,1)).2:=λt ht=>(b.2.1.tab.red t ht).pos;have ur:=fS (tb:=tb) fw hs.h1 fp hp;have n1:=D1 (bz fp);have n2:=D1 (bz ur);have cut:∀i,Ek ε γ tb hand (bj [] p) (bj [] (bj p (Β ε γ tb p))) i->Ek ε γ tb hand p (bj p (Β ε γ tb p)) i:=λi ⟨ds,j,j',hi,g,g',r⟩=>⟨ds,j,j',hi,by rw [<-n1];exact g,by rw [<-n2];exact g',r⟩;have hb:∀i,i < γ.length->Λ (bj p (Β ε γ tb p)) i=Λ p i\/Ek ε γ tb hand p (bj p (Β ε γ tb p)) i:=λi il=>by
  rcases vc fw hs.h1 fp hp [] i il with e | e
  ·left;rw [<-n1,<-n2];exact e
  ·exact .inr (cut i e)
 obtain ⟨i,il,hc⟩:=p_ fw hs.h1 fp hp [] ne;have mm:=sx fw hs fp b b'.1 ur hb;obtain ⟨u,v⟩:=qY fw hs (qG fw hs ur b'.1) b1 b.2.1 b'.2.1 mm;have AM:Ek ε γ tb hand (bj (bI γ hand p) pa) (bj (bI γ hand (bj p (Β ε γ tb p))) S_) i:=by obtain ⟨ds,j,j',hi,g,g',r⟩:=cut i hc;exact ⟨ds,j,j',hi,by rw [(jH fw hs fp b.1 hi).1 rfl];exact g,by rw [(jH fw hs ur b'.1 hi).1 rfl];exact g',r⟩
 have lt:dN (λi=>gf hand * RI ε γ hand ο p i) γ.length < dN (λi=>gf hand * RI ε γ hand ο (bj p (Β ε γ tb p)) i) γ.length:=by
  refine xg (λj hj=> ?_) il ?_
  ·rw [D3 fw hs b1 fp b hj,D3 fw hs b1 ur b' hj];exact u j hj
  ·rw [D3 fw hs b1 fp b il,D3 fw hs b1 ur b' il];exact v i il AM
 unfold oQ;refine BB (λa _ ha=> ?_) (rJ ur) (decide_eq_true lt) (decide_eq_false (by grind));have:=aap ha;exact decide_eq_true (by grind)
end
section
variable{pa:Pl}
theorem EO(fw:FW ε γ X C)(hh:Γ hand=true)(fp:af (e9 γ hand) p):∀i,i < γ.length->cU γ (jf hand p) i=true:=λi il=>by
 have hi:γ[i]? =some γ[i]:=aaa il;generalize γ[i]=r at *
 unfold cU;rw [hi];show fZ (jf hand p) i r=true;unfold fZ jf;by_cases e:kindOf r=hand
 ·rw [aaw e];cases r with
  | fin q=>exact aaK (show Γ (Str.ofString "end")=true by rw [<-hh,<-e];rfl) (by decide)
  | τ k ds=>
   have e:k=hand:=e;subst e;obtain ⟨j,gj,jl⟩:=(cf (i:=i) fw hh fp).1 ds hi;show dt p i ds.length=true;unfold dt;rw [gj];show (decide (0<=(j:Int))&&decide ((j:Int) < (ds.length:Int)))=true;rw [aaB (show 0<=(j:Int) by omega),aaB (show (j:Int) < (ds.length:Int) by omega)];rfl
 ·rw [aav e]
theorem Ir:oQ ε γ hand ο p<=(pP (e9 γ hand)).length:=List.countP_le_length
theorem HZ(fp:af (e9 γ hand) p):p.length<=γ.length:=by have:=aaZ List.length (bN fp);rw [aad,gq,aad] at this;have l:=List.length_filter_le (λi=>decide (da γ i=hand)) (List.range γ.length);rw [aa1] at l;have l:(iX γ hand).length<=γ.length:=l;omega
theorem L_(fw:FW ε γ X C)(hh:Γ hand=true)(fp:af (e9 γ hand) p)(hp:∀t,t < γ.length->0 < (tb.getD t (0,1)).2):∀e∈p,0<=e.1/\∃r,γ[e.1.toNat]? =some r/\Γ (kindOf r)=true/\cK ε tb r≠[]:=λe he=>by have ke:e.1∈p.map (·.1):=aah.mpr ⟨e,he,rfl⟩;rw [bN fp,gq] at ke;obtain ⟨i,hm,ei⟩:=aah.mp ke;have ei:(i:Int)=e.1:=ei;obtain ⟨ds,j,hi,_,_,_,_,ne,_⟩:=iO fw hh fp hp hm;exact ⟨by omega, .τ hand ds,by rw [<-ei,abA];exact hi,hh,ne⟩
theorem vg{v:Nat->Int}:∀{l:List Nat},(∀i∈l,0<=v i/\v i < ((Μ (fg γ i)).length:Int))->af (l.map λi:Nat=>((i:Int),(Μ (fg γ i)).length)) (l.map λi:Nat=>((i:Int),v i))
 | [],_=>trivial
 | i::l,h=>⟨rfl,(h i aae).1,(h i aae).2,vg λj hj=>h j (aac _ hj)⟩
theorem vk:∀n,n<=γ.length->bV γ (jf hand p) n=((List.range n).filter λi=>decide (da γ i=hand)).map λi:Nat=>((i:Int),(Λ p i).getD 0)
 | 0,_=>rfl
 | n+1,h=>by
  have ih:=vk n (by omega);have hi:γ[n]? =some γ[n]:=aaa (by omega);have gn:Λ (bV γ (jf hand p) n) n=none:=by rw [h7,aav (abu _)]
  rw [List.range_succ,List.filter_append,aa2,<-ih];generalize γ[n]=r at *
  have ek:da γ n=kindOf r:=by unfold da;rw [hi]
  have e1:bV γ (jf hand p) (n+1)=match jf hand p (kindOf r) with | some pl=>eD (bV γ (jf hand p) n) n ((Λ pl n).getD 0) | none=>bV γ (jf hand p) n:=by show (match (γ[n]?).bind λr=>jf hand p (kindOf r) with | some pl=>_ | none=>_)=_;rw [hi];rfl
  rw [e1];unfold jf;by_cases e:kindOf r=hand
  ·rw [aaw e,ab2 (by rw [ek];exact aaB e)];show eD (bV γ (jf hand p) n) n _=_;unfold eD;rw [gn];rfl
  ·rw [aav e,ab3 (by rw [ek];exact λz=>e (aap z))];show bV γ (jf hand p) n=bV γ (jf hand p) n++[];rw [aa8]
theorem GQ(fw:FW ε γ X C)(hh:Γ hand=true)(gd:∀i,i < γ.length->cU γ (jf hand p) i=true):af (e9 γ hand) (bI γ hand p):=by
 unfold bI;rw [vk γ.length (aai _)];refine vg λi hi=> ?_;obtain ⟨h1,h2⟩:=List.mem_filter.mp hi;have il:=aba.mp h1;have hr:=rw_at il;have h2:da γ i=hand:=aap h2;have g:=gd i il;generalize fg γ i=r at *
 unfold da at h2;rw [hr] at h2;have h2:kindOf r=hand:=h2;unfold cU at g;rw [hr] at g;have g:fZ (jf hand p) i r=true:=g;unfold fZ jf at g;rw [aaw h2] at g;have g:dt p i (Μ r).length=true:=g;unfold dt at g;cases e:Λ p i with
 | none=>rw [e] at g;cases g
 | some v=>
  rw [e] at g;have g:(decide (0<=v)&&decide (v < ((Μ r).length:Int)))=true:=g;rw [aaq,aan,aan] at g;exact g
def Rd(ε:Fr)(γ:List Rw)(hand ο:Str)(m:Nat)(p:Pl):Prop:=m=(pP (e9 γ hand)).length+1\/∃pp Z4 VL,af (e9 γ hand) pp/\DL ε γ hand ο pp Z4 VL/\Β ε γ VL pp≠[]/\p=bj pp (Β ε γ VL pp)/\m=oQ ε γ hand ο pp
theorem Rd.lt{m:Nat}(h:Rd ε γ hand ο m p)(fw:FW ε γ X C)(hs:i5 hand ο)(b1:1<=jg X C)(fp:af (e9 γ hand) p)(b:DL ε γ hand ο p pa tb):oQ ε γ hand ο p < m:=by
 rcases h with e | ⟨pp,Z4,VL,f,b0,ne,e,em⟩
 ·rw [e];exact Nat.lt_succ_of_le Ir
 ·subst e;rw [em];exact Nf fw hs b1 f b0 ne b
end
def zj(A:Addr):DF:=λas M q _=>∃(ε:Fr) (γ:List Rw) (hand:Str) (st:Dt),as=[ao A ε γ, .str hand,st]/\Mm ε γ/\(st= .aU/\q (.loc M.length) (M++[dP (xI γ hand)])\/∃(k:Nat) (p:Pl),st= .loc k/\M[k]? =some (dP p)/\(∀i,i < γ.length->cU γ (jf hand p) i=true)/\q (.loc (M.length+1)) (M++[.eO [Sum.inr hand] [.loc k]]++[dP (bI γ hand p)]))
theorem GH:Ζ ["floor","hand","start"] ["floor","hand","start"] (ψ sY):= .of rfl
theorem Bg(F:cX K "started" "started" sY f fd)(E:Ev K mg w Cm){mH:Addr}{mf:FuncData}(eG:ax P w K mg base 3 "first_plan" ["floor","hand"] (wZ Cm) mH mf){qW:Addr}{rZ:FuncData}(gC:ax P w K mg base 4 "doors_of" ["floor","plans"] (rY Cm) qW rZ):aj P w K mg base (b9 P w) 5 f fd ["floor","hand","start"] (cJ K (zj Cm)):=by
 refine F.dQ GH (λds M q x h=> ?_) (λaY A outer s H E' hr=>⟨_,(η (aF (Pd (jv 2) Gi) (μ (Ε (ae eG hr ξ (Ο (jv 0) (Ο (jv 1) θ))))) Τ)
   (μ (Ε (ae gC hr ξ (Ο (jv 0) (ι (yU (jv 1) (jv 2)) θ)))))),λds M q x h=> ?_⟩)
 ·obtain ⟨ε,γ,hand,st,rfl,_⟩:=h;rfl
 ·obtain ⟨ε,γ,hand,st,rfl,pl,h⟩:=h;rcases h with ⟨rfl,h⟩ | ⟨k,p,rfl,hk,gd,h⟩
  ·refine ⟨rfl,λ_=> ?_,λz=>(nomatch z)⟩;exact ⟨ε,γ,hand,rfl,pl.len,h⟩
  ·refine ⟨rfl,λz=>(nomatch z),λ_=> ?_⟩;walk_at "vc";dsimp only [BA];walk_at "vc";refine ⟨Sum.inr hand,rfl, ?_⟩;refine ⟨ε,γ,M.length,jf hand p,rfl,EK hk,pl,gd, ?_⟩;rw [aag];exact h
def nq(A:Addr):DF:=λas M q _=>∃(ε:Fr) (γ:List Rw) (hand ο:Str) (X C:Int) (st:Dt),as=[ao A ε γ, .str hand,st]/\(st= .aU\/∃(k:Nat) (p:Pl),st= .loc k/\M[k]? =some (dP p)/\(∀i,i < γ.length->cU γ (jf hand p) i=true))/\(hand="one"/\ο="other"\/hand="other"/\ο="one")/\FW ε γ X C/\jg X C<=2 ^ 450/\(12 * jg X C) ^ γ.length < 2 ^ 1030/\1<=jg X C/\(pP (e9 γ hand)).length<=1000/\∀(p pa:Pl) (tb:List Fr) (E:Ms) (kp ka kt kr:Nat),af (e9 γ hand) p->DL ε γ hand ο p pa tb->Β ε γ tb p=[]->M.length<=kt->(M++E)[kt]? =some (.lst (tb.map Ν))->q (.tup [.loc kp, .loc ka, .loc kt, .loc kr]) (M++E)
theorem j8:Ζ ["floor","hand","start","plan","rounds","found","better"] ["floor","hand","start"] (ψ xr):= .of rfl
theorem FC{U:Addr}(F:FL K "mended" xr U its f fd)(E:Ev K mg w Cm){I_:Addr}{J0:FuncData}(oM:ax P w K mg base 5 "started" ["floor","hand","start"] (zj Cm) I_ J0){IJ:Addr}{Kf:FuncData}(pk:ax P w K mg base 9 "against" ["floor","hand","plan"] (zc Cm) IJ Kf){jK:Addr}{jj:FuncData}(bZ:ax P w K mg base 8 "better_doors" ["floor","plan","table"] (wd Cm) jK jj):aj P w K mg base (b9 P w) 10 f fd ["floor","hand","start"] (cJ K (nq Cm)):=by
 refine F.dQ j8 (λds M q x h=> ?_) (λaY A outer s H E' hr=>⟨_,(η (hV (Α 3 j8.nd (ae oM hr ξ (Ο (jv 0) (Ο (jv 1) (Ο (jv 2) θ))))))
   (η (Α 4 j8.nd (jO θ))
   (μ (nz (b8 HM) (η (Α 5 j8.nd (ae pk hr ξ (Ο (jv 0) (Ο (jv 1) (Ο (jv 3) θ)))))
   (η (c7 (c_ (jv 4) (ι (dM (ι (Hz E.tX (Ο (jv 3) θ)) (ι (tS E.jk (ι (Η (jv 5) υ) θ aX)) θ aV) aV)) θ Ax)))
   (η (Α 6 j8.nd (ae bZ hr ξ (Ο (jv 0) (Ο (jv 3) (ι (Η (jv 5) υ) θ aX)))))
   (η (aF (dj hr (HD E.bC (Ο (jv 6) θ)) υ) (μ (Ε (dM (Ο (jv 3) (ι (Η (jv 5) υ) (ι (Η (jv 5) υ) (Ο (jv 4) θ) aX) aX))))) Τ)
   (μ (c7 (Cp (jv 3) (jv 6)))))))))))),λds M q x h=> ?_⟩)
 ·obtain ⟨ε,γ,hand,ο,X,C,st,rfl,_⟩:=h;rfl
 ·obtain ⟨ε,γ,hand,ο,X,C,st,rfl,MY,ff,fw,jq,lG,b1,hN,h⟩:=h;have hs:=fN ff;have qm:=fw.pl.len;have sl:∀{z:Nat},z<=1000->z < sizeLine:=λh=>aaT h (by decide);refine ⟨λρ M'=>∃(M0 E0:Ms) (p0:Pl),M0=M++E0/\af (e9 γ hand) p0/\M'=M0++[dP p0]/\ρ=[some (ao Cm ε γ),some (.str hand),some st,some (.loc M0.length),none,none,none], ?_, ?_⟩
  ·refine ⟨ε,γ,hand,st,rfl,fw.pl, ?_⟩;rcases MY with rfl | ⟨k,p,rfl,hk,gd⟩
   ·exact .inl ⟨rfl,M,[],_,(aa8 M).symm,tW fw hs.h1,rfl,rfl⟩
   ·refine .inr ⟨k,p,rfl,hk,gd,M++[.eO [Sum.inr hand] [.loc k]],_,_,rfl,GQ fw hs.h1 gd,rfl, ?_⟩;rw [aag];rfl
  rintro ρ0 M' ⟨M0,E0,p0,eM0,f0,rfl,rfl⟩;walk_at "vc";dsimp only [Ki];walk_at "vc";refine ⟨by decide, ?_⟩;have kr:(M0++[dP p0]).length=M0.length+1:=by simp
  rw [kr];refine ⟨λm ρ' M'=>∃(p:Pl) (xs:List Dt) (E1:Ms) (o5 o6:Option Dt),af (e9 γ hand) p/\Rd ε γ hand ο m p/\xs.length+m<=(pP (e9 γ hand)).length+1/\M'=M0++[dP p, .lst xs]++E1/\ρ'=[some (ao Cm ε γ),some (.str hand),some st,some (.loc M0.length),some (.loc (M0.length+1)),o5,o6],⟨_,p0,[],[],none,none,f0, .inl rfl,by rw [List.length_nil,Nat.zero_add];exact Nat.le_refl _,by simp,rfl⟩,λm ρ' M' hw=> ?_⟩;obtain ⟨p,xs,E1,o5,o6,fp,hm,hx,rfl,rfl⟩:=hw;walk_at "vc";refine ⟨λ_=>⟨_,λρ2 M2 hn=>hn, ?_⟩,λz=>(nomatch z)⟩;have RO:∀(p:Pl) (m:MO) (E:Ms),(M0++[dP p,m]++E)[M0.length]? =some (dP p):=λp m E=>bt (by rw [aak (aai _),acy];rfl);have atR:∀(p:Pl) (m:MO) (E:Ms),(M0++[dP p,m]++E)[M0.length+1]? =some m:=λp m E=>bt (by rw [aak (by omega),ab0];rfl);refine ⟨ε,γ,hand,ο,M0.length,p,X,C,rfl,RO p _ E1,ff,fw,jq,lG,b1,EO fw hs.h1 fp,λpa tb E2 kt fa wt be VO Ru=> ?_⟩;have S7:DL ε γ hand ο p pa tb:=⟨fa,wt,be⟩;have lt:=hm.lt fw hs b1 fp S7;have kE:(M0++[dP p,MO.lst xs]++E1).length+2=M0.length+4+E1.length:=by rw [aag,aag];show M0.length+2+E1.length+2=_;omega
  have eS:M0++[dP p,MO.lst xs]++E1++[MO.eO [Sum.inr hand] [Dt.loc (List.length M0)],dP (bI γ hand p),dP pa]++E2=M0++[dP p,MO.lst xs]++(E1++[MO.eO [Sum.inr hand] [Dt.loc (List.length M0)],dP (bI γ hand p),dP pa]++E2):=by simp only [List.append_assoc]
  have Ku:∀(m1 m2:MO) (E:Ms),(M0++[m1,m2]++(E1++[MO.eO [Sum.inr hand] [Dt.loc (List.length M0)],dP (bI γ hand p),dP pa]++E2++E))[M0.length+4+E1.length]? =some (dP pa):=λm1 m2 E=>by rw [aak (by rw [aag];show M0.length+2<=_;omega),aaP,aaP,aak (by rw [aag];show E1.length<=M0.length+4+E1.length - (M0.length+2);omega)];rw [aag];show ([MO.eO [Sum.inr hand] [Dt.loc (List.length M0)],dP (bI γ hand p),dP pa]++(E2++E))[M0.length+4+E1.length - (M0.length+2) - E1.length]? =_;rw [show M0.length+4+E1.length - (M0.length+2) - E1.length=2 by omega];rfl
  have RM:M0.length+2<=kt:=by rw [aag,aag] at VO;have:([dP p,MO.lst xs]:Ms).length=2:=rfl;omega
  clear VO;rw [kE,eS];rw [eS] at Ru;generalize M0.length+4+E1.length=ka at *
  generalize E1++[MO.eO [Sum.inr hand] [Dt.loc (List.length M0)],dP (bI γ hand p),dP pa]++E2=E3 at *
  have l2:∀a b:MO,(M0++[a,b]).length=M0.length+2:=λa b=>by simp
  have hT:∀m1 m2:MO,(M0++[m1,m2]++E3)[kt]? =some (.lst (tb.map Ν)):=λm1 m2=>by rw [aak (by rw [l2];exact RM),l2] at Ru⊢;exact Ru
  dsimp only [IC];walk_at "vc";refine ⟨⟨_,_,rfl,atR p _ E3⟩,M0.length,_,_,rfl,RO p _ E3, ?_⟩;have r1:∀(M':Ms) (q:DQ),q (.loc kt) M'->cj (.tup [.loc ka, .loc kt]) (.int 1) M' q:=λM' q hq=>Θ (d:= .tup [.loc ka, .loc kt]) rfl (Κ (j:=1) rfl) hq;have r0:∀(M':Ms) (q:DQ),q (.loc ka) M'->cj (.tup [.loc ka, .loc kt]) (.int 0) M' q:=λM' q hq=>Θ (d:= .tup [.loc ka, .loc kt]) rfl bo hq;refine r1 _ _ ?_;dsimp only [sO,fR];rw [bt (hT _ _)];refine ⟨by decide,M0.length+1,xs,_,rfl,rfl,bt (bt (atR p _ E3)),sl (by omega), ?_⟩;have eT:M0++[dP p,MO.lst xs]++E3++[MO.eO (kP p) (vP p)]++[MO.lst (tb.map Ν)]=M0++[dP p,MO.lst xs]++(E3++[MO.eO (kP p) (vP p),MO.lst (tb.map Ν)]):=by simp
  have WR:∀(ys:List Dt) (E:Ms),(M0++[dP p,MO.lst xs]++E).set (M0.length+1) (.lst ys)=M0++[dP p,MO.lst ys]++E:=λys E=>by rw [aaP,aaP,ab7 (h:=by omega),ab0];rfl
  have Zi:∀(p':Pl) (ys:List Dt) (E:Ms),(M0++[dP p,MO.lst ys]++E).set M0.length (dP p')=M0++[dP p',MO.lst ys]++E:=λp' ys E=>by rw [aaP,aaP,ab7 (h:=aai _),acy];rfl
  rw [eT,WR];have hl:(xs++[Dt.tup [.loc (M0++[dP p,MO.lst xs]++E3).length, .loc (M0++[dP p,MO.lst xs]++E3++[MO.eO (kP p) (vP p)]).length]]).length=xs.length+1:=by rw [aag];rfl
  generalize xs++[Dt.tup [.loc (M0++[dP p,MO.lst xs]++E3).length, .loc (M0++[dP p,MO.lst xs]++E3++[MO.eO (kP p) (vP p)]).length]]=ys at *
  have Ku:=λm1 m2 E=>Ku m1 m2 ([MO.eO (kP p) (vP p),MO.lst (tb.map Ν)]++E);have e4:∀E:Ms,E3++([MO.eO (kP p) (vP p),MO.lst (tb.map Ν)]++E)=E3++[MO.eO (kP p) (vP p),MO.lst (tb.map Ν)]++E:=λE=>by rw [aaP]
  simp only [e4] at Ku;have hT:∀m1 m2:MO,(M0++[m1,m2]++(E3++[MO.eO (kP p) (vP p),MO.lst (tb.map Ν)]))[kt]? =some (.lst (tb.map Ν)):=λm1 m2=>by rw [<-aaP];exact bt (hT m1 m2)
  generalize E3++[MO.eO (kP p) (vP p),MO.lst (tb.map Ν)]=E4 at *
  have hp:∀t,t < γ.length->0 < (tb.getD t (0,1)).2:=λt ht=>(wt.tab.red t ht).pos;have ur:=fS (tb:=tb) fw hs.h1 fp hp;have pl:=HZ fp;refine r1 _ _ ?_;refine ⟨ε,γ,tb, .loc kt,M0.length,p,rfl,RO p _ E4,wt.W3 fw (qG fw hs fp fa) b1,jN (hT _ _),bz fp,by omega,L_ fw hs.h1 fp hp, ?_⟩;have bl:(Β ε γ tb p).length<=12:=aax (jC _) (by omega);refine ⟨_,_,_,rfl,aW, ?_⟩;have kl:(kP (Β ε γ tb p)).length=(Β ε γ tb p).length:=by unfold kP;rw [List.length_map]
  rw [kl];refine ⟨λz=> ?_,λz=> ?_⟩
  ·have z:((Β ε γ tb p).length:Int)=0:=aap z;have e:Β ε γ tb p=[]:=List.length_eq_zero_iff.mp (by omega);refine r0 _ _ (r1 _ _ ⟨by decide, ?_⟩);have e5:M0++[dP p,MO.lst ys]++E4++[dP (Β ε γ tb p)]=M++(E0++([dP p,MO.lst ys]++(E4++[dP (Β ε γ tb p)]))):=by rw [eM0];simp only [List.append_assoc]
   have lM:=aaZ List.length eM0;rw [aag] at lM;have hL:=hT (dP p) (MO.lst ys);have hL:=bt (E:=[dP (Β ε γ tb p)]) hL;rw [e5] at hL⊢;exact h p pa tb _ _ _ kt _ fp S7 e (by omega) hL
  ·have z:¬((Β ε γ tb p).length:Int)=0:=aa3 z;have ne:Β ε γ tb p≠[]:=λy=>z (by rw [y];rfl);dsimp only [DY];walk_at "vc";have ll:(M0++[dP p,MO.lst ys]++E4).length=M0.length+2+E4.length:=by rw [aag,aag];rfl
   refine ⟨⟨_,_,_,rfl,bt (RO p _ E4)⟩,M0.length,_,_,_,_,_,rfl,rfl,by omega,bt (RO p _ E4),aW,by rw [kl];unfold kP;rw [List.length_map];omega, ?_⟩;rw [Em,DR,aaP,Zi];exact ⟨_,lt,_,ys,_,_,_,ur, .inr ⟨p,pa,tb,fp,S7,ne,rfl,rfl⟩,by omega,rfl,rfl⟩
def zG(A:Addr):DF:=λas M q _=>∃(ε:Fr) (γ:List Rw) (X C:Int),as=[ao A ε γ]/\FW ε γ X C/\jg X C<=2 ^ 450/\(12 * jg X C) ^ γ.length < 2 ^ 1030/\1<=jg X C/\(pP (e9 γ "one")).length<=1000/\∀(p pa:Pl) (tb:List Fr) (E:Ms) (kt:Nat),af (e9 γ "one") p->DL ε γ "one" "other" p pa tb->Β ε γ tb p=[]->M.length<=kt->(M++E)[kt]? =some (.lst (tb.map Ν))->q (.loc kt) (M++E)
theorem Ht:Ζ ["floor"] ["floor"] (ψ w_):= .of rfl
theorem Fv(F:cX K "worths" "worths" w_ f fd)(E:Ev K mg w Cm){nu:Addr}{nA:FuncData}(gI:y9 P w K mg base 10 "mended" ["floor","hand","start"] (nq Cm) [.str "one", .aU] nu nA):aj P w K mg base (b9 P w) 11 f fd ["floor"] (cJ K (zG Cm)):=by
 refine F.dQ Ht (λds M q x h=> ?_) (λaY A outer s H E' hr=>⟨_,(μ (Ε (Η (Ei gI hr ξ (Ο (jv 0) θ)) υ))),λds M q x h=> ?_⟩)
 ·obtain ⟨ε,γ,X,C,rfl,_⟩:=h;rfl
 ·obtain ⟨ε,γ,X,C,rfl,fw,jq,lG,b1,hN,h⟩:=h;refine ⟨ε,γ,"one","other",X,C, .aU,rfl, .inl rfl, .inl ⟨rfl,rfl⟩,fw,jq,lG,b1,hN,λp pa tb E kp ka kt kr fp S7 be hk ht=> ?_⟩;exact Θ (d:= .tup [.loc kp, .loc ka, .loc kt, .loc kr]) rfl (Κ (j:=2) rfl) (h p pa tb E kt fp S7 be hk ht)
section
variable{pa p1 p2 q1 q2 qr:Pl}
theorem jy.ext(h:jy ε γ Ι tb)(e:∀i:Nat,i < γ.length->Λ bP i=Λ Ι i):jy ε γ bP tb:=
 ⟨⟨h.tab.len,h.tab.red,λi il=>by
  have:=h.jF il;rw [<-AX (e i il)] at this
  exact this.symm⟩,h.bot⟩
def Ak(γ:List Rw)(hand:Str)(p:Pl):Prop:=∀(i:Nat) (r:Rw),γ[i]? =some r->kindOf r=hand->∃j:Nat,Λ p i=some (j:Int)/\j < (Μ r).length
theorem dF(fw:FW ε γ X C)(hh:Γ hand=true)(fp:af (e9 γ hand) p):Ak γ hand p:=λi r hi e=>by
 cases r with
 | fin q=>exact aaK (show Γ (Str.ofString "end")=true by rw [<-hh,<-e];rfl) (by decide)
 | τ k ds=>
  have e:k=hand:=e;subst e;exact (cf (i:=i) fw hh fp).1 ds hi
theorem wI(o:Ak γ hand p)(hi:γ[i]? =some r)(e:kindOf r=hand):dt p i (Μ r).length=true:=by obtain ⟨j,gj,jl⟩:=o i r hi e;unfold dt;rw [gj];show (decide (0<=(j:Int))&&decide ((j:Int) < ((Μ r).length:Int)))=true;rw [aaB (show 0<=(j:Int) by omega),aaB (show (j:Int) < ((Μ r).length:Int) by omega)];rfl
theorem kq(o1:Ak γ "one" p1)(o2:Ak γ "other" p2):∀i,i < γ.length->cU γ (aq p1 p2) i=true:=λi il=>by
 have hi:γ[i]? =some γ[i]:=aaa il;generalize γ[i]=r at *
 unfold cU;rw [hi];show fZ (aq p1 p2) i r=true;unfold fZ aq;by_cases e:kindOf r="one"
 ·rw [aaw e];exact wI o1 hi e
 ·rw [aav e];by_cases e2:kindOf r="other"
  ·rw [aaw e2];exact wI o2 hi e2
  ·rw [aav e2]
theorem qv(hi:γ[i]? =some r):Λ (bV γ (aq p1 p2) γ.length) i=((aq p1 p2 (kindOf r)).map λpl=>(Λ pl i).getD 0):=by rw [h7,aaw (aaf.mp hi).1,hi];rfl
structure Al(ε:Fr)(γ:List Rw)(p1 p2:Pl)(tb:List Fr):Prop where
 f1:af (e9 γ "one") p1
 f2:af (e9 γ "other") p2
 wt:jy ε γ (bV γ (aq p1 p2) γ.length) tb
 n1:Β ε γ tb p1=[]
 n2:Β ε γ tb p2=[]
theorem fh:i5 "one" "other":=fN (.inl ⟨rfl,rfl⟩)
theorem QM:i5 "other" "one":=fN (.inr ⟨rfl,rfl⟩)
theorem Av(h:Γ z=false):aq p1 p2 z=none:=by unfold aq;rw [aav (λe=>by rw [e] at h;exact aaK h (by decide)),aav (λe=>by rw [e] at h;exact aaK h (by decide))]
theorem yJ(fw:FW ε γ X C)(hs:i5 hand ο)(fp:af (e9 γ hand) p)(fa:af (e9 γ ο) pa)(e1:aq p1 p2 hand=some p)(e2:aq p1 p2 ο=some pa)(w:jy ε γ (bj (bI γ hand p) pa) tb):jy ε γ (bV γ (aq p1 p2) γ.length) tb:=w.ext λi il=>by
 have hi:γ[i]? =some γ[i]:=aaa il;generalize γ[i]=r at *
 obtain ⟨a1,a2,a3⟩:=jH (i:=i) fw hs fp fa hi;rw [qv hi];cases hk:Γ (kindOf r) with
 | false=>rw [a3 hk,Av hk];rfl
 | true=>
  rcases hs.two _ hk with e | e
  ·obtain ⟨j,gj,_⟩:=dF fw hs.h1 fp i r hi e;rw [a1 e,e,e1,gj];show some ((Λ p i).getD 0)=_;rw [gj];rfl
  ·obtain ⟨j,gj,_⟩:=dF fw hs.h2 fa i r hi e;rw [a2 e,e,e2,gj];show some ((Λ pa i).getD 0)=_;rw [gj];rfl
theorem Eo(fw:FW ε γ X C)(fp:af (e9 γ "one") p)(b:DL ε γ "one" "other" p pa tb)(n:Β ε γ tb p=[]):Al ε γ p pa tb:=⟨fp,b.1,yJ fw fh fp b.1 rfl rfl b.2.1,n,b.2.2⟩
theorem N6(fw:FW ε γ X C)(fp:af (e9 γ "other") p)(b:DL ε γ "other" "one" p pa tb)(n:Β ε γ tb p=[]):Al ε γ pa p tb:=⟨b.1,fp,yJ fw QM fp b.1 rfl rfl b.2.1,b.2.2,n⟩
theorem As(fw:FW ε γ X C)(b1:1<=jg X C)(hh:Γ ο=true)(fa:af (e9 γ ο) pa)(be:Β ε γ tb pa=[])(e1:aq p1 p2 ο=some pa)(e2:aq q1 q2 ο=some qr)(eo:∀z:Str,z≠ο->aq q1 q2 z=aq p1 p2 z)(has:Ak γ ο qr)(dk:fW γ (bV γ (aq q1 q2) γ.length))(wt:jy ε γ (bV γ (aq p1 p2) γ.length) tb)(K':jy ε γ (bV γ (aq q1 q2) γ.length) nI):∀i,i < γ.length->gf ο * val (nI.getD i (0,1))<=gf ο * val (tb.getD i (0,1)):=by
 have hp:∀t,t < γ.length->0 < (tb.getD t (0,1)).2:=λt ht=>(wt.tab.red t ht).pos;refine zh fw hh dk b1 wt K' λi il=> ?_;have hi:γ[i]? =some γ[i]:=aaa il;generalize γ[i]=r at *
 rw [qv hi,qv hi];by_cases ek:kindOf r=ο
 ·right;obtain ⟨j,gj,_⟩:=dF fw hh fa i r hi ek;obtain ⟨j',VC,Ny⟩:=has i r hi ek;cases r with
  | fin q=>exact aaK (show Γ (Str.ofString "end")=true by rw [<-hh,<-ek];rfl) (by decide)
  | τ k ds=>
   have ek:k=ο:=ek;subst ek;refine ⟨ds,j,j',hi, ?_, ?_,Ny,mq fw hh fa hp be hi gj⟩
   ·show Option.map _ (aq p1 p2 k)=_;rw [e1];show some ((Λ pa i).getD 0)=_;rw [gj];rfl
   ·show Option.map _ (aq q1 q2 k)=_;rw [e2];show some ((Λ qr i).getD 0)=_;rw [VC];rfl
 ·left;rw [eo _ ek]
theorem WM:gf "one"=1:=aaw rfl
theorem Wx:gf "other"= -1:=aav (by decide)
theorem xY(h:z≠"other"):aq p1 q2 z=aq p1 p2 z:=by
 unfold aq;by_cases e:z="one"
 ·rw [aaw e,aaw e]
 ·rw [aav e,aav e,aav h,aav h]
theorem Ci(h:z≠"one"):aq q1 p2 z=aq p1 p2 z:=by unfold aq;rw [aav h,aav h]
theorem Al.low(o:Al ε γ p1 p2 tb)(fw:FW ε γ X C)(b1:1<=jg X C)(has:Ak γ "other" q2)(K':jy ε γ (bV γ (aq p1 q2) γ.length) nI)(il:i < γ.length):val (tb.getD i (0,1))<=val (nI.getD i (0,1)):=by have:=As fw b1 fh.h2 o.f2 o.n2 rfl rfl (λz hz=>xY hz) has (AI (kq (dF fw fh.h1 o.f1) has)) o.wt K' i il;rw [Wx] at this;grind
theorem Al.high(o:Al ε γ p1 p2 tb)(fw:FW ε γ X C)(b1:1<=jg X C)(has:Ak γ "one" q1)(K':jy ε γ (bV γ (aq q1 p2) γ.length) nI)(il:i < γ.length):val (nI.getD i (0,1))<=val (tb.getD i (0,1)):=by have:=As fw b1 fh.h1 o.f1 o.n1 rfl rfl (λz hz=>Ci hz) has (AI (kq has (dF fw fh.h2 o.f2))) o.wt K' i il;rw [WM] at this;grind
end
theorem Sa(h1: -(10 ^ 30)<=a)(h2:a<=10 ^ 30)(h3:b<=1000000):bq (a,b)=true:=by
 unfold bq;have:(if a < 0 then -a else a)<=10 ^ 30:=by split <;> omega
 show (decide ((if a < 0 then -a else a)<=10 ^ 30)&&decide (b<=1000000))=true;rw [aaB this,aaB h3];rfl
theorem DM{t:Int}(h1: -(10 ^ 30)<=t)(h2:t<=10 ^ 30)(h0:0 < b)(h3:b<=1000000):bq (ay t b)=true:=by
 have l1:=tj (t:=t) (show b≠0 by omega);have l2:=kJ (t:=t) (show b≠0 by omega);generalize ay t b=f at *
 obtain ⟨x,y⟩:=f;have l1:x.natAbs<=t.natAbs:=l1;have l2:y.natAbs<=b.natAbs:=l2;exact Sa (by omega) (by omega) (by omega)
theorem Bs{t:Int}(t0:0<=t)(t1:t < b)(hb1:b<=1000):aS (ay t b)=true:=by
 have K7:0 < b:=by omega
 have l2:=kJ (t:=t) (show b≠0 by omega);have q0:=cL (t:=t) (show b≠0 by omega);have hc:=cG (t:=t) (show b≠0 by omega);generalize ay t b=f at *
 obtain ⟨x,y⟩:=f;have l2:y.natAbs<=b.natAbs:=l2;have q0:0 < y:=q0;have hc:t * y=b * x:=hc;have x0:0<=x:=by
  rcases ack x 0 with z | z
  ·have:=abT K7 z;have:=abh t0 (aaj q0);omega
  ·exact z
 have x1:x < y:=by
  rcases ack x y with z | z
  ·exact z
  ·have h3:b * y<=b * x:=aar z (aaj K7);have h4:t * y < b * y:=Int.mul_lt_mul_of_pos_right t1 q0;omega
 unfold aS;show (decide (0<=x)&&(decide (x < y)&&decide (y<=1000)))=true;rw [aaB x0,aaB x1,aaB (show y<=1000 by omega)];rfl
def Xe(ns:List Int)(k:Int):Int:=ns.getD k.toNat 0
theorem O6{ns:List Int}{k:Int}(h0:0<=k)(h2:k < ns.length):mw (ns.map Dt.int) k=some (.int (Xe ns k)):=by
 have e:(ns.map Dt.int)[k.toNat]? =some (.int (Xe ns k)):=by rw [aao,aaa (show k.toNat < ns.length by omega)];unfold Xe;rw [aab,aaa (show k.toNat < ns.length by omega)];rfl
 have:=Κ e;rwa [show ((k.toNat:Nat):Int)=k by omega] at this
def Nm(n:Int):Prop:=0<=n/\n < 10 ^ 300
theorem Up:zI 10 60:=⟨by decide,by decide,by decide⟩
theorem Xr:zI 10 30:=⟨by decide,by decide,by decide⟩
theorem p18:zI 10 18:=⟨by decide,by decide,by decide⟩
theorem p12:zI 10 12:=⟨by decide,by decide,by decide⟩
theorem p6:zI 10 6:=⟨by decide,by decide,by decide⟩
theorem rD{n:Int}(h:Nm n):eP n:=qk (k:=1000) h.1 (acm h.2 (by decide)) (by decide)
theorem II(h0:0 < b)(h1:b<=10 ^ 300):Nm (a % b):=⟨aa4 _ (by omega),Int.lt_of_lt_of_le (aa0 _ h0) h1⟩
theorem Bp{n:Int}(h:Nm n)(h0:0 < b):Nm (n / b):=⟨Int.ediv_nonneg h.1 (aaj h0),aaH (acf _ h.1) h.2⟩
def Zn:DF:=λas M q _=>∃(ns:List Int) (k:Int),as=[.h_ ns, .int k]/\ns.length<=63/\0<=k/\k<=200/\∀n,Nm n->q (.int n) M
theorem qA:Ζ ["_law_script","_law_k","_law_mixed","_law_cell"] ["_law_script","_law_k"] (ψ Bq):= .of rfl
theorem HN(F:cX K "_law_at" "_law_at" Bq f fd)(E:Ev K mg w Cm):aj P w K mg base (b9 P w) 1 f fd ["_law_script","_law_k"] (cJ K Zn):=by
 refine F.dQ qA (λds M q x h=> ?_) (λaY A outer s H E' hr=>⟨_,(η (aF (uY (jv 1) (cq E.bC (Ο (jv 0) θ))) (μ (Ε (bO (Η (jv 0) (jv 1)) (av (av (av (av (i_ υ υ) (i_ υ υ)) (i_ υ υ)) (i_ υ υ)) (i_ υ υ))))) Τ)
   (η (Α 2 qA.nd (cc υ (av υ (cq E.bC (Ο (jv 0) θ)))))
   (η (cY (bx (cN (x8 (jv 0) υ))) (ar (i:=3) qA.nd rfl (Or.inl rfl)) aL (μ (Α 2 qA.nd (bO (cc (av (jv 2) υ) (bO (jv 3) (i_ υ υ))) υ))))
   (μ (Ε (bO (av (cc (jv 2) υ) (cc (av (jv 1) (jv 1)) υ)) υ)))))),λds M q x h=> ?_⟩)
 ·obtain ⟨ns,k,rfl,_⟩:=h;rfl
 ·obtain ⟨ns,k,rfl,nl,hk,k2,h⟩:=h;have bk:eP k:=bg (k:=40) (by omega);have bl:eP (ns.length:Int):=bg (k:=40) (by omega);have b6:eP ((10:Int) ^ (60:Int).toNat):=bg (k:=210) (by decide);walk_at "vc";refine (aE (d:= .h_ ns) (xs:=ns.map .int) rfl ?_:gh [.h_ ns] M _);rw [aad];refine ⟨λh1=> ?_,λh1=> ?_⟩
  ·have Xz:k < ns.length:=aap h1;refine (Θ (d:= .h_ ns) rfl (O6 hk Xz) ?_:cj (.h_ ns) (.int k) M _);exact ⟨Up,Up,⟨b6,b6⟩,Up,⟨bg (k:=410) (by decide),b6⟩,Up,⟨bg (k:=610) (by decide),b6⟩,Up,⟨bg (k:=810) (by decide),b6⟩,by decide,h _ (II (by decide) (by decide))⟩
  ·refine (aE (d:= .h_ ns) (xs:=ns.map .int) rfl ?_:gh [.h_ ns] M _);rw [aad];refine ⟨⟨bg (k:=40) (by decide),bl⟩, ?_⟩;dsimp only [p7,fM,UZ,Kv];walk_at "vc";refine ⟨ns.map .int,6,rfl,rfl, ?_⟩;rw [<-acr];refine cW (gc _) ?_;refine bD (λzs ρ' M'=>M'=M/\∃(rest:List Int) (m:Int) (o:Option Dt),zs=rest.map Dt.int/\0<=m/\m < 2147483647/\ρ'=[some (.h_ ns),some (.int k),some (.int m),o]) (λzs ρ' M' hj=>trivial) (λx zs ρ' M' hj e_=> ?_) (λρ' M' hj=> ?_) _ _ _ ⟨rfl,_,_,none,rfl,by omega,by omega,rfl⟩
   ·obtain ⟨rfl,rest,m,o,ex,m0,m1,rfl⟩:=hj;cases rest with
    | nil=>cases ex
    | cons c rest=>
     cases ex;exact ⟨⟨bg (k:=40) (by omega),bg (k:=40) (by decide)⟩,p12,by decide,by decide,e_ _ _ ⟨rfl,rest,_,_,rfl,aa4 _ (by decide),aa0 _ (by decide),rfl⟩⟩
   ·obtain ⟨rfl,rest,m,o,ex,m0,m1,rfl⟩:=hj;have kk:0<=k * k/\k * k<=200 * 200:=⟨abh hk hk,abC k2 k2 hk (by decide)⟩;exact ⟨⟨bk,bk⟩,⟨bg (k:=40) (by omega),bg (k:=40) (by omega)⟩,by decide,h _ (II (by decide) (by decide))⟩
def Xs(x:Int):Prop:=0<=x/\x < 2 ^ 110
def xy:DF:=λas M q _=>∃(n:Int) (aR:Nat),as=[.int n, .int (aR:Nat)]/\eP n/\aR<=60/\∀xs:List Int,xs.length=aR->(∀x∈xs,Xs x)->q (.loc M.length) (M++[.lst (xs.map Dt.int)])
theorem fQ:Ζ ["_law_number","_law_many","_law_some","_law_seed","_law_k"] ["_law_number","_law_many"] (ψ mN):= .of rfl
theorem w8(F:cX K "_law_stream" "_law_stream" mN f fd)(E:Ev K mg w Cm):aj P w K mg base (b9 P w) 1 f fd ["_law_number","_law_many"] (cJ K xy):=by
 refine F.dQ fQ (λds M q x h=> ?_) (λaY A outer s H E' hr=>⟨_,(η (Α 2 fQ.nd (jO θ))
   (η (Α 3 fQ.nd (cc (bO (av (jv 0) υ) υ) υ))
   (η (g_ (cw E.bU (Ο (jv 1) θ)) (ar (i:=4) fQ.nd rfl (Or.inl rfl)) aL (η (Α 3 fQ.nd (bO (cc (cc (av (jv 3) υ) (av (jv 4) (jv 4))) υ) υ))
   (μ (c7 (c_ (jv 2) (Ο (jv 3) θ))))))
   (μ (Ε (jv 2)))))),λds M q x h=> ?_⟩)
 ·obtain ⟨n,aR,rfl,_⟩:=h;rfl
 ·obtain ⟨n,aR,rfl,bn,m60,h⟩:=h;refine ⟨by decide,⟨bn,bg (k:=20) (by decide)⟩,by decide, ?_⟩;have s0:=aa4 (n * 69621) (show (2147483629:Int)≠0 by decide);have s1:=aa0 (n * 69621) (show (0:Int) < 2147483629 by decide);dsimp only [ql];generalize n * 69621 % 2147483629=sd at *
  refine ⟨⟨by omega,by omega⟩, ?_⟩;rw [show ((aR:Int)).toNat=aR by omega];refine cM (λzs ρ' M'=>∃(i c:Nat) (xs:List Int) (sd:Int) (o:Option Dt),zs=dW (i:Int) c/\i+c=aR/\xs.length=i/\(∀x∈xs,Xs x)/\0<=sd/\sd<=2147483647/\M'=M++[.lst (xs.map Dt.int)]/\ρ'=[some (.int n),some (.int (aR:Int)),some (.loc M.length),some (.int sd),o]) (λx zs ρ' M' hj e_=> ?_) (λρ' M' hj=> ?_) _ _ _ ⟨0,aR,[],sd+1,none,rfl,by omega,rfl,λ_ z=>(nomatch z),by omega,by omega,rfl,rfl⟩
  ·obtain ⟨i,c,xs,sd,o,ex,ic,xl,hx,d0,d1,rfl,rfl⟩:=hj;obtain ⟨c',rfl,rfl,rfl⟩:=cx ex;have i60:(i:Int) < 60:=by omega
   have ii:0<=(i:Int) * i/\(i:Int) * i<=60 * 60:=⟨abh (by omega) (by omega),abC (by omega) (by omega) (by omega) (by decide)⟩;refine ⟨⟨bg (k:=40) (by omega),bg (k:=20) (by decide)⟩,⟨bg (k:=20) (by omega),bg (k:=20) (by omega)⟩,by decide, ?_⟩;have t0:=aa4 (sd * 48271+(i:Int) * i+7) (show (2147483647:Int)≠0 by decide);have t1:=aa0 (sd * 48271+(i:Int) * i+7) (show (0:Int) < 2147483647 by decide);refine ⟨⟨_,_,rfl,aW⟩,M.length,_,_,rfl,rfl,aW, ?_, ?_⟩
   ·rw [aad,xl];exact aaT (show i<=60 by omega) (by decide)
   rw [dZ];refine e_ _ _ ⟨i+1,c',xs++[(sd * 48271+(i:Int) * i+7) % 2147483647],_,_,by rw [Int.natCast_add];rfl,by omega,by simp [xl],λy hy=> ?_,t0,Int.le_of_lt t1,by simp,rfl⟩;rcases aaQ.mp hy with z | z
   ·exact hx y z
   ·rw [aa7.mp z];exact ⟨t0,acm t1 (by decide)⟩
  ·obtain ⟨i,c,xs,sd,o,ex,ic,xl,hx,d0,d1,rfl,rfl⟩:=hj;have c0:c=0:=by have:=aaZ List.length ex;rw [fU] at this;exact this.symm
   exact h xs (by omega) hx
def KJ:DF:=λas M q _=>∃t b:Int,as=[.int t, .int b]/\0 < b/\eP b/\q (Ν (ay t b)) M
theorem kI:Ζ ["_law_top","_law_bottom","_law_one","_law_two"] ["_law_top","_law_bottom"] (ψ mn):= .of rfl
theorem xp(F:cX K "_law_lowest" "_law_lowest" mn f fd)(E:Ev K mg w Cm):aj P w K mg base (b9 P w) 1 f fd ["_law_top","_law_bottom"] (cJ K KJ):=by
 refine F.dQ kI (λds M q x h=> ?_) (λaY A outer s H E' hr=>⟨_,(η (JP (i:=2) (j:=3) kI.nd rfl rfl (ι (DU E.qX (Ο (jv 0) θ)) (Ο (jv 1) θ) aV))
   (η (nz (lJ hr (jv 3) υ) (μ (JP (i:=2) (j:=3) kI.nd rfl rfl (Ο (jv 3) (ι (bO (jv 2) (jv 3)) θ bB)))))
   (μ (Ε (dM (ι (jT (jv 0) (jv 2)) (ι (jT (jv 1) (jv 2)) θ bB) bB)))))),λds M q x h=> ?_⟩)
 ·obtain ⟨t,b,rfl,_⟩:=h;rfl
 ·obtain ⟨t,b,rfl,h0,h1,h⟩:=h;have ga:g (if t < 0 then -t else t) b=g t b:=by have:=Oy t b;rwa [aav (show¬b < 0 by omega)] at this
  refine ⟨λm ρ M'=>M'=M/\∃(x y:Int),ρ=[some (.int t),some (.int b),some (.int x),some (.int y)]/\0<=x/\0<=y/\g x y=g t b/\m=y.toNat,⟨_,rfl,_,_,rfl,by split <;> omega,by omega,ga,rfl⟩, ?_⟩;rintro m ρ M' ⟨rfl,x,y,rfl,hx,hy,e,rfl⟩;refine ⟨λhb=> ?_,λhb=> ?_⟩
  ·have Ng:y≠0:=by simpa using hb
   refine ⟨_,λρ' M2 h2=>h2, ?_⟩;refine ⟨by omega,(x % y).toNat, ?_,rfl,y,x % y,rfl,hy,aa4 _ Ng, ?_,rfl⟩
   ·have:=aa0 x (show 0 < y by omega);have:=aa4 x Ng;omega
   ·rw [<-abO x hy,Hv (by omega)];exact e
  ·have Ng:y=0:=by simpa using hb
   subst Ng;rw [HU hx] at e;subst e;have hg:0 < g t b:=AS (by omega);have hle:g t b<=b:=ab1 h0 (Int.gcd_dvd_right ..);have hb:eP (g t b):=aaT (show (g t b).natAbs<=b.natAbs by omega) h1;have e:ay t b=(t / g t b,b / g t b):=by rw [Lr h0,aca _ (aaj hg),aca _ (aaj hg)]
   rw [e] at h;exact ⟨⟨hg,hb⟩,⟨hg,hb⟩,gV,h⟩
def IW:DF:=λas M q _=>∃n:Int,as=[.int n]/\∀b,q (.bl b) M
theorem uw:Ζ ["_law_number"] ["_law_number"] (ψ jI):= .of rfl
theorem rF(F:cX K "_law_by_digits" "_law_by_digits" jI f fd)(E:Ev K mg w Cm):aj P w K mg base (b9 P w) 1 f fd ["_law_number"] (cJ K IW):=by
 refine F.dQ uw (λds M q x h=> ?_) (λaY A outer s H E' hr=>⟨_,(μ (Ε (YM (jv 0) (i_ υ υ)))),λds M q x h=> ?_⟩)
 ·obtain ⟨n,rfl,_⟩:=h;rfl
 ·obtain ⟨n,rfl,h⟩:=h;exact ⟨p18,h _⟩
def A6(ss:List Int):Dt:= .lst (ss.map Dt.int)
structure Kq(ss:List Int):Prop where
 len:ss.length=5
 pos:∀s∈ss,0 < s/\s<=2 * 10 ^ 30+1
theorem UU{ss:List Int}(h:Kq ss){j:Int}:∃s,mw (ss.map Dt.int) (j % 5)=some (.int s)/\0 < s/\s<=2 * 10 ^ 30+1:=by
 have j0:=aa4 j (show (5:Int)≠0 by decide);have j1:=aa0 j (show (0:Int) < 5 by decide);have hl:(j % 5).toNat < ss.length:=by rw [h.len];omega
 have:=fX hl;rw [show (((j % 5).toNat:Nat):Int)=j % 5 by omega] at this;exact ⟨_,this,h.pos _ (aaE hl)⟩
def C8:DF:=λas M q _=>∃(n k:Int) (aR:Nat) (ss:List Int),as=[.int n, .int k, .int (aR:Nat),A6 ss]/\Nm n/\0<=k/\k<=12/\aR<=30/\Kq ss/\∀xs:List Int,xs.length=aR->(∀x∈xs,Xs x)->q (.loc M.length) (M++[.lst (xs.map Dt.int)])
theorem fV:Ζ ["_law_number","_law_k","_law_many","_law_sizes","_law_some","_law_rest","_law_j"] ["_law_number","_law_k","_law_many","_law_sizes"] (ψ mO):= .of rfl
theorem xC(F:cX K "_law_things" "_law_things" mO f fd)(E:Ev K mg w Cm)(aA:ax P w K mg base 1 "_law_by_digits" ["_law_number"] IW cC cI){mP:Addr}{mI:FuncData}(eK:ax P w K mg base 1 "_law_stream" ["_law_number","_law_many"] xy mP mI):aj P w K mg base (b9 P w) 2 f fd ["_law_number","_law_k","_law_many","_law_sizes"] (cJ K C8):=by
 refine F.dQ fV (λds M q x h=> ?_) (λaY A outer s H E' hr=>⟨_,(η (aF (iF (b8 (ae aA hr ξ (Ο (jv 0) θ)))) (μ (Ε (ae eK hr ξ (ι (cc (av (jv 0) υ) (jv 1)) (Ο (jv 2) θ) bB)))) Τ)
   (η (Α 4 fV.nd (jO θ))
   (η (Α 5 fV.nd (jT (jv 0) υ))
   (η (g_ (cw E.bU (Ο (jv 2) θ)) (ar (i:=6) fV.nd rfl (Or.inl rfl)) aL (η (c7 (c_ (jv 4) (ι (bO (jv 5) (Η (jv 3) (bO (jv 6) υ))) θ bB)))
   (μ (Α 5 fV.nd (jT (jv 5) (Η (jv 3) (bO (jv 6) υ)))))))
   (μ (Ε (jv 4))))))),λds M q x h=> ?_⟩)
 ·obtain ⟨n,k,aR,ss,rfl,_⟩:=h;rfl
 ·obtain ⟨n,k,aR,ss,rfl,hn,k0,k1,Yn,so,h⟩:=h;refine ⟨n,rfl,λb=>⟨λ_=> ?_,λ_=> ?_⟩⟩
  ·refine ⟨⟨rD hn,bg (k:=10) (by decide)⟩, ?_⟩;refine ⟨n * 12+k,aR,rfl, ?_,by omega,h⟩;obtain ⟨n0,n1⟩:=hn;refine qk (k:=1100) (by omega) ?_ (by decide);exact Int.lt_of_lt_of_le (show n * 12+k < 10 ^ 300 * 12+13 by omega) (by decide)
  ·refine ⟨by decide,⟨by decide,bg (k:=10) (by decide)⟩,⟨by omega,by omega⟩, ?_⟩;rw [show ((aR:Int)).toNat=aR by omega];refine cM (λzs ρ' M'=>∃(i c:Nat) (xs:List Int) (r:Int) (o:Option Dt),zs=dW (i:Int) c/\i+c=aR/\xs.length=i/\(∀x∈xs,Xs x)/\Nm r/\M'=M++[.lst (xs.map Dt.int)]/\ρ'=[some (.int n),some (.int k),some (.int (aR:Int)),some (A6 ss),some (.loc M.length),some (.int r),o]) (λx zs ρ' M' hj e_=> ?_) (λρ' M' hj=> ?_) _ _ _ ⟨0,aR,[],_,none,rfl,by omega,rfl,λ_ z=>(nomatch z),Bp hn (by decide),rfl,rfl⟩
   ·obtain ⟨i,c,xs,r,o,ex,ic,xl,hx,ff,rfl,rfl⟩:=hj;obtain ⟨c',rfl,rfl,rfl⟩:=cx ex;obtain ⟨sz,es,s0,s1⟩:=UU so (j:=(i:Int));have rd:∀(M':Ms) (q:DQ),q (.int sz) M'->cj (A6 ss) (.int ((i:Int) % 5)) M' q:=λM' q hq=>Θ (d:=A6 ss) rfl es hq;walk_at "vc";refine ⟨⟨_,_,rfl,aW⟩, ?_⟩;refine ⟨by decide,rd _ _ ⟨s0, ?_⟩⟩;refine ⟨M.length,_,_,rfl,rfl,aW, ?_, ?_⟩
    ·rw [aad,xl];exact aaT (show i<=60 by omega) (by decide)
    rw [dZ];refine ⟨by decide,rd _ _ ⟨⟨s0,qk (k:=110) (aaj s0) (aaH s1 (by decide)) (by decide)⟩, ?_⟩⟩;refine e_ _ _ ⟨i+1,c',xs++[r % sz],_,_,by rw [Int.natCast_add];rfl,by omega,by simp [xl],λy hy=> ?_,Bp ff s0,by simp,rfl⟩;rcases aaQ.mp hy with z | z
    ·exact hx y z
    ·rw [aa7.mp z];exact ⟨aa4 _ (by omega),acm (aa0 _ s0) (aaH s1 (by decide))⟩
   ·obtain ⟨i,c,xs,r,o,ex,ic,xl,hx,ff,rfl,rfl⟩:=hj;have c0:c=0:=by have:=aaZ List.length ex;rw [fU] at this;exact this.symm
    exact h xs (by omega) hx
def yO:DF:=λas M q _=>∃n low:Int,as=[.int n, .int low]/\Nm n/\1<=low/\low<=1000/\∀p,aS p=true->q (Ν p) M
theorem jx:Ζ ["_law_number","_law_low","_law_bottom","_law_top"] ["_law_number","_law_low"] (ψ jZ):= .of rfl
theorem uJ(F:cX K "_law_share_of" "_law_share_of" jZ f fd)(E:Ev K mg w Cm)(aA:ax P w K mg base 1 "_law_by_digits" ["_law_number"] IW cC cI)(aT:ax P w K mg base 1 "_law_lowest" ["_law_top","_law_bottom"] KJ eE et):aj P w K mg base (b9 P w) 2 f fd ["_law_number","_law_low"] (cJ K yO):=by
 refine F.dQ jx (λds M q x h=> ?_) (λaY A outer s H E' hr=>⟨_,(η (Α 2 jx.nd (cc υ (bO (jv 0) (jv 1))))
   (η (hV (Α 3 jx.nd (vI (b8 (ae aA hr ξ (Ο (jv 0) θ))) (jT (jv 0) (jv 1)) (bO (av (jv 0) υ) υ))))
   (μ (Ε (ae aT hr ξ (ι (bO (jv 3) (jv 2)) (Ο (jv 2) θ) bB)))))),λds M q x h=> ?_⟩)
 ·obtain ⟨n,low,rfl,_⟩:=h;rfl
 ·obtain ⟨n,low,rfl,hn,l1,l2,h⟩:=h;have b0:=aa4 n (show low≠0 by omega);have b1:=aa0 n (show 0 < low by omega);refine ⟨by omega, ?_⟩;dsimp only [ql];generalize n % low=r at *
  have fin:∀t:Int,aS (ay (t % (1+r)) (1+r))=true:=λt=>Bs (aa4 _ (by omega)) (aa0 _ (by omega)) (by omega);refine ⟨λρ M'=>M'=M/\∃t:Int,ρ=[some (.int n),some (.int low),some (.int (1+r)),some (.int t)], ?_, ?_⟩
  ·refine ⟨n,rfl,λb=>⟨λ_=> ?_,λ_=> ?_⟩⟩
   ·exact ⟨⟨by omega,bg (k:=12) (by omega)⟩,rfl,_,rfl⟩
   ·exact ⟨⟨rD hn,bg (k:=20) (by decide)⟩,by decide,rfl,_,rfl⟩
  ·rintro ρ M' ⟨rfl,t,rfl⟩;exact ⟨by omega,_,_,rfl,by omega,bg (k:=12) (by omega),h _ (fin t)⟩
structure vU(kd:Str)(size:Int)(cs:List Fr)(ds:List bH):Prop where
 fit:∀d∈ds,aN d.1 d.2.1 size=true/\0 < d.2.1.2
 Vz:kd="chance"->(∀d∈ds,d.2.2=[χ d])/\ds.map χ=cs.take ds.length
 Yt:kd≠"chance"->∀d∈ds,d.2.2=[]
theorem vU.more{kd:Str}{size:Int}{cs:List Fr}(h:vU kd size cs ds)(h1:aN d.1 d.2.1 size=true)(h2:0 < d.2.1.2)(hl:ds.length < cs.length)(h3:kd="chance"->d.2.2=[cs[ds.length]])(h4:kd≠"chance"->d.2.2=[]):vU kd size cs (ds++[d]):=by
 refine ⟨λe he=> ?_,λhc=>⟨λe he=> ?_, ?_⟩,λhc e he=> ?_⟩
 ·rcases aaQ.mp he with he | he
  ·exact h.fit e he
  ·have:e=d:=by simpa using he
   subst this;exact ⟨h1,h2⟩
 ·rcases aaQ.mp he with he | he
  ·exact (h.Vz hc).1 e he
  ·have:e=d:=by simpa using he
   subst this;unfold χ;rw [h3 hc];rfl
 ·rw [aa2,(h.Vz hc).2,aag];show cs.take ds.length++[χ d]=cs.take (ds.length+1);rw [List.take_succ,aaa hl];unfold χ;rw [h3 hc];rfl
 ·rcases aaQ.mp he with he | he
  ·exact h.Yt hc e he
  ·have:e=d:=by simpa using he
   subst this;exact h4 hc
theorem vU.good{kd:Str}{size:Int}{cs:List Fr}(h:vU kd size cs ds)(hk:Γ kd=true\/kd="chance")(h1:1<=ds.length)(h6:ds.length<=6)(hl:ds.length=cs.length)(hc:ai cs=true)(ho:Ph cs):qE size (.τ kd ds):=by
 by_cases A8:kd="chance"
 ·subst A8;have e:ds.map χ=cs:=by rw [(h.Vz rfl).2,hl,List.take_length]
  exact Gu h1 h6 (λd hd=>(h.fit d hd).1) (h.Vz rfl).1 (by rw [e];exact hc) (by rw [e];exact ho) λd hd=>(h.fit d hd).2
 ·exact MD (hk.resolve_right A8) h1 h6 (λd hd=>(h.fit d hd).1) λd hd=>⟨h.Yt A8 d hd,(h.fit d hd).2⟩
def RwG(size:Int)(r:Rw):Prop:=qE size r/\∀k ds,r= .τ k ds->Γ k=true->∀d∈ds,d.2.2=[]
theorem Mw{k:Str}(h:Γ k=true):k≠"chance":=λz=>by subst z;exact aaK h (by decide)
structure xP(cB:Bool)(p:Fr):Prop where
 red:Red p
 fit:bq p=true
 near:cB=false->p.2∣12/\eL p 9
theorem Mh{t:Int}(h1: -(10 ^ 30)<=t)(h2:t<=10 ^ 30)(h0:0 < b)(h3:b<=1000000):xP true (ay t b):=⟨bQ (by omega),DM h1 h2 h0 h3,λz=>(nomatch z)⟩
theorem IG{x y:Int}:xP false (ay (x % 19 - 9) (1+y % 4)):=by
 have b0:0 < 1+y % 4:=by omega
 refine ⟨bQ (by omega),DM (by omega) (by omega) b0 (by omega),λ_=>⟨?_,nK b0 (by omega) (by omega)⟩⟩;refine Int.dvd_trans (zd b0) ?_;have:y % 4=0\/y % 4=1\/y % 4=2\/y % 4=3:=by omega
 rcases this with e | e | e | e <;> rw [e] <;> decide
theorem Xs.big{x:Int}(h:Xs x):eP x:=qk h.1 h.2 (by decide)
theorem Kr{k:Nat}(a0:0<=a)(a1:a < 2 ^ j)(b0:0<=b)(b1:b < 2 ^ k):0<=a * b/\a * b < 2 ^ (j+k):=by refine ⟨abh a0 b0, ?_⟩;rw [Int.pow_add];exact aaH (aaL (aaj a1) b0) (Int.mul_lt_mul_of_pos_left b1 (Int.pow_pos (by decide)))
def J3:DF:=λas M q _=>∃(xs:List Int) (cB:Bool),as=[.lst (xs.map Dt.int), .bl cB]/\3<=xs.length/\(∀x∈xs,Xs x)/\∀p,xP cB p->q (Ν p) M
theorem AE:Ζ ["_law_xs","_law_far","_law_top"] ["_law_xs","_law_far"] (ψ vY):= .of rfl
theorem Gy(F:cX K "_law_pay" "_law_pay" vY f fd)(E:Ev K mg w Cm)(aT:ax P w K mg base 1 "_law_lowest" ["_law_top","_law_bottom"] KJ eE et):aj P w K mg base (b9 P w) 2 f fd ["_law_xs","_law_far"] (cJ K J3):=by
 refine F.dQ AE (λds M q x h=> ?_) (λaY A outer s H E' hr=>⟨_,(η (aF (b8 (jv 1)) (η (hV (Α 2 AE.nd (vI (C9 (Η (jv 0) υ) υ) (av (av (av (Η (jv 0) υ) (Η (jv 0) υ)) (Η (jv 0) υ)) (Η (jv 0) υ)) (Η (jv 0) υ))))
   (μ (Ε (ae aT hr ξ (ι (zP (bO (jv 2) (cc (av υ (i_ υ υ)) υ)) (i_ υ υ)) (ι (cc υ (bO (Η (jv 0) υ) (i_ υ υ))) θ bB) bB))))) Τ)
   (μ (Ε (ae aT hr ξ (ι (zP (bO (Η (jv 0) υ) υ) υ) (ι (cc υ (bO (Η (jv 0) υ) υ)) θ bB) bB))))),λds M q x h=> ?_⟩)
 ·obtain ⟨xs,cB,rfl,_⟩:=h;rfl
 ·obtain ⟨xs,cB,rfl,l3,hx,h⟩:=h;have rd:∀(j:Nat) (hj:j < 3) (M':Ms) (q:DQ),q (.int (xs[j]'(by omega))) M'->cj (.lst (xs.map Dt.int)) (.int (j:Int)) M' q:=λj hj M' q hq=>Θ (d:= .lst (xs.map Dt.int)) rfl (fX (by omega)) hq;have x0:=hx _ (aaE (show 0 < xs.length by omega));have x1:=hx _ (aaE (show 1 < xs.length by omega));have x2:=hx _ (aaE (show 2 < xs.length by omega));walk_at "vc";refine ⟨λz=> ?_,λz=> ?_⟩
  ·subst z;refine ⟨λρ M'=>M'=M/\∃t:Int,ρ=[some (.lst (xs.map Dt.int)),some (.bl true),some (.int t)], ?_, ?_⟩
   ·walk_at "vc";refine rd 2 (by decide) _ _ ⟨λ_=> ?_,λ_=> ?_⟩
    ·obtain ⟨p0,p1⟩:=Kr x0.1 x0.2 x1.1 x1.2;obtain ⟨q0,q1⟩:=Kr p0 p1 x2.1 x2.2;refine rd 0 (by decide) _ _ ?_;refine rd 1 (by decide) _ _ ?_;refine ⟨⟨x0.big,x1.big⟩, ?_⟩;walk_at "vc";refine rd 2 (by decide) _ _ ?_;refine ⟨⟨qk p0 p1 (by decide),x2.big⟩, ?_⟩;walk_at "vc";refine rd 0 (by decide) _ _ ?_;exact ⟨⟨qk q0 q1 (by decide),x0.big⟩,rfl,_,rfl⟩
    ·refine rd 0 (by decide) _ _ ?_;exact ⟨rfl,_,rfl⟩
   ·rintro ρ M' ⟨rfl,t,rfl⟩;have XZ:eP ((10:Int) ^ (30:Int).toNat):=bg (k:=110) (by decide);have m0:(0:Int) < 2 * 10 ^ (30:Int).toNat+1:=by decide
    have hm0:=aa4 t (show (2 * 10 ^ (30:Int).toNat+1:Int)≠0 by decide);have hm1:=aa0 t m0;have Sg:0 < 1+xs[1] % 10 ^ (6:Int).toNat/\1+xs[1] % 10 ^ (6:Int).toNat<=1000000:=by show 0 < 1+xs[1] % 1000000/\1+xs[1] % 1000000<=1000000;omega
    have hb7:eP (1+xs[1] % 10 ^ (6:Int).toNat):=qk (k:=20) (aaj Sg.1) (aaH Sg.2 (by decide)) (by decide);walk_at "vc";refine ⟨Xr,⟨bg (k:=4) (by decide),XZ⟩,m0,Xr, ?_⟩;dsimp only [CP];refine rd 1 (by decide) _ _ ?_;refine ⟨p6,(by show (0:Int) < 1000000;decide),_,_,rfl,Sg.1,hb7,h _ (Mh ?_ ?_ Sg.1 Sg.2)⟩
    ·show -(10 ^ 30)<=t % (2 * 10 ^ (30:Int).toNat+1) - 10 ^ 30;omega
    ·have e:(10:Int) ^ (30:Int).toNat=10 ^ 30:=rfl;rw [e] at hm1;show t % (2 * 10 ^ 30+1) - 10 ^ 30<=10 ^ 30;omega
  ·subst z;refine rd 0 (by decide) _ _ ?_;refine ⟨by decide, ?_⟩;dsimp only [CP];refine (rd 1 (by decide) _ _ ?_:cj (.lst (xs.map Dt.int)) (.int 1) _ _);exact ⟨by decide,_,_,rfl,by omega,bg (k:=10) (by omega),h _ IG⟩
def Uk(cB:Bool)(size:Int)(r:Rw):Prop:=RwG size r/\(∀p,r= .fin p->xP cB p)/\∀k ds,r= .τ k ds->∀d∈ds,xP cB d.2.1
theorem NQ(c:Nat):sliceRange ((4:Nat):Int) ((5 * c:Nat):Int) ((5:Nat):Int)=(List.range c).map λk=>5 * k+4:=by
 unfold sliceRange;have hc:(if ((4:Nat):Int) < ((5 * c:Nat):Int) then (((5 * c:Nat):Int) - ((4:Nat):Int)+((5:Nat):Int) - 1) / ((5:Nat):Int) else 0)=c:=by split <;> omega
 simp only [show ((5:Nat):Int) > 0 by decide,if_true,hc,Int.toNat_natCast];apply abb;intro k _;omega
theorem Sy{c:Nat}{ds:List Dt}{xs:List Int}(e:ds=xs.map Dt.int)(h:xs.length=5 * c):i8 (sliceRange ((4:Nat):Int) (ds.length:Int) ((5:Nat):Int)) ds=((List.range c).map λk=>xs.getD (5 * k+4) 0).map Dt.int:=by
 subst e;rw [aad,h,NQ];unfold i8;rw [List.filterMap_map,aaM];have:∀l:List Nat,(∀k∈l,k < c)->l.filterMap ((λi=>(xs.map Dt.int)[i]?) ∘ λk=>5 * k+4)=l.map (Dt.int ∘ λk=>xs.getD (5 * k+4) 0):=λl=>by
  induction l with
  | nil=>intro _;rfl
  | cons k l ih=>
   intro hk;have kc:=hk k aae;have e:((λi=>(xs.map Dt.int)[i]?) ∘ λk=>5 * k+4) k=some (Dt.int (xs.getD (5 * k+4) 0)):=by show (xs.map Dt.int)[5 * k+4]? =_;rw [aao,aab,aaa (by omega)];rfl
   rw [acg,e,aaJ,<-ih λz hz=>hk z (aac _ hz)];rfl
 exact this _ λk hk=>aba.mp hk
def DW:DF:=λas M q _=>∃(kd:Str) (xs:List Int) (aR:Int) (cB:Bool) (c:Nat),as=[.str kd, .lst (xs.map Dt.int), .int aR, .bl cB]/\xs.length=5 * c/\1<=c/\c<=6/\(∀x∈xs,Xs x)/\1<=aR/\aR<=12/\(Γ kd=true\/kd="chance")/\∀ds,ds.length=c->Uk cB aR (.τ kd ds)->q (.loc M.length) (M++[.lst (ds.map eQ)])
theorem eB:Ζ ["_law_kind","_law_xs","_law_many","_law_far","_law_doors_here","_law_parts","_law_k","_law_door"] ["_law_kind","_law_xs","_law_many","_law_far"] (ψ pK):= .of rfl
theorem AJ(F:cX K "_law_doors" "_law_doors" pK f fd)(E:Ev K mg w Cm){xk:Addr}{w6:FuncData}(iY:ax P w K mg base 2 "_law_pay" ["_law_xs","_law_far"] J3 xk w6)(aT:ax P w K mg base 1 "_law_lowest" ["_law_top","_law_bottom"] KJ eE et):aj P w K mg base (b9 P w) 4 f fd ["_law_kind","_law_xs","_law_many","_law_far"] (cJ K DW):=by
 refine F.dQ eB (λds M q x h=> ?_) (λaY A outer s H E' hr=>⟨_,(η (Α 4 eB.nd (jO θ))
   (η (ig (i:=5) eB.nd rfl (Or.inl rfl) (ys:=["_law_far"]) (ah:=[3]) (.of eB rfl rfl rfl) (bx (cN (QY (a:=4) (b:=5) (jv 1) υ υ))) (λC s H fp=>(cc υ (bO (jv 0) (Η (d8 3 (d:= .lst [.int 4, .int 150000]) (by rfl)) (Oj E.vQ (Ο (jv 1) θ)))))))
   (η (g_ (cw E.bU (ι (cq E.bC (Ο (jv 5) θ)) θ aV)) (ar (i:=6) eB.nd rfl (Or.inl rfl)) aL (η (Α 7 eB.nd (dM (ι (bO (Η (jv 1) (cc (av υ (jv 6)) υ)) (jv 2)) (ι (ae iY hr ξ (ι (cN (vf (jv 1) (av υ (jv 6)) (cc (av υ (jv 6)) υ))) (Ο (jv 3) θ) aX)) θ aV) bB)))
   (η (hV (aF (dj hr (jv 0) iB) (μ (Α 7 eB.nd (cc (jv 7) (dM (ι (ae aT hr ξ (ι (Η (jv 5) (jv 6)) (ι (OB E.zT (Ο (jv 5) θ)) θ aV) aX)) θ aV))))) Τ))
   (μ (c7 (c_ (jv 4) (Ο (jv 7) θ)))))))
   (μ (Ε (jv 4)))))),λds M q x h=> ?_⟩)
 ·obtain ⟨kd,xs,aR,cB,c,rfl,_⟩:=h;rfl
 ·obtain ⟨kd,xs,aR,cB,c,rfl,xl,c1,c6,hx,s1,s12,QD,h⟩:=h;have sl:∀{z:Nat},z<=1000->z<=sizeLine:=λh=>aax h (by decide);refine ⟨by decide, ?_⟩;generalize hM0:M++[MO.lst []]=M0;dsimp only [oZ,fM,UZ,NP];walk_at "vc";refine ⟨rfl,_,rfl,rfl,by rw [aad];omega, ?_, ?_⟩
  ·rw [aad,xl,NQ,aad,aa1];omega
  rw [Sy rfl xl];refine cW (gc _) ?_;obtain ⟨most,em,m0,m1⟩:∃most:Int,(∀(M':Ms) (q:DQ),q (.int most) M'->cj (.lst [.int 4, .int 150000]) (.int (if cB=true then 1 else 0)) M' q)/\0 < most/\most<=150000:=by
   cases cB with
   | true=>exact ⟨150000,λM' q hq=>Θ (d:= .lst [.int 4, .int 150000]) rfl (Κ (j:=1) rfl) hq,by decide,by decide⟩
   | false=>exact ⟨4,λM' q hq=>Θ (d:= .lst [.int 4, .int 150000]) rfl bo hq,by decide,by decide⟩
  refine ⟨by rw [aad,aad,aa1];exact sl (by omega), ?_⟩;refine dE (F:=λx n=>x=Dt.int n) (f:=λn=> .int (1+n % most)) (as:=(List.range c).map λk=>xs.getD (5 * k+4) 0) trivial (λx n R0 qq hq=> ?_) ?_ ?_
  ·subst R0;walk_at "vc";show An [.bl cB] M0 λd2 M2=>cj (.lst [.int 4, .int 150000]) d2 M2 λd2 M2=>Nj (.int n) d2 M2 λd2 M2=>ql (.int 1) d2 M2 qq;dsimp only [An];refine em _ _ ?_;exact ⟨m0,hq⟩
  ·have:∀l:List Int,Paired (λx n=>x=Dt.int n) (l.map Dt.int) l:=λl=>by
    induction l with
    | nil=>exact .nil
    | cons a l ih=>exact .cons rfl ih
   exact this _
  rw [aaX,aaM];generalize U4:((List.range c).map λk=>1+xs.getD (5 * k+4) 0 % most)=ws;have ew:(List.range c).map ((λn=>Dt.int (1+n % most)) ∘ λk=>xs.getD (5 * k+4) 0)=ws.map Dt.int:=by rw [<-U4,aaM];rfl
  rw [ew];have wl:ws.length=c:=by rw [<-U4,aad,aa1]
  have w0:∀w∈ws,0 < w/\w<=most:=λw hw=>by rw [<-U4] at hw;obtain ⟨y,_,rfl⟩:=aah.mp hw;have e0:=aa4 (xs.getD (5 * y+4) 0) (show most≠0 by omega);have e1:=aa0 (xs.getD (5 * y+4) 0) m0;omega
  have hS:ws.sum<=1000000:=by have:=Kn λw X8=>(w0 w X8).2;rw [wl] at this;have:(c:Int) * most<=6 * 150000:=abC (by omega) m1 (by omega) (by decide);omega
  have lF:ws≠[]:=λz=>by rw [z] at wl;simp at wl;omega
  have Ys:=DZ (λw hw=>(w0 w hw).1) lF;obtain ⟨cc1,cc2⟩:=BZ (S:=ws.sum) rfl (λw X8=>(w0 w X8).1) lF hS (by omega);have cl:(ws.map λw=>ay w ws.sum).length=c:=by rw [aad,wl]
  have bS:eP ws.sum:=bg (k:=21) (by omega);clear U4;refine (aE (d:= .lst (ws.map .int)) (xs:=ws.map .int) rfl ?_:gh [.lst (ws.map .int)] _ _);rw [aad,wl];refine ⟨⟨by omega,by omega⟩, ?_⟩;rw [show ((c:Int)).toNat=c by omega];subst hM0;refine cM (λzs ρ M'=>∃(n k:Nat) (ds:List bH) (o1 o2:Option Dt),zs=dW k n/\k+n=c/\ds.length=k/\vU kd aR (ws.map λw=>ay w ws.sum) ds/\(∀d∈ds,xP cB d.2.1)/\M'=M++[MO.lst (ds.map eQ)]/\ρ=[some (.str kd),some (.lst (xs.map Dt.int)),some (.int aR),some (.bl cB),some (.loc M.length),some (.lst (ws.map .int)),o1,o2]) (λx zs ρ M' hj e_=> ?_) (λρ M' hj=> ?_) _ _ _ ⟨c,0,[],none,none,by simp,by simp,rfl,⟨λ_ z=>(nomatch z),λ_=>⟨λ_ z=>(nomatch z),rfl⟩,λ_ _ z=>(nomatch z)⟩,λ_ z=>(nomatch z),rfl,rfl⟩
  ·obtain ⟨n,k,ds,o1,o2,ex,X_,hl,hd,hp,rfl,rfl⟩:=hj;obtain ⟨m,rfl,rfl,rfl⟩:=cx ex;have k6:(k:Int) < 6:=by omega
   have kx:5 * k+3 < xs.length:=by omega
   have kw:k < ws.length:=by omega
   have Rj:(M++[MO.lst (ds.map eQ)])[M.length]? =some (.lst (ds.map eQ)):=by simp
   have setM:∀y:bH,(M++[MO.lst (ds.map eQ)]).set M.length (.lst (ds.map eQ++[eQ y]))=M++[.lst ((ds++[y]).map eQ)]:=λy=>by simp
   have lt:(ds.map eQ).length < sizeLine:=by rw [aad,hl];exact aaT (show k<=12 by omega) (by decide)
   have e5:5 * (k:Int)+3=((5 * k+3:Nat):Int):=by omega
   have e50:5 * (k:Int)=((5 * k:Nat):Int):=by omega
   have b5:eP (5:Int):=bg (k:=10) (by decide);have bk:eP (k:Int):=bg (k:=10) (by omega);walk_at "vc";refine ⟨⟨b5,bk⟩, ?_⟩;dsimp only [ql];rw [e5];refine (Θ (d:= .lst (xs.map .int)) rfl (fX kx) ?_:cj (.lst (xs.map .int)) (.int ((5 * k+3:Nat):Int)) _ _);refine ⟨by omega,⟨b5,bk⟩,5 * k,by rw [e50],⟨b5,bk⟩,xs.map Dt.int,5 * k+3,rfl,by rw [<-e5], ?_⟩;rw [<-acs,<-acr];refine cW (gc _) ?_;refine ⟨(xs.drop (5 * k)).take (5 * k+3 - 5 * k),cB,rfl,by rw [ace,abH];omega,λy hy=>hx y (List.mem_of_mem_drop (List.mem_of_mem_take hy)),λp pp=>⟨gV, ?_⟩⟩;have hp0:=pp.red.pos;have LB:aN (xs[5 * k+3] % aR) p aR=true:=Lh (aa4 _ (by omega)) (aa0 _ (by omega)) pp.fit;refine ⟨λρ M2=>M2=M++[MO.lst (ds.map eQ)]/\∃d:bH,(aN d.1 d.2.1 aR=true/\0 < d.2.1.2/\(kd="chance"->d.2.2=[ay ws[k] ws.sum])/\(kd≠"chance"->d.2.2=[])/\xP cB d.2.1)/\ρ=[some (.str kd),some (.lst (xs.map Dt.int)),some (.int aR),some (.bl cB),some (.loc M.length),some (.lst (ws.map .int)),some (.int (k:Int)),some (eQ d)],⟨λhc=> ?_,λhc=> ?_⟩, ?_⟩
   ·have hc:kd="chance":=aap hc;walk_at "vc";refine (Θ (d:= .lst (ws.map .int)) rfl (fX kw) ?_:cj (.lst (ws.map .int)) (.int (k:Int)) _ _);exact ⟨ws,rfl,⟨_,_,rfl⟩,_,_,rfl,Ys,bS,(by show 1<=sizeLine;decide),⟨by simp,by show 3<=sizeLine;decide⟩,rfl,(xs[5 * k+3] % aR,p,[ay ws[k] ws.sum]),⟨LB,hp0,λ_=>rfl,λz=>absurd hc z,pp⟩,rfl⟩
   ·have hc:kd≠"chance":=aa3 hc;exact ⟨rfl,(xs[5 * k+3] % aR,p,[]),⟨LB,hp0,λz=>aaK z hc,λ_=>rfl,pp⟩,rfl⟩
   ·rintro ρ2 M2 ⟨rfl,d,⟨d1,d2,d3,d4,d5⟩,rfl⟩;refine ⟨⟨M.length,_,rfl,Rj⟩,M.length,_,_,rfl,rfl,Rj,lt, ?_⟩;rw [setM d];refine e_ _ _ ⟨m,k+1,ds++[d],_,_,by simp,by omega,by simp [hl],hd.more d1 d2 (by rw [cl];omega) (λz=> ?_) d4,λy hy=> ?_,rfl,rfl⟩
    ·rw [d3 z];simp [hl]
    ·rcases aaQ.mp hy with z | z
     ·exact hp y z
     ·rw [aa7.mp z];exact d5
  ·obtain ⟨n,k,ds,o1,o2,ex,X_,hl,hd,hp,rfl,rfl⟩:=hj;have hn:n=0:=by have:=aaZ List.length ex;unfold dW at this;simpa using this.symm
   refine h ds (by omega) ⟨⟨hd.good QD (by omega) (by omega) (by rw [cl];omega) cc1 cc2,λk' nD e hk d MS=>by cases e;exact hd.Yt (Mw hk) d MS⟩,λp e=>(nomatch e),λk' nD e d MS=>by cases e;exact hp d MS⟩
theorem Qf{n:Int}:∃kd:Str,mw [Dt.str "one",Dt.str "other",Dt.str "chance",Dt.str "end",Dt.str "one",Dt.str "other",Dt.str "chance",Dt.str "chance"] (n % 8)=some (.str kd)/\(Γ kd=true\/kd="chance"\/kd="end"):=by
 have:n % 8=0\/n % 8=1\/n % 8=2\/n % 8=3\/n % 8=4\/n % 8=5\/n % 8=6\/n % 8=7:=by omega
 rcases this with e | e | e | e | e | e | e | e <;> rw [e]
 ·exact ⟨_,bo, .inl (by decide)⟩
 ·exact ⟨_,Κ (j:=1) rfl, .inl (by decide)⟩
 ·exact ⟨_,Κ (j:=2) rfl, .inr (.inl rfl)⟩
 ·exact ⟨_,Κ (j:=3) rfl, .inr (.inr rfl)⟩
 ·exact ⟨_,Κ (j:=4) rfl, .inl (by decide)⟩
 ·exact ⟨_,Κ (j:=5) rfl, .inl (by decide)⟩
 ·exact ⟨_,Κ (j:=6) rfl, .inr (.inl rfl)⟩
 ·exact ⟨_,Κ (j:=7) rfl, .inr (.inl rfl)⟩
theorem T4{n:Int}:∃m:Int,mw [Dt.int 4,Dt.int 4,Dt.int 4,Dt.int 4,Dt.int 4,Dt.int 4,Dt.int 6,Dt.int 12] (n % 8)=some (.int m)/\1<=m/\m<=12/\(n % 8=5->m=4):=by
 have:n % 8=0\/n % 8=1\/n % 8=2\/n % 8=3\/n % 8=4\/n % 8=5\/n % 8=6\/n % 8=7:=by omega
 rcases this with e | e | e | e | e | e | e | e <;> rw [e]
 ·exact ⟨_,bo,by decide,by decide,by decide⟩
 ·exact ⟨_,Κ (j:=1) rfl,by decide,by decide,by decide⟩
 ·exact ⟨_,Κ (j:=2) rfl,by decide,by decide,by decide⟩
 ·exact ⟨_,Κ (j:=3) rfl,by decide,by decide,by decide⟩
 ·exact ⟨_,Κ (j:=4) rfl,by decide,by decide,by decide⟩
 ·exact ⟨_,Κ (j:=5) rfl,by decide,by decide,by decide⟩
 ·exact ⟨_,Κ (j:=6) rfl,by decide,by decide,by decide⟩
 ·exact ⟨_,Κ (j:=7) rfl,by decide,by decide,by decide⟩
theorem WX{n:Int}:∃m:Int,mw [Dt.int 10,Dt.int 10,Dt.int 10,Dt.int 10,Dt.int 1,Dt.int 1000,Dt.int 10,Dt.int 10] (n % 8)=some (.int m)/\1<=m/\m<=1000:=by
 have:n % 8=0\/n % 8=1\/n % 8=2\/n % 8=3\/n % 8=4\/n % 8=5\/n % 8=6\/n % 8=7:=by omega
 rcases this with e | e | e | e | e | e | e | e <;> rw [e]
 ·exact ⟨_,bo,by decide,by decide⟩
 ·exact ⟨_,Κ (j:=1) rfl,by decide,by decide⟩
 ·exact ⟨_,Κ (j:=2) rfl,by decide,by decide⟩
 ·exact ⟨_,Κ (j:=3) rfl,by decide,by decide⟩
 ·exact ⟨_,Κ (j:=4) rfl,by decide,by decide⟩
 ·exact ⟨_,Κ (j:=5) rfl,by decide,by decide⟩
 ·exact ⟨_,Κ (j:=6) rfl,by decide,by decide⟩
 ·exact ⟨_,Κ (j:=7) rfl,by decide,by decide⟩
def cH(k:Str)(n:Nat):Nat:=if Γ k=true then n else 1
def ie:List Rw->Nat
 | []=>1
 | r::rs=>cH (kindOf r) (Μ r).length * ie rs
theorem pA:∀(rs:List Rw) (r:Rw),ie (rs++[r])=ie rs * cH (kindOf r) (Μ r).length
 | [],r=>by show cH _ _ * 1=1 * _;omega
 | a::rs,r=>by show cH _ _ * ie (rs++[r])=cH _ _ * ie rs * _;rw [pA rs r,Nat.mul_assoc]
theorem ML{c r rm:Int}(ha:0<=a)(h:c * r<=rm)(l:a * rm<=30):a * c * r<=30:=by rw [acq];exact abx (aar h ha) l
structure LF(ε:Fr)(γ:List Rw)(cB:Bool):Prop where
 sh:aS ε=true
 n1:1<=γ.length
 Bm:γ.length<=12
 n4:cB=true->γ.length<=4
 row:∀r∈γ,Uk cB γ.length r
 pr:ie γ<=30
def C1(cB:Bool)(aR:Int):List Int:=if cB=true then [2 * 10 ^ (30:Int).toNat+1,10 ^ (6:Int).toNat,1,aR,150000] else [19,4,1,aR,4]
theorem Um{aR:Int}(h1:1<=aR)(h2:aR<=12):Kq (C1 cB aR):=by
 have Yn:aR<=2 * 10 ^ 30+1:=abx h2 (by decide);cases cB with
 | true=>
  refine ⟨rfl,λs hs=> ?_⟩;have hs:s∈[2 * 10 ^ (30:Int).toNat+1,10 ^ (6:Int).toNat,1,aR,150000]:=hs;simp only [List.mem_cons,List.not_mem_nil,or_false] at hs;rcases hs with e | e | e | e | e
  ·rw [e];decide
  ·rw [e];decide
  ·rw [e];decide
  ·rw [e];exact ⟨by omega,Yn⟩
  ·rw [e];decide
 | false=>
  refine ⟨rfl,λs hs=> ?_⟩;have hs:s∈[19,4,1,aR,4]:=hs;simp only [List.mem_cons,List.not_mem_nil,or_false] at hs;rcases hs with e | e | e | e | e
  ·rw [e];decide
  ·rw [e];decide
  ·rw [e];decide
  ·rw [e];exact ⟨by omega,Yn⟩
  ·rw [e];decide
theorem TB{n:Int}:∃r:Int,mw [Dt.int 30,Dt.int 30,Dt.int 30,Dt.int 30,Dt.int 30,Dt.int 12,Dt.int 24,Dt.int 12] (n % 8)=some (.int r)/\1<=r/\r<=30:=by
 have:n % 8=0\/n % 8=1\/n % 8=2\/n % 8=3\/n % 8=4\/n % 8=5\/n % 8=6\/n % 8=7:=by omega
 rcases this with e | e | e | e | e | e | e | e <;> rw [e]
 ·exact ⟨_,bo,by decide,by decide⟩
 ·exact ⟨_,Κ (j:=1) rfl,by decide,by decide⟩
 ·exact ⟨_,Κ (j:=2) rfl,by decide,by decide⟩
 ·exact ⟨_,Κ (j:=3) rfl,by decide,by decide⟩
 ·exact ⟨_,Κ (j:=4) rfl,by decide,by decide⟩
 ·exact ⟨_,Κ (j:=5) rfl,by decide,by decide⟩
 ·exact ⟨_,Κ (j:=6) rfl,by decide,by decide⟩
 ·exact ⟨_,Κ (j:=7) rfl,by decide,by decide⟩
def Dg:DF:=λas M q _=>∃ns:List Int,as=[.h_ ns]/\ns.length<=63/\∀ε γ cB,LF ε γ cB->q (.tup [Ν ε, .loc M.length]) (M++[.lst (γ.map az)])
theorem aI:Ζ ["_law_script","_law_begun","_law_how","_law_places","_law_many","_law_share","_law_sizes","_law_rows","_law_room","_law_k","_law_number","_law_kind","_law_count","_law_xs"] ["_law_script"] (ψ oJ):= .of rfl
theorem AY(F:cX K "_law_floor" "_law_floor" oJ f fd)(E:Ev K mg w Cm){Bu:Addr}{Bw:FuncData}(fH:ax P w K mg base 1 "_law_at" ["_law_script","_law_k"] Zn Bu Bw)(aA:ax P w K mg base 1 "_law_by_digits" ["_law_number"] IW cC cI){yB:Addr}{Az:FuncData}(jo:ax P w K mg base 2 "_law_share_of" ["_law_number","_law_low"] yO yB Az){xk:Addr}{w6:FuncData}(iY:ax P w K mg base 2 "_law_pay" ["_law_xs","_law_far"] J3 xk w6){CF:Addr}{CU:FuncData}(h8:ax P w K mg base 2 "_law_things" ["_law_number","_law_k","_law_many","_law_sizes"] C8 CF CU){Fo:Addr}{GW:FuncData}(me:ax P w K mg base 4 "_law_doors" ["_law_kind","_law_xs","_law_many","_law_far"] DW Fo GW):aj P w K mg base (b9 P w) 5 f fd ["_law_script"] (cJ K Dg):=by
 refine F.dQ aI (λds M q x h=> ?_) (λaY A outer s H E' hr=>⟨_,(η (Α 1 aI.nd (ae fH hr ξ (Ο (jv 0) (ι υ θ dJ))))
   (η (Α 2 aI.nd (bO (jv 1) υ))
   (η (hV (Α 3 aI.nd (vI (b8 (ae aA hr ξ (Ο (jv 1) θ))) (jT (jv 1) υ) (bO (av (jv 1) υ) υ))))
   (η (Α 4 aI.nd (cc υ (bO (jv 3) (Η (d8 3 (d:= .lst [.int 4, .int 4, .int 4, .int 4, .int 4, .int 4, .int 6, .int 12]) (by rfl)) (jv 2)))))
   (η (Α 5 aI.nd (ae jo hr ξ (ι (ae fH hr ξ (Ο (jv 0) (ι υ θ dJ))) (ι (Η (d8 3 (d:= .lst [.int 10, .int 10, .int 10, .int 10, .int 1, .int 1000, .int 10, .int 10]) (by rfl)) (jv 2)) θ aX) aV)))
   (η (Α 6 aI.nd (Η (lH (ι (lH (ι υ (ι υ (ι υ (Ο (jv 4) (ι υ θ dJ)) dJ) dJ) dJ)) (ι (lH (ι (cc (av υ (i_ υ υ)) υ) (ι (i_ υ υ) (ι υ (Ο (jv 4) (ι υ θ dJ)) dJ) bB) bB)) θ))) (Oj E.vQ (ι (MT hr (jv 2) υ) θ Dx))))
   (η (Α 7 aI.nd (jO θ))
   (η (Α 8 aI.nd (Η (d8 3 (d:= .lst [.int 30, .int 30, .int 30, .int 30, .int 30, .int 12, .int 24, .int 12]) (by rfl)) (jv 2)))
   (η (g_ (cw E.bU (Ο (jv 4) θ)) (ar (i:=9) aI.nd rfl (Or.inl rfl)) aL (η (Α 10 aI.nd (ae fH hr ξ (Ο (jv 0) (ι (cc υ (jv 9)) θ bB))))
   (η (Α 11 aI.nd (Η (d8 3 (d:= .lst [.str "one", .str "other", .str "chance", .str "end", .str "one", .str "other", .str "chance", .str "chance"]) (by rfl)) (bO (jv 10) υ)))
   (η (hV (Α 12 aI.nd (cc υ (bO (vI (b8 (ae aA hr ξ (Ο (jv 10) θ))) (jT (jv 10) υ) (bO (av (jv 10) υ) υ)) υ))))
   (η (hV (aF (JW.jt (lL (dj hr (jv 11) iB) (jY (dj hr (jv 11) iB)))) (η (Α 12 aI.nd (U9 E.C_ (Ο (jv 12) (Ο (jv 8) θ))))
   (μ (Α 8 aI.nd (jT (jv 8) (jv 12))))) Τ))
   (μ (aF (dj hr (jv 11) iB) (μ (c7 (c_ (jv 7) (ι (dM (Ο (jv 11) (ι (ae iY hr ξ (ι (cN (ae h8 hr ξ (Ο (jv 10) (Ο (jv 9) (ι υ (Ο (jv 6) θ) dJ))))) (ι (MT hr (jv 2) υ) θ Dx) aV)) θ aV))) θ Ax)))) (η (Α 13 aI.nd (cN (ae h8 hr ξ (Ο (jv 10) (Ο (jv 9) (ι (av υ (jv 12)) (Ο (jv 6) θ) bB))))))
   (μ (c7 (c_ (jv 7) (ι (dM (Ο (jv 11) (ι (cN (ae me hr ξ (Ο (jv 11) (Ο (jv 13) (Ο (jv 4) (ι (MT hr (jv 2) υ) θ Dx)))))) θ aV))) θ Ax))))))))))))
   (μ (Ε (dM (Ο (jv 5) (Ο (jv 7) θ)))))))))))))),λds M q x h=> ?_⟩)
 ·obtain ⟨ns,rfl,_⟩:=h;rfl
 ·obtain ⟨ns,rfl,nl,h⟩:=h;refine ⟨ns,0,rfl,nl,by decide,by decide,λb0 K7=>⟨by decide, ?_⟩⟩;refine ⟨λρ M'=>M'=M/\∃t:Int,ρ=[some (.h_ ns),some (.int b0),some (.int (b0 % 8)),some (.int t),none,none,none,none,none,none,none,none,none,none], ?_, ?_⟩
  ·refine ⟨b0,rfl,λb=>⟨λ_=> ?_,λ_=> ?_⟩⟩
   ·exact ⟨⟨by decide,bg (k:=10) (by decide)⟩,rfl,_,rfl⟩
   ·exact ⟨⟨rD K7,bg (k:=20) (by decide)⟩,by decide,rfl,_,rfl⟩
  rintro ρ M' ⟨rfl,t,rfl⟩;obtain ⟨mx,emx,mx1,acX,mx5⟩:=T4 (n:=b0);obtain ⟨low,YD,XW,Yi⟩:=WX (n:=b0);have t0:=aa4 t (show mx≠0 by omega);have t1:=aa0 t (show 0 < mx by omega);walk_at "vc";refine (Θ rfl emx ?_:cj (.lst [Dt.int 4,Dt.int 4,Dt.int 4,Dt.int 4,Dt.int 4,Dt.int 4,Dt.int 6,Dt.int 12]) (.int (b0 % 8)) _ _);refine ⟨by omega, ?_⟩;dsimp only [ql];obtain ⟨sz,hz,z1,z12,z4⟩:∃sz:Nat,1+t % mx=(sz:Int)/\1<=sz/\sz<=12/\(b0 % 8=5->sz<=4):=⟨(1+t % mx).toNat,by omega,by omega,by omega,λz=>by have:=mx5 z;omega⟩;rw [hz];refine ⟨ns,1,rfl,nl,by decide,by decide,λb1 hb1=> ?_⟩;refine (Θ rfl YD ?_:cj (.lst [Dt.int 10,Dt.int 10,Dt.int 10,Dt.int 10,Dt.int 1,Dt.int 1000,Dt.int 10,Dt.int 10]) (.int (b0 % 8)) _ _);refine ⟨b1,low,rfl,hb1,XW,Yi,λε hs=> ?_⟩;obtain ⟨cB,Lw⟩:∃cB,cB=decide (b0 % 8=5):=⟨_,rfl⟩;have XZ:eP ((10:Int) ^ (30:Int).toNat):=bg (k:=110) (by decide);have sl:∀{z:Nat},z<=1000->z<=sizeLine:=λh=>aax h (by decide);refine ⟨sl (by decide),Xr,⟨bg (k:=4) (by decide),XZ⟩,p6,sl (by decide),sl (by decide), ?_⟩;have rd:∀(M':Ms) (q:DQ),q (A6 (C1 cB sz)) M'->Cs (.int (b0 % 8)) (.int 5) M' λd M1=>An [d] M1 λd2 M2=>cj (.lst [.lst [.int 19, .int 4, .int 1, .int (sz:Int), .int 4], .lst [.int (2 * 10 ^ (30:Int).toNat+1), .int (10 ^ (6:Int).toNat), .int 1, .int (sz:Int), .int 150000]]) d2 M2 q:=λM' q hq=>by
   show An [.bl (decide (b0 % 8=5))] M' λd2 M2=>cj (.lst [A6 (C1 false sz),A6 (C1 true sz)]) d2 M2 q;rw [<-Lw];dsimp only [An];cases cB with
   | true=>exact Θ (d:= .lst [A6 (C1 false sz),A6 (C1 true sz)]) rfl (Κ (j:=1) rfl) hq
   | false=>exact Θ (d:= .lst [A6 (C1 false sz),A6 (C1 true sz)]) rfl bo hq
  refine rd _ _ ?_;have n4:cB=true->sz<=4:=λz=>z4 (aap (by rw [<-Lw];exact z));obtain ⟨rm0,erm,rm1,rm2⟩:=TB (n:=b0);refine ⟨by decide, ?_⟩;refine (Θ rfl erm ?_:cj (.lst [Dt.int 30,Dt.int 30,Dt.int 30,Dt.int 30,Dt.int 30,Dt.int 12,Dt.int 24,Dt.int 12]) (.int (b0 % 8)) _ _);refine ⟨⟨by omega,by omega⟩, ?_⟩;rw [show ((sz:Int)).toNat=sz by omega];refine cM (λzs ρ M2=>∃(n k:Nat) (rs:List Rw) (rm:Int) (o1 o2 o3 o4 o5:Option Dt),(1<=rm/\rm<=30/\(ie rs:Int) * rm<=30)/\zs=dW k n/\k+n=sz/\rs.length=k/\(∀r∈rs,Uk cB sz r)/\M2=M'++[MO.lst (rs.map az)]/\ρ=[some (.h_ ns),some (.int b0),some (.int (b0 % 8)),some (.int t),some (.int (sz:Int)),some (Ν ε),some (A6 (C1 cB sz)),some (.loc M'.length),some (.int rm),o1,o2,o3,o4,o5]) (λx zs ρ M2 hj e_=> ?_) (λρ M2 hj=> ?_) _ _ _ ⟨sz,0,[],rm0,none,none,none,none,none,⟨rm1,rm2,by show (1:Int) * rm0<=30;omega⟩,by simp,by simp,rfl,λ_ z=>(nomatch z),rfl,rfl⟩
  ·obtain ⟨n,k,rs,rm,o1,o2,o3,o4,o5,⟨rl,rh,rp⟩,ex,X_,hl,hd,rfl,rfl⟩:=hj;obtain ⟨m,rfl,rfl,rfl⟩:=cx ex;have k12:(k:Int) < 12:=by omega
   have Rj:(M'++[MO.lst (rs.map az)])[M'.length]? =some (.lst (rs.map az)):=by simp
   have setM:∀y:Rw,(M'++[MO.lst (rs.map az)]).set M'.length (.lst (rs.map az++[az y]))=M'++[.lst ((rs++[y]).map az)]:=λy=>by simp
   have lt:(rs.map az).length < sizeLine:=by rw [aad,hl];exact aaT (show k<=12 by omega) (by decide)
   have first:∃k' xs',Dt.loc M'.length= .loc k'/\(M'++[MO.lst (rs.map az)])[k']? =some (.lst xs'):=⟨_,_,rfl,Rj⟩
   have more:∀y,Uk cB sz y->∀r∈rs++[y],Uk cB sz r:=λy hy r hr=>by
    rcases aaQ.mp hr with hr | hr
    ·exact hd r hr
    ·rw [aa7.mp hr];exact hy
   have so:=Um (cB:=cB) (aR:=(sz:Int)) (by omega) (by omega);refine ⟨ns,2+(k:Int),rfl,nl,by omega,by omega,λf hf=>⟨by decide, ?_⟩⟩;obtain ⟨kd,ek,QD⟩:=Qf (n:=f);refine Θ rfl ek ?_;refine ⟨λρ M2=>M2=M'++[MO.lst (rs.map az)]/\∃c:Nat,(1<=c/\c<=6)/\ρ=[some (.h_ ns),some (.int b0),some (.int (b0 % 8)),some (.int t),some (.int (sz:Int)),some (Ν ε),some (A6 (C1 cB sz)),some (.loc M'.length),some (.int rm),some (.int (k:Int)),some (.int f),some (.str kd),some (.int (c:Int)),o5], ?_, ?_⟩
   ·have cut:∀t:Int,∃c:Nat,(1<=c/\c<=6)/\1+t % 6=(c:Int):=λt=>⟨(1+t % 6).toNat,by omega,by omega⟩;have TV:∀(t:Int) (ρ:List (Option Dt)),(∃c:Nat,(1<=c/\c<=6)/\ρ++[some (.int (1+t % 6)),o5]=ρ++[some (.int (c:Int)),o5]):=λt ρ=>by obtain ⟨c,h1,h2⟩:=cut t;exact ⟨c,h1,by rw [h2]⟩
    refine ⟨f,rfl,λb=>⟨λ_=> ?_,λ_=> ?_⟩⟩
    ·exact ⟨⟨by decide,bg (k:=10) (by decide)⟩,by decide,rfl,TV (f / 8) [some (.h_ ns),some (.int b0),some (.int (b0 % 8)),some (.int t),some (.int (sz:Int)),some (Ν ε),some (A6 (C1 cB sz)),some (.loc M'.length),some (.int rm),some (.int (k:Int)),some (.int f),some (.str kd)]⟩
    ·exact ⟨⟨rD hf,bg (k:=20) (by decide)⟩,by decide,by decide,rfl,TV (f * 48271 % 65537) [some (.h_ ns),some (.int b0),some (.int (b0 % 8)),some (.int t),some (.int (sz:Int)),some (Ν ε),some (A6 (C1 cB sz)),some (.loc M'.length),some (.int rm),some (.int (k:Int)),some (.int f),some (.str kd)]⟩
   rintro ρ2 M2 ⟨rfl,c0,⟨c01,c06⟩,rfl⟩;refine ⟨λρ M2=>M2=M'++[MO.lst (rs.map az)]/\∃(c:Nat) (rm:Int),(1<=c/\c<=6)/\(1<=rm/\rm<=30/\(ie rs:Int) * (cH kd c:Int) * rm<=30)/\ρ=[some (.h_ ns),some (.int b0),some (.int (b0 % 8)),some (.int t),some (.int (sz:Int)),some (Ν ε),some (A6 (C1 cB sz)),some (.loc M'.length),some (.int rm),some (.int (k:Int)),some (.int f),some (.str kd),some (.int (c:Int)),o5], ?_, ?_⟩
   ·have yes:∃(c:Nat) (r':Int),(1<=c/\c<=6)/\(1<=r'/\r'<=30)/\(if rm < (c0:Int) then rm else (c0:Int))=(c:Int)/\rm / (if rm < (c0:Int) then rm else (c0:Int))=r'/\(c:Int) * r'<=rm:=by
     by_cases y:rm < (c0:Int)
     ·rw [aaw y];exact ⟨rm.toNat,1,by omega,by decide,by omega,Int.ediv_self (by omega),by omega⟩
     ·rw [aav y];have a1:1<=rm / (c0:Int):=(Int.le_ediv_iff_mul_le (by omega)).mpr (by omega);have a2:rm / (c0:Int)<=rm:=acf _ (by omega);exact ⟨c0,_,by omega,⟨a1,by omega⟩,rfl,rfl,Int.mul_ediv_self_le (by omega)⟩
    obtain ⟨c',r',AM,ff,ec,er,hcr⟩:=yes;have zD:Γ kd=true->1<=r'/\r'<=30/\(ie rs:Int) * (cH kd c':Int) * r'<=30:=λy=>⟨ff.1,ff.2,by unfold cH;rw [if_pos y];exact ML (Int.natCast_nonneg _) hcr rp⟩;rw [ec] at er;walk_at "vc";refine ⟨λz=>⟨λ_=> ?_,λy=>(nomatch y)⟩,λz=>⟨λz'=> ?_,λz'=> ?_⟩⟩
    ·have z:kd="one":=aap z;dsimp only [J1];rw [ec];refine ⟨⟨by omega,bg (k:=4) (by omega)⟩,rfl,c',r',AM,zD (by rw [z];decide), ?_⟩;rw [<-er]
    ·have z':kd="other":=aap z';dsimp only [J1];rw [ec];refine ⟨⟨by omega,bg (k:=4) (by omega)⟩,rfl,c',r',AM,zD (by rw [z'];decide), ?_⟩;rw [<-er]
    ·have z:kd≠"one":=aa3 z;have z':kd≠"other":=aa3 z';refine ⟨rfl,c0,rm,⟨c01,c06⟩,⟨rl,rh, ?_⟩,rfl⟩;have:Γ kd=false:=by unfold Γ;rw [beq_eq_false_iff_ne.mpr z,beq_eq_false_iff_ne.mpr z'];rfl
     unfold cH;rw [aav (by rw [this];decide)];show (ie rs:Int) * 1 * rm<=30;rw [Int.mul_one];exact rp
   rintro ρ2 M2 ⟨rfl,c,rm,⟨c1,c6⟩,⟨rl,rh,rp⟩,rfl⟩;refine ⟨λz=> ?_,λz=> ?_⟩
   ·have z:kd="end":=aap z;refine ⟨first,f,(k:Int),3,C1 cB sz,rfl,hf,by omega,by omega,by decide,so,λxs xl hx=>cW (gc _) ?_⟩;refine ⟨xs,decide (b0 % 8=5),rfl,by omega,hx,λp pp=>⟨gV,M'.length,_,_,rfl,rfl,Rj,lt, ?_⟩⟩;rw [<-Lw] at pp;have e:Dt.tup [.str kd,Ν p]=az (.fin p):=by rw [z];rfl
    rw [e,setM (.fin p)];exact e_ _ _ ⟨m,k+1,rs++[Rw.fin p],_,_,_,_,_,_,⟨rl,rh,by rw [pA];rw [z] at rp;rw [Int.natCast_mul];exact rp⟩,by simp,by omega,by simp [hl],more (.fin p) ⟨⟨⟨pp.red.pos,pp.fit⟩,λ_ _ e=>nomatch e⟩,λ_ e=>by cases e;exact pp,λ_ _ e=>nomatch e⟩,rfl,rfl⟩
   ·have z:kd≠"end":=aa3 z;have QD:Γ kd=true\/kd="chance":=by
     rcases QD with hk | hk | hk
     ·exact .inl hk
     ·exact .inr hk
     ·exact aaK hk z
    refine ⟨⟨bg (k:=10) (by decide),bg (k:=10) (by omega)⟩,f,(k:Int),5 * c,C1 cB sz,by rw [Int.natCast_mul];rfl,hf,by omega,by omega,by omega,so,λxs xl hx=>cW (gc _) ?_⟩;refine ⟨first,kd,xs,sz,decide (b0 % 8=5),c,rfl,xl,c1,c6,hx,by omega,by omega,QD,λds dl hds=>cW (iq ds) ?_⟩;rw [<-Lw] at hds;refine ⟨gV,M'.length,_,_,rfl,rfl,Rj,lt, ?_⟩;exact e_ _ _ ⟨m,k+1,rs++[Rw.τ kd ds],_,_,_,_,_,_,⟨rl,rh,by rw [pA,Int.natCast_mul];rw [<-dl] at rp;exact rp⟩,by simp,by omega,by simp [hl],more (.τ kd ds) hds,setM (.τ kd ds),rfl⟩
  ·obtain ⟨n,k,rs,rm,o1,o2,o3,o4,o5,⟨rl,rh,rp⟩,ex,X_,hl,hd,rfl,rfl⟩:=hj;have hn:n=0:=by have:=aaZ List.length ex;unfold dW at this;simpa using this.symm
   have e:rs.length=sz:=by omega
   exact ⟨gV,h ε rs cB ⟨hs,by omega,by omega,λz=>by have:=n4 z;omega,by rw [e];exact hd,by have:=aar rl (Int.natCast_nonneg (ie rs));omega⟩⟩
def HR:DF:=λas M q _=>∃γ:List Rw,as=[.lst (γ.map az)]/\γ.length<=12/\(∀r∈γ,f_ r)/\q (.lst (γ.map az)) M
theorem vi:Ζ ["_law_rows"] ["_law_rows"] (ψ rX):= .of rfl
theorem CL(F:cX K "_law_copy" "_law_copy" rX f fd)(E:Ev K mg w Cm):aj P w K mg base (b9 P w) 1 f fd ["_law_rows"] (cJ K HR):=by
 refine F.dQ vi (λds M q x h=> ?_) (λaY A outer s H E' hr=>⟨_,(μ (Ε (EC (ys:=[]) (ah:=[]) (.of vi rfl rfl rfl) (bx (jv 0)) (λC s H fp=>(dM (Ο (jv 0) (ι (vI (dj hr (jv 0) iB) (jv 1) (cN (tS E.jk (Ο (jv 1) θ)))) θ))))))),λds M q x h=> ?_⟩)
 ·obtain ⟨γ,rfl,_⟩:=h;rfl
 ·obtain ⟨γ,rfl,qm,ro,h⟩:=h;walk_at "vc";dsimp only [Be,fM];walk_at "vc";refine ⟨by rw [aad];exact aax (show _<=12 by omega) (by decide), ?_⟩;refine pw trivial (λx=>x) _ _ (λx hx qq hq=> ?_) ?_
  ·obtain ⟨r,ff,rfl⟩:=aah.mp hx;have rr:=ro r ff;cases r with
   | fin p=>
    refine ⟨λ_=> ?_,λz=>(nomatch z)⟩;exact ⟨gV,hq⟩
   | τ k ds=>
    refine ⟨λz=>aaK (aap z) rr.1,λ_=> ?_⟩;refine Mq (iq ds) ?_;exact ⟨gV,hq⟩
  ·rw [aaX,List.map_id'];exact h
def xF(cB:Bool):Int:=if cB=true then 10 ^ 36 else 12
def cF(cB:Bool):Int:=if cB=true then 10 ^ 30 else 9
theorem oh{m:Nat}(hb:1<=b)(hmn:m<=n):b ^ m<=b ^ n:=by obtain ⟨c,rfl⟩:=Nat.exists_eq_add_of_le hmn;rw [Int.pow_add];have p:0 < b ^ c:=Int.pow_pos (by omega);have q:0<=b ^ m:=abS (by omega);have:=aar (show 1<=b ^ c by omega) q;omega
theorem tE{p:Fr}(h:bq p=true)(p0:0 < p.2):eL p (10 ^ 30)/\p.2<=1000000:=by
 unfold bq at h;rw [aaq,aan,aan] at h;have h1:=h.1;have:10 ^ 30<=p.2 * 10 ^ 30:=by have:=aaL (show 1<=p.2 by omega) (show (0:Int)<=10 ^ 30 by decide);omega
 unfold eL;split at h1 <;> exact ⟨⟨by omega,by omega⟩,h.2⟩
theorem xP.nr{p:Fr}{E:Int}(h:xP cB p)(he:p.2∣E):Nr E (cF cB) p:=by
 refine ⟨h.red,Ah he, ?_⟩;cases cB with
 | true=>exact (tE h.fit h.red.pos).1
 | false=>exact (h.near rfl).2
theorem LF.fw(lf:LF ε γ cB):FW ε γ (xF cB) (cF cB):=by
 refine ⟨⟨lf.sh,lf.Bm,λr hr=>(lf.row r hr).1.1⟩,lf.n1,λk ds hm hk=>(lf.row _ hm).1.2 k ds rfl hk,λk ds hm=> ?_,λp hm=> ?_, ?_, ?_, ?_⟩
 ·have pp:=(lf.row _ hm).2.2 k ds rfl;cases cB with
  | true=>
   have l6:ds.length<=6:=(dw (ε:=ε) (γ:=γ) ⟨lf.sh,lf.Bm,λr hr=>(lf.row r hr).1.1⟩ hm).l6;have all:∀a∈ds.map (·.2.1.2),0 < a/\a<=1000000:=λa ha=>by obtain ⟨d,hd,rfl⟩:=aah.mp ha;exact ⟨(pp d hd).red.pos,(tE (pp d hd).fit (pp d hd).red.pos).2⟩
   refine ⟨pQ (ds.map (·.2.1.2)),sE λa ha=>(all a ha).1, ?_,λd hd=>(pp d hd).nr (zJ (aah.mpr ⟨d,hd,rfl⟩))⟩;have:=Dz all;rw [aad] at this;refine abx this ?_;exact abx (oh (by decide) l6) (by decide)
  | false=>exact ⟨12,by decide,by decide,λd hd=>(pp d hd).nr ((pp d hd).near rfl).1⟩
 ·have pp:=(lf.row _ hm).2.1 p rfl;cases cB with
  | true=>exact ⟨p.2,pp.red.pos,abx (tE pp.fit pp.red.pos).2 (by decide),pp.nr (Int.dvd_refl _)⟩
  | false=>exact ⟨12,by decide,by decide,pp.nr (pp.near rfl).1⟩
 ·cases cB <;> decide
 ·cases cB <;> decide
 ·cases cB <;> decide
theorem LF.sz(lf:LF ε γ cB):jg (xF cB) (cF cB)<=2 ^ 450/\(12 * jg (xF cB) (cF cB)) ^ γ.length < 2 ^ 1030:=by
 cases cB with
 | true=>exact ⟨by decide,aaH (oh (by decide) (lf.n4 rfl)) (by decide)⟩
 | false=>exact ⟨by decide,aaH (oh (by decide) lf.Bm) (by decide)⟩
structure QI(γ:List Rw)(hand:Str)(p:Pl):Prop where
 nd:vJ p
 len:p.length<=12
 has:∀(i:Nat) (r:Rw),γ[i]? =some r->kindOf r=hand->∃j:Nat,Λ p i=some (j:Int)/\j < (Μ r).length
 only:∀(i v:Int),Λ p i=some v->∃(j:Nat) (r:Rw),i=(j:Int)/\γ[j]? =some r/\kindOf r=hand
structure lW(γ:List Rw)(hand:Str)(n:Nat)(p:Pl):Prop where
 nd:vJ p
 len:p.length<=n
 has:∀(i:Nat) (r:Rw),i < n->γ[i]? =some r->kindOf r=hand->∃j:Nat,Λ p i=some (j:Int)/\j < (Μ r).length
 only:∀(i v:Int),Λ p i=some v->∃(j:Nat) (r:Rw),i=(j:Int)/\γ[j]? =some r/\kindOf r=hand
theorem Mb{i v:Int}(h:p.length<=n):(eD p i v).length<=n+1:=by
 unfold eD;split
 ·rw [aad];omega
 ·rw [aag];exact Nat.succ_le_succ h
theorem lW.put(h:lW γ hand n p)(hi:γ[n]? =some r)(hk:kindOf r=hand)(hj:j < (Μ r).length):lW γ hand (n+1) (eD p n (j:Int)):=by
 refine ⟨Ra h.nd,Mb h.len,λi r' il ue qo=> ?_,λi v hg=> ?_⟩
 ·rw [qD];by_cases e:i=n
  ·subst e;rw [hi] at ue;cases ue;exact ⟨j,by rw [aaw rfl],hj⟩
  ·rw [aav (by omega)];exact h.has i r' (by omega) ue qo
 ·rw [qD] at hg;split at hg
  ·rename_i e;exact ⟨n,r,e,hi,hk⟩
  ·exact h.only i v hg
theorem lW.skip(h:lW γ hand n p)(hi:γ[n]? =some r)(hk:kindOf r≠hand):lW γ hand (n+1) p:=by
 refine ⟨h.nd,Nat.le_succ_of_le h.len,λi r' il ue qo=> ?_,h.only⟩;by_cases e:i=n
 ·subst e;rw [hi] at ue;cases ue;exact aaK qo hk
 ·exact h.has i r' (by omega) ue qo
theorem k9{q:DQ}(h:q (.str (kindOf r)) M):cj (az r) (.int 0) M q:=by obtain ⟨e,er⟩:=Iv (r:=r);rw [er];exact Θ (xs:=[.str (kindOf r),e]) rfl bo h
theorem Cw(hi:γ[i]? =some r){q:DQ}(h:q (az r) M):cj (.lst (γ.map az)) (.int (i:Int)) M q:=Θ (xs:=γ.map az) rfl (Κ (n9 hi)) h
def Kp:DF:=λas M q _=>∃(γ:List Rw) (hand:Str) (n0:Int),as=[.lst (γ.map az), .str hand, .int n0]/\Nm n0/\γ.length<=12/\Γ hand=true/\(∀k ds,Rw.τ k ds∈γ->1<=ds.length/\ds.length<=6)/\∀p,QI γ hand p->q (.loc M.length) (M++[dP p])
theorem gG:Ζ ["_law_rows","_law_hand","_law_number","_law_plan_here","_law_digits","_law_xs","_law_k"] ["_law_rows","_law_hand","_law_number"] (ψ sI):= .of rfl
theorem BG(F:cX K "_law_plan" "_law_plan" sI f fd)(E:Ev K mg w Cm)(aA:ax P w K mg base 1 "_law_by_digits" ["_law_number"] IW cC cI){mP:Addr}{mI:FuncData}(eK:ax P w K mg base 1 "_law_stream" ["_law_number","_law_many"] xy mP mI):aj P w K mg base (b9 P w) 2 f fd ["_law_rows","_law_hand","_law_number"] (cJ K Kp):=by
 refine F.dQ gG (λds M q x h=> ?_) (λaY A outer s H E' hr=>⟨_,(η (Α 3 gG.nd xS)
   (η (Α 4 gG.nd (ae aA hr ξ (Ο (jv 2) θ)))
   (η (Α 5 gG.nd (cN (ae eK hr ξ (Ο (jv 2) (ι (cq E.bC (Ο (jv 0) θ)) θ aV)))))
   (η (g_ (cw E.bU (ι (cq E.bC (Ο (jv 0) θ)) θ aV)) (ar (i:=6) gG.nd rfl (Or.inl rfl)) aL (μ (aF (dj hr (Η (Η (jv 0) (jv 6)) υ) (jv 1)) (η (hV (qK hr (jv 3) (jv 6) (bO (vI (b8 (jv 4)) (jv 2) (Η (jv 5) (jv 6))) (cq E.bC (ι (Η (Η (jv 0) (jv 6)) υ) θ aX)))))
   (μ (Α 2 gG.nd (jT (jv 2) (cq E.bC (ι (Η (Η (jv 0) (jv 6)) υ) θ aX)))))) Τ)))
   (μ (Ε (jv 3))))))),λds M q x h=> ?_⟩)
 ·obtain ⟨γ,hand,n0,rfl,_⟩:=h;rfl
 ·obtain ⟨γ,hand,n0,rfl,Vi,qm,hh,hdr,h⟩:=h;refine ⟨n0,rfl,λdg=> ?_⟩;walk_at "vc";refine (aE (d:= .lst (γ.map az)) (xs:=γ.map az) rfl ?_:gh [.lst (γ.map az)] _ _);rw [aad];refine ⟨n0,γ.length,rfl,rD Vi,by omega,λxs xl hx=>cW (gc _) ?_⟩;refine (aE (d:= .lst (γ.map az)) (xs:=γ.map az) rfl ?_:gh [.lst (γ.map az)] _ _);rw [aad];refine ⟨by omega, ?_⟩;rw [show ((γ.length:Int)).toNat=γ.length by omega];refine cM (λzs ρ' M'=>∃(i m:Nat) (p:Pl) (n:Int) (o6:Option Dt),zs=dW (i:Int) m/\i+m=γ.length/\lW γ hand i p/\Nm n/\M'=M++[dP p]/\ρ'=[some (.lst (γ.map az)),some (.str hand),some (.int n),some (.loc M.length),some (.bl dg),some (.lst (xs.map Dt.int)),o6]) (λx zs ρ' M' hj e_=> ?_) (λρ' M' hj=> ?_) _ _ _ ⟨0,γ.length,[],n0,none,rfl,by omega,⟨List.nodup_nil,aai _,λi r il=>aaK il (abE _),λi v hg=>(nomatch hg)⟩,Vi,rfl,rfl⟩
  ·obtain ⟨i,m,p,n,o6,ex,im,pt,hn,rfl,rfl⟩:=hj;obtain ⟨m',rfl,rfl,rfl⟩:=cx ex;have il:i < γ.length:=by omega
   have hi:γ[i]? =some γ[i]:=aaa il;generalize ZX:γ[i]=r at *
   have rm:r∈γ:=aam hi;walk_at "vc";refine Cw hi (k9 ?_);refine ⟨λz=> ?_,λz=> ?_⟩
   ·have z:kindOf r=hand:=aap z;cases r with
    | fin p=>exact aaK (z▸hh) (by show¬Γ (Str.ofString "end")=true;decide)
    | τ k ds=>
     obtain ⟨d1,d6⟩:=hdr k ds rm;have d0:(0:Int) < ds.length:=by omega
     have ln:∀(M':Ms) (q:DQ),q (.int (ds.length:Int)) M'->cj (.lst (γ.map az)) (.int (i:Int)) M' λd1 M1=>cj d1 (.int 1) M1 λd1 M1=>gh [d1] M1 q:=λM' q hq=>Cw hi (El ((aE (d:= .lst (ds.map eQ)) (xs:=ds.map eQ) rfl (by rw [aad];exact hq):gh [.lst (ds.map eQ)] _ _)));have put:∀v:Int,∃j:Nat,v % (ds.length:Int)=(j:Int)/\j < ds.length:=λv=>by have v0:=aa4 v (show (ds.length:Int)≠0 by omega);have v1:=aa0 v d0;exact ⟨(v % (ds.length:Int)).toNat,by omega,by omega⟩
     have fin:∀v:Int,∃k ks nD key,Dt.loc M.length= .loc k/\(M++[dP p])[k]? =some (.eO ks nD)/\zR (.int (i:Int))=some key/\ks.length < 1000/\(∃j:Nat,j < ds.length/\(M++[dP p]).set k (.eO (fY ks key) (eW ks key nD (.int (v % (ds.length:Int)))))=M++[dP (eD p i (j:Int))]):=λv=>by obtain ⟨j,e,jl⟩:=put v;refine ⟨M.length,_,_,Sum.inl (i:Int),rfl,aW,rfl,by unfold kP;rw [List.length_map];have:=pt.len;omega,j,jl, ?_⟩;rw [e,u7 (v:=(j:Int)),AK,dZ]
     refine ⟨λρ M2=>∃j:Nat,j < ds.length/\M2=M++[dP (eD p i (j:Int))]/\ρ=[some (.lst (γ.map az)),some (.str hand),some (.int n),some (.loc M.length),some (.bl dg),some (.lst (xs.map Dt.int)),some (.int (i:Int))],⟨λ_=> ?_,λ_=> ?_⟩, ?_⟩
     ·walk_at "vc";refine ln _ _ ?_;refine ⟨d0, ?_⟩;obtain ⟨k',ks,nD,key,f1,f2,f3,f4,j,jl,f5⟩:=fin n;exact ⟨k',ks,nD,key,f1,f2,f3,f4,j,jl,f5,rfl⟩
     ·have kx:i < xs.length:=by omega
      walk_at "vc";refine (Θ (d:= .lst (xs.map Dt.int)) rfl (fX kx) ?_:cj (.lst (xs.map Dt.int)) (.int (i:Int)) _ _);refine ln _ _ ?_;refine ⟨d0, ?_⟩;obtain ⟨k',ks,nD,key,f1,f2,f3,f4,j,jl,f5⟩:=fin xs[i];exact ⟨k',ks,nD,key,f1,f2,f3,f4,j,jl,f5,rfl⟩
     ·rintro ρ2 M2 ⟨j,jl,rfl,rfl⟩;walk_at "vc";refine ln _ _ ?_;refine ⟨⟨d0,bg (k:=10) (by omega)⟩, ?_⟩;exact e_ _ _ ⟨i+1,m',_,_,_,by rw [abL];rfl,by omega,pt.put hi z jl,Bp hn d0,rfl,rfl⟩
   ·have z:kindOf r≠hand:=aa3 z;exact e_ _ _ ⟨i+1,m',p,n,_,by rw [abL];rfl,by omega,pt.skip hi z,hn,rfl,rfl⟩
  ·obtain ⟨i,m,p,n,o6,ex,im,pt,hn,rfl,rfl⟩:=hj;have m0:m=0:=by have:=aaZ List.length ex;rw [fU] at this;exact this.symm
   have e:i=γ.length:=by omega
   subst e;exact h p ⟨pt.nd,aax pt.len qm,λi r hi hk=>pt.has i r (aaf.mp hi).1 hi hk,pt.only⟩
theorem Lu(i:Int):sU (V.int i) (V.int i)=true:=by unfold sU;simp
theorem A2{l:List Nat}{f:Nat->Bool}(h:∀j,f j=true):l.all f=true:=abQ.mpr λj _=>h j
theorem Df(i:Int):uc M n (.int i) (.int i) true:=by have:=uc.flat (M:=M) (n:=n) (d:= .int i) (e:= .int i) rfl rfl;rwa [Lu] at this
theorem qx{ds:List Dt}(h:∀d∈ds,uc M n d d true):uc M (n+1) (.tup ds) (.tup ds) true:=by
 have:=uc.tup (M:=M) (n:=n) (ds:=ds) (es:=ds) (f:=λ_=>true) λj d e h1 h2=>by rw [h1] at h2;cases h2;exact h d (aam h1)
 rwa [A2 λ_=>rfl,beq_self_eq_true] at this
theorem wX{d e:Dt}{ds:List Dt}(h1:mS M d=some ds)(h2:mS M e=some ds)(h:∀d∈ds,uc M n d d true):uc M (n+1) d e true:=by
 have:=uc.lst (M:=M) (n:=n) (d:=d) (e:=e) (f:=λ_=>true) h1 h2 rfl λj d e h1 h2=>by rw [h1] at h2;cases h2;exact h d (aam h1)
 rwa [A2 λ_=>rfl] at this
theorem yc(p:Fr):uc M (n+1) (Ν p) (Ν p) true:=qx λd hd=>by have hd:d∈[Dt.int p.1,Dt.int p.2]:=hd;simp only [List.mem_cons,List.not_mem_nil,or_false] at hd;rcases hd with rfl | rfl <;> exact Df _
theorem Nd{d e:Dt}(h1:mS M d=some (tb.map Ν))(h2:mS M e=some (tb.map Ν)):uc M (n+2) d e true:=wX h1 h2 λd hd=>by obtain ⟨p,_,rfl⟩:=aah.mp hd;exact yc p
theorem NL{p:Fr}{k:Bool->Ms->Prop}(h:k false M):Lo (Ν p) (Ν p) M (λd M1=>match d with | .bl b=>k b M1 | _=>False):=by show k (!nF [.int p.1, .int p.2] [.int p.1, .int p.2]) M;rw [Tc,aaB rfl];exact h
theorem Ai{k:Nat}(h:M[k]? =some (MO.lst xs)):pU M (.loc k)=some (xs,λM'=>M'[k]? =some (MO.lst xs)):=by show (match M[k]? with | some (MO.lst xs)=>some (xs,λM':Ms=>M'[k]? =some (MO.lst xs)) | _=>none)=_;rw [h]
def Dh:DF:=λas M q _=>∃i:Int,as=[.int i]/\q (.bl true) M
theorem Cq:Ζ ["_law_number"] ["_law_number"] (ψ pO):= .of rfl
theorem zb(F:cX K "_law_whole" "_law_whole" pO f fd)(E:Ev K mg w Cm):aj P w K mg base (b9 P w) 1 f fd ["_law_number"] (cJ K Dh):=by
 refine F.dQ Cq (λds M q x h=> ?_) (λaY A outer s H E' hr=>⟨_,(μ (Ε (iI (wq K E.cD (Ο (jv 0) (Ο (Ma E.vQ vO) θ))) (mr (Qw (wq K E.cD (Ο (jv 0) (Ο (Ma E.xc C7) θ)))))))),λds M q x h=> ?_⟩)
 ·obtain ⟨i,rfl,_⟩:=h;rfl
 ·obtain ⟨i,rfl,h⟩:=h;refine ⟨_,_,_,_,true,rfl,rfl,rfl,A9,λ_=> ?_,λz=>(nomatch z)⟩;exact ⟨_,_,_,_,false,rfl,rfl,rfl,E.ib,h⟩
structure Tt(M:Ms)(d:Dt)(tb:List Fr)(ok:Ms->Prop):Prop where
 kind:DJ M d=some (.type "list")
 seq:fR M d=some (tb.map Ν)
 it:pU M d=some (tb.map Ν,ok)
 ok:ok M
theorem y_{kt:Nat}(h:M[kt]? =some (.lst (tb.map Ν))):Tt M (.loc kt) tb (λM'=>M'[kt]? =some (MO.lst (tb.map Ν))):=⟨Gp (k4 h),jN h,Ai h,h⟩
def Ii:DF:=λas M q _=>∃(d:Dt) (tb:List Fr) (n:Nat) (ok:Ms->Prop),as=[d, .int (n:Nat)]/\Tt M d tb ok/\GO tb n/\q (.bl true) M
theorem tN:Ζ ["_law_table_here","_law_many","_law_one"] ["_law_table_here","_law_many"] (ψ oz):= .of rfl
theorem AA(F:cX K "_law_table" "_law_table" oz f fd)(E:Ev K mg w Cm){FK:Addr}{FQ:FuncData}(jn:ax P w K mg base 1 "_law_whole" ["_law_number"] Dh FK FQ)(aT:ax P w K mg base 1 "_law_lowest" ["_law_top","_law_bottom"] KJ eE et):aj P w K mg base (b9 P w) 2 f fd ["_law_table_here","_law_many"] (cJ K Ii):=by
 refine F.dQ tN (λds M q x h=> ?_) (λaY A outer s H E' hr=>⟨_,(η (aF (JW.jt (lL (iF (b8 (wq K E.cD (Ο (jv 0) (Ο (Ma E.jk rA) θ))))) (jY (lJ hr (cq E.bC (Ο (jv 0) θ)) (jv 1))))) (μ (Ε HM)) Τ)
   (η (cY (bx (jv 0)) (ar (i:=2) tN.nd rfl (Or.inl rfl)) aL (η (aF (JW.jt (lL (iF (b8 (wq K E.cD (Ο (jv 2) (Ο (Ma E.qF yL) θ))))) (lL (lJ hr (cq E.bC (Ο (jv 2) θ)) υ) (lL (iF (b8 (ae jn hr ξ (ι (Η (jv 2) υ) θ aX)))) (jY (iF (b8 (ae jn hr ξ (ι (Η (jv 2) υ) θ aX))))))))) (μ (Ε HM)) Τ)
   (μ (aF (JW.jt (lL (uY (Η (jv 2) υ) υ) (jY (lJ hr (ae aT hr ξ (ι (Η (jv 2) υ) (ι (Η (jv 2) υ) θ aX) aX)) (jv 2))))) (μ (Ε HM)) Τ))))
   (μ (Ε HM)))),λds M q x h=> ?_⟩)
 ·obtain ⟨d,tb,n,ok,rfl,_⟩:=h;rfl
 ·obtain ⟨d,tb,n,ok,rfl,hk,tk,h⟩:=h;have J':=hk.kind;walk_at "vc";refine ⟨_,_,_,_,true,rfl,J',rfl,A9,λz=>(nomatch z),λ_=> ?_⟩;refine (aE (d:=d) hk.seq ?_:gh [d] _ _);rw [aad,tk.len];refine ⟨λz=> ?_,λ_=> ?_⟩
  ·have z:(!decide ((n:Int)=(n:Int)))=true:=z;rw [aaB rfl] at z;exact nomatch z
  dsimp only [p7,fM];walk_at "vc";rw [show (List.map some [d,Dt.int (n:Int)]++[none])[0]? =some (some d) from rfl];dsimp only;rw [hk.it];refine bD (λzs ρ' M'=>M=M'/\∃(rest:List Fr) (o2:Option Dt),zs=rest.map Ν/\(∀p∈rest,p∈tb)/\ρ'=[some d,some (.int (n:Int)),o2]) (λzs ρ' M' hj=>by obtain ⟨rfl,_⟩:=hj;exact hk.ok) (λx zs ρ' M' hj e_=> ?_) (λρ' M' hj=> ?_) _ _ _ ⟨rfl,tb,none,rfl,λ_ h=>h,rfl⟩
  ·obtain ⟨rfl,rest,o2,ex,ff,rfl⟩:=hj;cases rest with
   | nil=>cases ex
   | cons p rest=>
    cases ex;have pm:=ff p aae;have rp:=tk.red p pm;obtain ⟨s1,s2⟩:=tk.sz p pm;walk_at "vc";refine ⟨_,_,_,_,true,rfl,rfl,rfl,A9,λz=>(nomatch z),λ_=> ?_⟩;refine (aE (d:=Ν p) (xs:=[.int p.1, .int p.2]) rfl ?_:gh [Ν p] _ _);refine ⟨λz=>(nomatch z),λ_=> ?_⟩;refine (jQ ?_:cj (Ν p) (.int 0) _ _);refine ⟨p.1,rfl,λz=>(nomatch z),λ_=> ?_⟩;refine (gT ?_:cj (Ν p) (.int 1) _ _);refine ⟨p.2,rfl,λz=>(nomatch z),λ_=> ?_⟩;refine (gT ?_:cj (Ν p) (.int 1) _ _);refine ⟨λz=> ?_,λ_=> ?_⟩
    ·have z:p.2 < 1:=aap z;have:=rp.pos;omega
    refine (jQ ?_:cj (Ν p) (.int 0) _ _);refine (gT ?_:cj (Ν p) (.int 1) _ _);refine ⟨p.1,p.2,rfl,rp.pos,qk (k:=1030) (aaj rp.pos) s1 (by decide), ?_⟩;rw [vC rp.pos rp.low];refine NL ?_;exact ⟨λz=>(nomatch z),λ_=>e_ _ _ ⟨rfl,rest,_,rfl,λy hy=>ff y (aac _ hy),rfl⟩⟩
  ·obtain ⟨rfl,rest,o2,ex,ff,rfl⟩:=hj;exact h
def vn:List Nat->Nat
 | []=>1
 | a::l=>a * vn l
theorem Et{G:Nat->Nat}{g:Nat->Int×Nat}{Q:Nat->Bool}:∀{l:List Nat},(∀i∈l,1<=G i/\(Q i=true->(g i).2<=G i))->(pP ((l.filter Q).map g)).length<=vn (l.map G)
 | [],_=>aai _
 | i::l,h=>by
  have ih:=Et (l:=l) λj hj=>h j (aac _ hj);obtain ⟨h1,h2⟩:=h i aae;show _<=G i * vn (l.map G);cases hQ:Q i with
  | false=>
   rw [ab3 (by rw [hQ];decide)];exact aax ih (by have:=Nat.mul_le_mul_right (vn (l.map G)) h1;omega)
  | true=>
   rw [ab2 hQ,aaJ];have e:∀(ms:List Nat) (k:Int) (r:List Pl),(ms.flatMap λj:Nat=>r.map λp=>(k,(j:Int))::p).length=ms.length * r.length:=λms k r=>by
    induction ms with
    | nil=>rw [List.length_nil,Nat.zero_mul];rfl
    | cons a ms ih=>rw [List.flatMap_cons,aag,aad,ih,aaC,Nat.succ_mul,Nat.add_comm]
   show ((List.range (g i).2).flatMap λj:Nat=>(pP ((l.filter Q).map g)).map λp=>((g i).1,(j:Int))::p).length<=_;rw [e,aa1];exact Nat.mul_le_mul (h2 hQ) ih
theorem DD:∀γ:List Rw,vn (γ.map λr=>cH (kindOf r) (Μ r).length)=ie γ
 | []=>rfl
 | r::rs=>by show _ * vn (rs.map _)=_ * ie rs;rw [DD rs]
section
variable{p1 p2 q1 q2:Pl}
theorem Jj(fw:FW ε γ X C)(hh:Γ hand=true):(pP (e9 γ hand)).length<=ie γ:=by
 have e:(List.range γ.length).map (λi=>cH (kindOf (fg γ i)) (Μ (fg γ i)).length)=γ.map λr=>cH (kindOf r) (Μ r).length:=by
  refine acv λi=> ?_;rw [aao,aao];by_cases il:i < γ.length
  ·rw [aaS il,aaa il];show some (cH (kindOf (fg γ i)) (Μ (fg γ i)).length)=some (cH (kindOf γ[i]) (Μ γ[i]).length);rw [js (aaa il)]
  ·rw [ab6 (by rw [aa1];omega),ab6 (by omega)];rfl
 rw [<-DD,<-e];refine Et λi hi=> ?_;have il:=aba.mp hi;have hi:γ[i]? =some γ[i]:=aaa il;rw [js hi];generalize γ[i]=r at *
 have one:1<=cH (kindOf r) (Μ r).length:=by
  unfold cH;cases r with
  | fin q=>exact aai _
  | τ k ds=>
   split
   ·exact (dw fw.pl (aam hi)).l1
   ·exact aai _
 refine ⟨one,λz=> ?_⟩;have z:da γ i=hand:=aap z;unfold da at z;rw [hi] at z;have z:kindOf r=hand:=z;show (Μ r).length<=cH (kindOf r) (Μ r).length;unfold cH;rw [z,aaw hh];exact aai _
theorem HE(fw:FW ε γ X C)(dk:fW γ Ι)(b1:1<=jg X C)(lG:(12 * jg X C) ^ γ.length < 2 ^ 1030):∃tb,jy ε γ Ι tb:=by obtain ⟨tb,z,N,_,_,_,tab,bot⟩:=(fw.sys dk b1).ex fw.pl.len;exact ⟨tb,tab,λi hi=>aaH (bot i hi) lG⟩
theorem Al.dk(o:Al ε γ p1 p2 tb)(fw:FW ε γ X C):fW γ (bV γ (aq p1 p2) γ.length):=AI (kq (dF fw fh.h1 o.f1) (dF fw fh.h2 o.f2))
theorem LQ{t t':List Fr}(l:t.length=n)(l':t'.length=n)(ev:∀i,i < n->t'.getD i (0,1)=t.getD i (0,1)):t'=t:=by refine abm (by rw [l,l']) λi h1 h2=> ?_;have:=ev i (by omega);rw [aab,aab,aaa h1,aaa h2] at this;exact this
theorem Al.uniq(o:Al ε γ p1 p2 tb)(o':Al ε γ q1 q2 nI)(fw:FW ε γ X C)(b1:1<=jg X C)(lG:(12 * jg X C) ^ γ.length < 2 ^ 1030):nI=tb:=by have a1:=dF fw fh.h1 o.f1;have a2:=dF fw fh.h2 o.f2;have c1:=dF fw fh.h1 o'.f1;have c2:=dF fw fh.h2 o'.f2;obtain ⟨m,wm⟩:=HE fw (AI (kq a1 c2)) b1 lG;obtain ⟨m',Z5⟩:=HE fw (AI (kq c1 a2)) b1 lG;refine LQ o.wt.tab.len o'.wt.tab.len λi il=> ?_;have u1:=o.low fw b1 c2 wm il;have u2:=o'.high fw b1 a1 wm il;have u3:=o'.low fw b1 a2 Z5 il;have u4:=o.high fw b1 c1 Z5 il;exact yr (o'.wt.tab.red i il) (o.wt.tab.red i il) (Rat.le_antisymm (Rat.le_trans u3 u4) (Rat.le_trans u1 u2))
end
def kZ(ε:Fr)(tb:List Fr)(d:bH):Fr:=(d.2.1.1 * ε.2 * (tb.getD d.1.toNat (0,1)).2+ε.1 * (tb.getD d.1.toNat (0,1)).1 * d.2.1.2,d.2.1.2 * ε.2 * (tb.getD d.1.toNat (0,1)).2)
theorem Hj(h1:0 < ε.2)(h2:0 < d.2.1.2)(h3:0 < (tb.getD d.1.toNat (0,1)).2):val (kZ ε tb d)=val d.2.1+val ε * val (tb.getD d.1.toNat (0,1))/\0 < (kZ ε tb d).2:=by
 refine ⟨?_,aaN (aaN h2 h1) h3⟩;have a:=aG (show ε.2≠0 by omega);have b:=aG (show d.2.1.2≠0 by omega);have c:=aG (show (tb.getD d.1.toNat (0,1)).2≠0 by omega);unfold kZ val;simp only [Rat.intCast_add,Rat.intCast_mul];generalize (d.2.1.1:Rat)=x1 at *
 generalize (d.2.1.2:Rat)=x2 at *
 generalize (ε.1:Rat)=y1 at *
 generalize (ε.2:Rat)=y2 at *
 generalize ((tb.getD d.1.toNat (0,1)).1:Rat)=z1 at *
 generalize ((tb.getD d.1.toNat (0,1)).2:Rat)=z2 at *
 grind
theorem bT{k:Nat}(h1:a.natAbs < 2 ^ j)(h2:b.natAbs < 2 ^ k):(a * b).natAbs < 2 ^ (j+k):=by rw [abd];exact b7 h1 h2
theorem Dj(h1:a.natAbs < 2 ^ j)(h2:b.natAbs < 2 ^ j):(a+b).natAbs < 2 ^ (j+1):=by have:=Int.natAbs_add_le a b;rw [Nat.pow_succ];omega
theorem hI{k:Nat}(h:a.natAbs < 2 ^ j)(l:j<=k):a.natAbs < 2 ^ k:=aat h (abV (by decide) l)
structure XG(ε:Fr)(n:Nat)(d:bH):Prop where
 to:0<=d.1/\d.1 < n
 p1:d.2.1.1.natAbs < 2 ^ 101
 p2:0 < d.2.1.2/\d.2.1.2.natAbs < 2 ^ 20
 s1:ε.1.natAbs < 2 ^ 10
 s2:0 < ε.2/\ε.2.natAbs < 2 ^ 10
theorem zV(tk:GO tb n){t:Int}(h:0<=t/\t < n):Red (tb.getD t.toNat (0,1))/\(tb.getD t.toNat (0,1)).2.natAbs < 2 ^ 1030/\(tb.getD t.toNat (0,1)).1.natAbs < 2 ^ 1150/\mw (tb.map Ν) t=some (Ν (tb.getD t.toNat (0,1))):=by
 have hl:t.toNat < tb.length:=by rw [tk.len];omega
 have m:=EM hl;obtain ⟨s1,s2⟩:=tk.sz _ m;have r:=tk.red _ m;refine ⟨r, ?_,s2, ?_⟩
 ·have:((tb.getD t.toNat (0,1)).2.natAbs:Int) < ((2 ^ 1030:Nat):Int):=by rw [abj (aaj r.pos),Int.natCast_pow];exact s1
  exact abI.mp this
 ·have:=IX hl;rw [show ((t.toNat:Nat):Int)=t by omega] at this;rw [this,aab,aaa hl];rfl
theorem KZ(tk:GO tb n)(dl:XG ε n d):(kZ ε tb d).1.natAbs < 2 ^ 1181/\(kZ ε tb d).2.natAbs < 2 ^ 1060:=by obtain ⟨r,b2,b1,_⟩:=zV tk dl.to;have a:=bT (bT dl.p1 dl.s2.2) b2;have b:=bT (bT dl.s1 b1) dl.p2.2;have c:=bT (bT dl.p2.2 dl.s2.2) b2;exact ⟨Dj (j:=1180) (hI a (by decide)) (hI b (by decide)),hI c (by decide)⟩
def Rv(Ι s c:Fr):Fr:=(Ι.1 * (s.2 * c.2)+s.1 * c.1 * Ι.2,Ι.2 * (s.2 * c.2))
theorem OW{Ι s c:Fr}(h1:0 < Ι.2)(h2:0 < s.2)(h3:0 < c.2):val (Rv Ι s c)=val Ι+val c * val s/\0 < (Rv Ι s c).2:=by
 refine ⟨?_,aaN h1 (aaN h2 h3)⟩;have a:=aG (show Ι.2≠0 by omega);have b:=aG (show s.2≠0 by omega);have d:=aG (show c.2≠0 by omega);unfold Rv val;simp only [Rat.intCast_add,Rat.intCast_mul];generalize (Ι.1:Rat)=x1 at *
 generalize (Ι.2:Rat)=x2 at *
 generalize (s.1:Rat)=y1 at *
 generalize (s.2:Rat)=y2 at *
 generalize (c.1:Rat)=z1 at *
 generalize (c.2:Rat)=z2 at *
 grind
structure Dq(k:Nat)(v:Rat)(Ι:Fr):Prop where
 pos:0 < Ι.2
 val:val Ι=v
 t:Ι.1.natAbs < 2 ^ (1202+1081 * k)
 b:Ι.2.natAbs < 2 ^ (1080 * k+1)
theorem Dq.step{k:Nat}{v:Rat}{Ι s c:Fr}(h:Dq k v Ι)(s0:0 < s.2)(c0:0 < c.2)(s1:s.1.natAbs < 2 ^ 1181)(s2:s.2.natAbs < 2 ^ 1060)(c1:c.1.natAbs < 2 ^ 20)(c2:c.2.natAbs < 2 ^ 20):Dq (k+1) (v+Pg.val c * Pg.val s) (Rv Ι s c):=by
 obtain ⟨e,p⟩:=OW h.pos s0 c0;refine ⟨p,by rw [e,h.val], ?_, ?_⟩
 ·have a:=bT h.t (bT s2 c2);have b:=bT (bT s1 c1) h.b;refine hI (Dj (j:=1202+1081 * k+1080) (hI a (by omega)) (hI b (by omega))) (by omega)
 ·exact hI (bT h.b (bT s2 c2)) (by omega)
theorem AH(f:bH->Rat):∀(l r:List bH),aw f (l++r)=aw f l+aw f r
 | [],r=>by show aw f r=0+aw f r;grind
 | d::l,r=>by show f d+aw f (l++r)=f d+aw f l+aw f r;rw [AH f l r];grind
def RL:DF:=λas M q _=>∃(ε:Fr) (d:bH) (tb:List Fr) (n kt:Nat),as=[Ν ε,eQ d, .loc kt]/\M[kt]? =some (.lst (tb.map Ν))/\GO tb n/\XG ε n d/\q (Ν (kZ ε tb d)) M
theorem mi:Ζ ["_law_share","_law_door","_law_table_here","_law_number","_law_top"] ["_law_share","_law_door","_law_table_here"] (ψ oO):= .of rfl
theorem zY(F:cX K "_law_shown" "_law_shown" oO f fd)(E:Ev K mg w Cm):aj P w K mg base (b9 P w) 1 f fd ["_law_share","_law_door","_law_table_here"] (cJ K RL):=by
 refine F.dQ mi (λds M q x h=> ?_) (λaY A outer s H E' hr=>⟨_,(η (Α 3 mi.nd (Η (jv 2) (Η (jv 1) υ)))
   (η (Α 4 mi.nd (cc (av (av (Η (Η (jv 1) υ) υ) (Η (jv 0) υ)) (Η (jv 3) υ)) (av (av (Η (jv 0) υ) (Η (jv 3) υ)) (Η (Η (jv 1) υ) υ))))
   (μ (Ε (dM (Ο (jv 4) (ι (av (av (Η (Η (jv 1) υ) υ) (Η (jv 0) υ)) (Η (jv 3) υ)) θ bB))))))),λds M q x h=> ?_⟩)
 ·obtain ⟨ε,d,tb,n,kt,rfl,_⟩:=h;rfl
 ·obtain ⟨ε,d,tb,n,kt,rfl,hk,tk,dl,h⟩:=h;obtain ⟨r,b2,b1,at_⟩:=zV tk dl.to;have h:q (Ν (d.2.1.1 * ε.2 * (tb.getD d.1.toNat (0,1)).2+ε.1 * (tb.getD d.1.toNat (0,1)).1 * d.2.1.2,d.2.1.2 * ε.2 * (tb.getD d.1.toNat (0,1)).2)) M:=h;generalize tb.getD d.1.toNat (0,1)=t at *
  walk_at "vc";refine Ey ?_;refine (Θ (d:= .loc kt) (jN hk) at_ ?_:cj (.loc kt) (.int d.1) _ _);refine yC (jQ ?_);refine (gT ?_:cj (Ν ε) (.int 1) _ _);refine ⟨⟨bg dl.p1,bg dl.s2.2⟩, ?_⟩;refine (gT ?_:cj (Ν t) (.int 1) _ _);refine ⟨⟨bg (bT dl.p1 dl.s2.2),bg b2⟩, ?_⟩;refine (jQ ?_:cj (Ν ε) (.int 0) _ _);refine (jQ ?_:cj (Ν t) (.int 0) _ _);refine ⟨⟨bg dl.s1,bg b1⟩, ?_⟩;refine yC (gT ?_);refine ⟨⟨bg (bT dl.s1 b1),bg dl.p2.2⟩, ?_⟩;dsimp only [ql];refine yC (gT ?_);refine (gT ?_:cj (Ν ε) (.int 1) _ _);refine ⟨⟨bg dl.p2.2,bg dl.s2.2⟩, ?_⟩;refine (gT ?_:cj (Ν t) (.int 1) _ _);exact ⟨⟨bg (bT dl.p2.2 dl.s2.2),bg b2⟩,gV,h⟩
structure Z_(ε:Fr)(n:Nat)(r:Rw):Prop where
 ds:∀k ds,r= .τ k ds->ds.length<=6/\k≠"end"/\(∀d∈ds,XG ε n d)/\(k="chance"->∀d∈ds,d.2.2=[χ d]/\0 < (χ d).2/\(χ d).1.natAbs < 2 ^ 20/\(χ d).2.natAbs < 2 ^ 20)/\(k≠"chance"->0 < ds.length/\Γ k=true)
def NO:DF:=λas M q _=>∃(ε:Fr) (r:Rw) (tb:List Fr) (n kt:Nat),as=[Ν ε,az r, .loc kt, .aU]/\M[kt]? =some (.lst (tb.map Ν))/\GO tb n/\Z_ ε n r/\0 < ε.2/\(∀p,r= .fin p->q (Ν p) M)/\(∀ds,r= .τ "chance" ds->∀f,0 < f.2->eP f.1->eP f.2->val f=aw (λd=>cV d * (val d.2.1+val ε * val (tb.getD d.1.toNat (0,1)))) ds->q (Ν f) M)/\
 (∀k ds,r= .τ k ds->Γ k=true->∀f,0 < f.2->eP f.1->eP f.2->(∃d∈ds,val f=val d.2.1+val ε * val (tb.getD d.1.toNat (0,1)))->(∀d∈ds,gf k * (val d.2.1+val ε * val (tb.getD d.1.toNat (0,1)))<=gf k * val f)->q (Ν f) M)
def Js:DF:=λas M q _=>∃(u v:Fr),as=[Ν u,Ν v]/\(eP u.1/\eP u.2/\eP v.1/\eP v.2)/\q (.bl (cT u v)) M
theorem Gs:Ζ ["_law_one","_law_two"] ["_law_one","_law_two"] (ψ sA):= .of rfl
theorem Cc(F:cX K "_law_less" "_law_less" sA f fd)(E:Ev K mg w Cm):aj P w K mg base (b9 P w) 1 f fd ["_law_one","_law_two"] (cJ K Js):=by
 refine F.dQ Gs (λds M q x h=> ?_) (λaY A outer s H E' hr=>⟨_,(μ (Ε (IY (av (Η (jv 0) υ) (Η (jv 1) υ)) (av (Η (jv 1) υ) (Η (jv 0) υ))))),λds M q x h=> ?_⟩)
 ·obtain ⟨u,v,rfl,_⟩:=h;rfl
 ·obtain ⟨u,v,rfl,⟨a1,a2,b1,b2⟩,h⟩:=h;walk_at "vc";refine (jQ ?_:cj (Ν u) (.int 0) _ _);refine (gT ?_:cj (Ν v) (.int 1) _ _);refine ⟨⟨a1,b2⟩, ?_⟩;refine (jQ ?_:cj (Ν v) (.int 0) _ _);refine (gT ?_:cj (Ν u) (.int 1) _ _);exact ⟨⟨b1,a2⟩,h⟩
theorem cQ:Ζ ["_law_share","_law_row","_law_table_here","_law_door","_law_some","_law_top","_law_bottom","_law_k","_law_part","_law_best","_law_number"] ["_law_share","_law_row","_law_table_here","_law_door"] (ψ xX):= .of rfl
theorem FO   (F:cX K "_law_due" "_law_due" xX f fd) (E:Ev K mg w Cm) {GA:Addr} {Fb:FuncData} (lR:ax P w K mg base 1 "_law_shown" ["_law_share","_law_door","_law_table_here"] RL GA Fb) {Jw:Addr} {Kj:FuncData} (kQ:ax P w K mg base 1 "_law_less" ["_law_one","_law_two"] Js Jw Kj):aj P w K mg base (b9 P w) 2 f fd ["_law_share","_law_row","_law_table_here","_law_door"] (cJ K NO):=by
 refine F.dQ cQ (λds M q x h=> ?_) (λaY A outer s H E' hr=>⟨_,(η (aF (dj hr (Η (jv 1) υ) iB) (μ (Ε (Η (jv 1) υ))) Τ)
   (η (ig (i:=4) cQ.nd rfl (Or.inl rfl) (ys:=["_law_share","_law_table_here"]) (ah:=[0,2]) (.of cQ rfl rfl rfl) (bx (Η (jv 1) υ)) (λC s H fp=>(ae lR hr (ia (P:=P) (w:=w)) (Ο (jv 1) (Ο (jv 0) (Ο (jv 2) θ))))))
   (η (aF (dj hr (Η (jv 1) υ) iB) (η (Α 5 cQ.nd υ)
   (η (Α 6 cQ.nd υ)
   (η (g_ (cw E.bU (ι (cq E.bC (Ο (jv 4) θ)) θ aV)) (ar (i:=7) cQ.nd rfl (Or.inl rfl)) aL (η (Α 8 cQ.nd (dM (ι (av (Η (Η (jv 4) (jv 7)) υ) (Η (Η (Η (Η (jv 1) υ) (jv 7)) υ) υ)) (ι (av (Η (Η (jv 4) (jv 7)) υ) (Η (Η (Η (Η (jv 1) υ) (jv 7)) υ) υ)) θ bB) bB)))
   (η (Α 5 cQ.nd (cc (av (jv 5) (Η (jv 8) υ)) (av (Η (jv 8) υ) (jv 6))))
   (μ (Α 6 cQ.nd (av (jv 6) (Η (jv 8) υ)))))))
   (μ (Ε (dM (Ο (jv 5) (Ο (jv 6) θ)))))))) Τ)
   (η (aF (MU (jv 3) Gi) (μ (Ε (Η (jv 4) (jv 3)))) Τ)
   (η (Α 9 cQ.nd (Η (jv 4) υ))
   (η (cY (bx (jv 4)) (ar (i:=10) cQ.nd rfl (Or.inl rfl)) aL (μ (aF (JW.jt (lL (JW.jt (B4 (dj hr (Η (jv 1) υ) iB) (xx (b8 (ae kQ hr ξ (Ο (jv 9) (Ο (jv 10) θ))))))) (jY (JW.jt (B4 (dj hr (Η (jv 1) υ) iB) (xx (b8 (ae kQ hr ξ (Ο (jv 10) (Ο (jv 9) θ)))))))))) (μ (Α 9 cQ.nd (jv 10))) Τ)))
   (μ (Ε (jv 9))))))))),λds M q x h=> ?_⟩)
 ·obtain ⟨ε,r,tb,n,kt,rfl,_⟩:=h;rfl
 ·obtain ⟨ε,r,tb,n,kt,rfl,hk,tk,rl,s0,hf,hc,hh⟩:=h;have sl:∀{z:Nat},z<=1000->z<=sizeLine:=λh=>aax h (by decide);walk_at "vc";refine k9 ?_;cases r with
  | fin p=>
   refine ⟨λ_=> ?_,λz=>(nomatch z)⟩;exact El (hf p rfl)
  | τ k ds=>
   obtain ⟨l6,ke,dl,dc,dh⟩:=rl.ds k ds rfl;refine ⟨λz=>aaK (aap z) ke,λ_=> ?_⟩;refine Ad (i:=1) (j:=1) rfl (Κ (j:=1) rfl) rfl ?_;refine ⟨by rw [aad];exact sl (by omega), ?_⟩;refine dE (F:=λx d=>x=eQ d/\d∈ds) (f:=λd=>Ν (kZ ε tb d)) (as:=ds) trivial (λx d hx qq hq=> ?_) (jd eQ ds ds λx hx=>hx) ?_
   ·obtain ⟨rfl,hd⟩:=hx;exact ⟨ε,d,tb,n,kt,rfl,hk,tk,dl d hd,hq⟩
   rw [aaX];generalize WO:ds.map (λd=>Ν (kZ ε tb d))=ss;have sat:∀{j:Nat} {d:bH},ds[j]? =some d->mw ss (j:Int)=some (Ν (kZ ε tb d)):=λ{j d} h=>Κ (by rw [<-WO,aao,h];rfl);have ssl:ss.length=ds.length:=by rw [<-WO,aad]
   refine k9 (r:= .τ k ds) ?_;refine ⟨λz=> ?_,λz=> ?_⟩
   ·have z:k="chance":=aap z;subst z;have dc:=dc rfl;refine (aE (d:= .lst ss) (xs:=ss) rfl ?_:gh [.lst ss] _ _);rw [ssl];refine ⟨by omega, ?_⟩;rw [show ((ds.length:Int)).toNat=ds.length by omega];refine cM (λzs ρ' M'=>M'=M/\∃(i m:Nat) (Ι:Fr) (o7 o8:Option Dt),zs=dW (i:Int) m/\i+m=ds.length/\Dq i (aw (λd=>cV d * (val d.2.1+val ε * val (tb.getD d.1.toNat (0,1)))) (ds.take i)) Ι/\ρ'=[some (Ν ε),some (az (.τ "chance" ds)),some (.loc kt),some .aU,some (.lst ss),some (.int Ι.1),some (.int Ι.2),o7,o8,none,none]) (λx zs ρ' M' hj e_=> ?_) (λρ' M' hj=> ?_) _ _ _ ⟨rfl,0,ds.length,(0,1),none,none,rfl,by omega,⟨by decide,by show ((0:Int):Rat) / ((1:Int):Rat)=0;grind,by show (0:Int).natAbs < _;exact Nat.pow_pos (by decide),by show (1:Int).natAbs < _;decide⟩,rfl⟩
    ·obtain ⟨rfl,i,m,Ι,o7,o8,ex,im,ak,rfl⟩:=hj;obtain ⟨m',rfl,rfl,rfl⟩:=cx ex;have il:i < ds.length:=by omega
     have i6:i < 6:=by omega
     have hi:ds[i]? =some ds[i]:=aaa il;have hd:=aaE il;have tk1:ds.take (i+1)=ds.take i++[ds[i]]:=by rw [List.take_succ,hi];rfl
     obtain ⟨c1,c2,c3,c4⟩:=dc _ hd;obtain ⟨t1,t2⟩:=KZ tk (dl _ hd);obtain ⟨v1,v2⟩:=Hj (ε:=ε) s0 (dl _ hd).p2.1 (zV tk (dl _ hd).to).1.pos
     have nx:∀o8,_:=λo8=>e_ [some (Ν ε),some (az (.τ "chance" ds)),some (.loc kt),some .aU,some (.lst ss),some (.int (Rv Ι (kZ ε tb ds[i]) (χ ds[i])).1),some (.int (Rv Ι (kZ ε tb ds[i]) (χ ds[i])).2),some (.int (i:Int)),o8,none,none] M' ⟨rfl,i+1,m',_,_,o8,by rw [abL];rfl,by omega,by
      have:=ak.step v2 c2 t1 t2 c3 c4;rw [tk1,AH];rw [v1] at this;have e:aw (λd=>cV d * (val d.2.1+val ε * val (tb.getD d.1.toNat (0,1)))) [ds[i]]=cV ds[i] * (val ds[i].2.1+val ε * val (tb.getD ds[i].1.toNat (0,1))):=by show cV ds[i] * (val ds[i].2.1+val ε * val (tb.getD ds[i].1.toNat (0,1)))+0=_;grind
      rw [e];exact this,rfl⟩
     have rs:∀(M':Ms) (q:DQ),q (Ν (kZ ε tb ds[i])) M'->cj (.lst ss) (.int (i:Int)) M' q:=λM' q hq=>Θ (d:= .lst ss) rfl (sat hi) hq;have rr:∀(M':Ms) (q:DQ),q (Ν (χ ds[i])) M'->cj (az (.τ "chance" ds)) (.int 1) M' λd1 M1=>cj d1 (.int (i:Int)) M1 λd1 M1=>cj d1 (.int 2) M1 q:=λM' q hq=>El (Θ (d:= .lst (ds.map eQ)) rfl (Oi il) (Kk c1 hq));have at':=ak.t;have ab':=ak.b;generalize hs:kZ ε tb ds[i]=sv at *
     generalize hcv:χ ds[i]=cv at *
     have ba:eP Ι.1:=bg at' (by omega);have bb:eP Ι.2:=bg ab' (by omega);have b3:=bT t1 c3;have b4:=bT t2 c4;walk_at "vc";refine rs _ _ ?_;refine (jQ ?_:cj (Ν sv) (.int 0) _ _);refine rr _ _ ?_;refine (jQ ?_:cj (Ν cv) (.int 0) _ _);refine ⟨⟨bg t1,bg c3⟩, ?_⟩
     try walk_at "vc"
     refine rs _ _ ?_;refine (gT ?_:cj (Ν sv) (.int 1) _ _);refine rr _ _ ?_;refine (gT ?_:cj (Ν cv) (.int 1) _ _);refine ⟨⟨bg t2,bg c4⟩,gV, ?_⟩
     try walk_at "vc"
     refine (Θ (d:= .tup [.int (sv.1 * cv.1), .int (sv.2 * cv.2)]) rfl (Κ (j:=1) rfl) ?_:cj (.tup [.int (sv.1 * cv.1), .int (sv.2 * cv.2)]) (.int 1) _ _);refine ⟨⟨ba,bg b4⟩, ?_⟩
     try walk_at "vc"
     refine (Θ (d:= .tup [.int (sv.1 * cv.1), .int (sv.2 * cv.2)]) rfl bo ?_:cj (.tup [.int (sv.1 * cv.1), .int (sv.2 * cv.2)]) (.int 0) _ _);refine ⟨⟨bg b3,bb⟩, ?_⟩
     try walk_at "vc"
     dsimp only [ql];refine (Θ (d:= .tup [.int (sv.1 * cv.1), .int (sv.2 * cv.2)]) rfl (Κ (j:=1) rfl) ?_:cj (.tup [.int (sv.1 * cv.1), .int (sv.2 * cv.2)]) (.int 1) _ _);exact ⟨⟨bb,bg b4⟩,nx _⟩
    ·obtain ⟨rfl,i,m,Ι,o7,o8,ex,im,ak,rfl⟩:=hj;have m0:m=0:=by have:=aaZ List.length ex;rw [fU] at this;exact this.symm
     have e:i=ds.length:=by omega
     subst e;have v:=ak.val;rw [List.take_length] at v;exact ⟨gV,hc ds rfl Ι ak.pos (bg ak.t (by omega)) (bg ak.b (by omega)) v⟩
   ·have z:k≠"chance":=aa3 z;obtain ⟨l1,qo⟩:=dh z;refine ⟨rfl,λz=>(nomatch z),λ_=> ?_⟩;have h0:ds[0]? =some ds[0]:=aaa l1;have s0':mw ss 0=some (Ν (kZ ε tb ds[0])):=sat (j:=0) h0;have vd:∀d∈ds,val (kZ ε tb d)=val d.2.1+val ε * val (tb.getD d.1.toNat (0,1))/\0 < (kZ ε tb d).2:=λd hd=>Hj s0 (dl d hd).p2.1 (zV tk (dl d hd).to).1.pos;have bd:∀d∈ds,eP (kZ ε tb d).1/\eP (kZ ε tb d).2:=λd hd=>⟨bg (KZ tk (dl d hd)).1,bg (KZ tk (dl d hd)).2⟩;refine (Θ (d:= .lst ss) rfl s0' ?_:cj (.lst ss) (.int 0) _ _);dsimp only [p7,fM];walk_at "vc";refine bD (λzs ρ' M'=>M'=M/\∃(fj rest:List bH) (b:bH) (o9:Option Dt),ds=fj++rest/\zs=rest.map (λd=>Ν (kZ ε tb d))/\b∈ds/\(∀d∈fj,gf k * val (kZ ε tb d)<=gf k * val (kZ ε tb b))/\ρ'=[some (Ν ε),some (az (.τ k ds)),some (.loc kt),some .aU,some (.lst ss),none,none,none,none,some (Ν (kZ ε tb b)),o9]) (λzs ρ' M' hj=>trivial) (λx zs ρ' M' hj e_=> ?_) (λρ' M' hj=> ?_) _ _ _ ⟨rfl,[],ds,ds[0],none,rfl,WO.symm,aaE l1,λ_ z=>(nomatch z),rfl⟩
    ·obtain ⟨rfl,fj,rest,b,o9,ed,ex,bm,hb,rfl⟩:=hj;cases rest with
     | nil=>cases ex
     | cons d rest=>
      cases ex;have dm:d∈ds:=by rw [ed];exact aaD _ aae
      have ub:=kS (vd b bm).2 (vd d dm).2;have ud:=kS (vd d dm).2 (vd b bm).2
      have keep:gf k * val (kZ ε tb d)<=gf k * val (kZ ε tb b)->_:=λhle=>e_ [some (Ν ε),some (az (.τ k ds)),some (.loc kt),some .aU,some (.lst ss),none,none,none,none,some (Ν (kZ ε tb b)),some (Ν (kZ ε tb d))] M' ⟨rfl,fj++[d],rest,b,_,by rw [ed,aaP];rfl,rfl,bm,λy hy=>by
       rcases aaQ.mp hy with z | z
       ·exact hb y z
       ·rw [aa7.mp z];exact hle,rfl⟩
      have take:gf k * val (kZ ε tb b)<=gf k * val (kZ ε tb d)->_:=λhle=>e_ [some (Ν ε),some (az (.τ k ds)),some (.loc kt),some .aU,some (.lst ss),none,none,none,none,some (Ν (kZ ε tb d)),some (Ν (kZ ε tb d))] M' ⟨rfl,fj++[d],rest,d,_,by rw [ed,aaP];rfl,rfl,dm,λy hy=>by
       rcases aaQ.mp hy with z | z
       ·exact Rat.le_trans (hb y z) hle
       ·rw [aa7.mp z];exact Rat.le_refl,rfl⟩
      walk_at "vc";refine k9 (r:= .τ k ds) ?_;have two:k="one"\/k="other":=fh.two k qo;refine ⟨λe1=> ?_,λe1=> ?_⟩
      ·have e1:k="one":=aap e1;refine ⟨_,_,rfl,⟨(bd b bm).1,(bd b bm).2,(bd d dm).1,(bd d dm).2⟩,λu=>⟨λ_=>take ?_,λz=>(nomatch z)⟩,λu=> ?_⟩
       ·have:=ub.mp u;rw [e1,WM];grind
       ·have u:¬val (kZ ε tb b) < val (kZ ε tb d):=λz=>by rw [ub.mpr z] at u;cases u
        refine k9 (r:= .τ k ds) ?_;refine ⟨λe2=>aaK (e1.symm.trans (aap e2)) (by decide),λ_=>⟨λz=>(nomatch z),λ_=>keep ?_⟩⟩;rw [e1,WM];grind
      ·have e1:k≠"one":=aa3 e1;have e2:k="other":=two.resolve_left e1;refine ⟨λz=>(nomatch z),λ_=> ?_⟩;refine k9 (r:= .τ k ds) ?_;refine ⟨λ_=> ?_,λz=>aaK e2 (aa3 z)⟩;refine ⟨_,_,rfl,⟨(bd d dm).1,(bd d dm).2,(bd b bm).1,(bd b bm).2⟩,λu=>take ?_,λu=>keep ?_⟩
       ·have:=ud.mp u;rw [e2,Wx];grind
       ·have u:¬val (kZ ε tb d) < val (kZ ε tb b):=λz=>by rw [ud.mpr z] at u;cases u
        rw [e2,Wx];grind
    ·obtain ⟨rfl,fj,rest,b,o9,ed,ex,bm,hb,rfl⟩:=hj;have:rest=[]:=by
      cases rest with
      | nil=>rfl
      | cons d r=>cases ex
     subst this;rw [aa8] at ed;subst ed;exact hh k _ rfl qo _ (vd b bm).2 (bd b bm).1 (bd b bm).2 ⟨b,bm,(vd b bm).1⟩ λd hd=>by rw [<-(vd d hd).1];exact hb d hd
theorem zH{ε:Fr}{tb:List Fr}:∀ws:List bH,aw (λd=>cV d * (val d.2.1+val ε * val (tb.getD d.1.toNat (0,1)))) ws=aw (λd=>cV d * val d.2.1) ws+val ε * aw (λd=>cV d * val (tb.getD d.1.toNat (0,1))) ws
 | []=>by show (0:Rat)=0+val ε * 0;grind
 | d::ws=>by have ih:=zH (ε:=ε) (tb:=tb) ws;show cV d * (val d.2.1+val ε * val (tb.getD d.1.toNat (0,1)))+aw (λd=>cV d * (val d.2.1+val ε * val (tb.getD d.1.toNat (0,1)))) ws=(cV d * val d.2.1+aw (λd=>cV d * val d.2.1) ws)+val ε * (cV d * val (tb.getD d.1.toNat (0,1))+aw (λd=>cV d * val (tb.getD d.1.toNat (0,1))) ws);rw [ih];grind
section
theorem jy.fin(h:jy ε γ Ι tb){p:Fr}(hi:γ[i]? =some (.fin p)):val (tb.getD i (0,1))=val p:=by have e:=h.tab.eq i (aaf.mp hi).1;unfold uQ uU at e;rw [js hi] at e;have e:val (tb.getD i (0,1))=val p+val ε * 0:=e;grind
theorem jy.yu(h:jy ε γ Ι tb)(fw:FW ε γ X C)(dk:fW γ Ι){k:Str}(hi:γ[i]? =some (.τ k ds)):val (tb.getD i (0,1))=aw (λd=>cV d * (val d.2.1+val ε * val (tb.getD d.1.toNat (0,1)))) (aC Ι i (.τ k ds)):=by
 have e:=h.tab.eq i (aaf.mp hi).1;unfold uQ uU at e;rw [js hi] at e;obtain ⟨_,_,_,B,E,_,_,_,_,hw⟩:=fw.Φ dk hi;have v:=vw (aC Ι i (.τ k ds)) (0,1) (by decide) λd hd=>⟨(hw d hd).ch.pos,(hw d hd).py.red.pos⟩;have e:val (tb.getD i (0,1))=val (((aC Ι i (.τ k ds)).map χ |>.zip ((aC Ι i (.τ k ds)).map (·.2.1))).foldl (λw p=>eI w (aJ p.1 p.2)) (0,1))+val ε * aw (λd=>cV d * val (tb.getD d.1.toNat (0,1))) (aC Ι i (.τ k ds)):=e;rw [e,v,zH];have:val ((0,1):Fr)=0:=by show ((0:Int):Rat) / ((1:Int):Rat)=0;grind
 rw [this];grind
theorem HP{f t:Fr}(h1:0 < f.2)(h2:0 < t.2)(e:val f=val t):f.1 * t.2=t.1 * f.2:=by
 have a:=aG (show f.2≠0 by omega);have b:=aG (show t.2≠0 by omega);unfold val at e;have:(f.1:Rat) * (t.2:Rat)=(t.1:Rat) * (f.2:Rat):=by
  generalize (f.1:Rat)=x1 at *
  generalize (f.2:Rat)=x2 at *
  generalize (t.1:Rat)=y1 at *
  generalize (t.2:Rat)=y2 at *
  grind
 rw [<-aaO,<-aaO] at this;exact Rat.intCast_inj.mp this
theorem s_(h0:0<=b)(h:b<=1000000):b.natAbs < 2 ^ 20:=by
 have:b.natAbs<=1000000:=by omega
 exact aaT this (by decide)
theorem FW.rl(fw:FW ε γ X C)(hi:γ[i]? =some r):Z_ ε γ.length r:=by
 have rm:r∈γ:=aam hi;refine ⟨λk ds e=> ?_⟩;subst e;have dr:=dw fw.pl rm;have sh:=fw.pl.sh;unfold aS at sh;rw [aaq,aaq,aan,aan,aan] at sh;obtain ⟨h1,h2,h3⟩:=sh;refine ⟨dr.l6,dr.ro.1,λd hm=> ?_,λhk d hm=> ?_,λhk=> ?_⟩
 ·obtain ⟨py,p0⟩:=dr.py d hm;have sp:=CS py p0;exact ⟨dr.to d hm,sp.1,⟨p0,s_ (Int.le_of_lt p0) (by unfold bq at py;rw [Bool.and_eq_true,decide_eq_true_iff,decide_eq_true_iff] at py;exact py.2)⟩,by omega,by omega,by omega⟩
 ·subst hk;have co:GS (ds.map χ):=by
   rcases dr.kd with z | ⟨_,_,z⟩
   ·exact aaK z (by decide)
   ·exact z
  obtain ⟨c0,cd,cu,_⟩:=DV co (aah.mpr ⟨d,hm,rfl⟩);have b1:=co.b1;have le:=ab1 co.b0 cd;obtain ⟨u0,u1⟩:=cu;exact ⟨(dr.ro.2.2.1 rfl).1 d hm,c0,s_ u0 (by omega),s_ (by omega) (by omega)⟩
 ·have hh:Γ k=true:=by
   rcases dr.kd with z | ⟨_,z,_⟩
   ·exact z
   ·exact aaK z hk
  exact ⟨dr.l1,hh⟩
variable{p1 p2:Pl}{k:Str}
theorem Al.best(o:Al ε γ p1 p2 tb)(fw:FW ε γ X C)(hi:γ[i]? =some (.τ k ds))(hh:Γ k=true):val (tb.getD i (0,1))=val (fe ε tb (.τ k ds)):=by
 have hp:∀t,t < γ.length->0 < (tb.getD t (0,1)).2:=λt ht=>(o.wt.tab.red t ht).pos;have il:=(aaf.mp hi).1;have key:∀p,af (e9 γ k) p->Β ε γ tb p=[]->aq p1 p2 k=some p->val (tb.getD i (0,1))=val (fe ε tb (.τ k ds)):=λp fp be e=>by
  obtain ⟨j,gj,jl⟩:=(cf (i:=i) fw hh fp).1 ds hi;obtain ⟨_,es⟩:=(i4 hh).mp (mq fw hh fp hp be hi gj);have ga:Λ (bV γ (aq p1 p2) γ.length) i=some (j:Int):=by rw [qv hi];show Option.map _ (aq p1 p2 k)=_;rw [e];show some ((Λ p i).getD 0)=_;rw [gj];rfl
  rw [<-o.wt.jF il,j5 fw hi hh ga jl hp,es]
 rcases fh.two k hh with rfl | rfl
 ·exact key p1 o.f1 o.n1 rfl
 ·exact key p2 o.f2 o.n2 rfl
theorem Al.yu(o:Al ε γ p1 p2 tb)(fw:FW ε γ X C)(hi:γ[i]? =some (.τ k ds))(hh:Γ k=true){u:Fr}(h1:∃d∈ds,val u=val d.2.1+val ε * val (tb.getD d.1.toNat (0,1)))(h2:∀d∈ds,gf k * (val d.2.1+val ε * val (tb.getD d.1.toNat (0,1)))<=gf k * val u):val u=val (tb.getD i (0,1)):=by have hp:∀t,t < γ.length->0 < (tb.getD t (0,1)).2:=λt ht=>(o.wt.tab.red t ht).pos;have rm:=aam hi;have l1:=(dw fw.pl rm).l1;rw [o.best fw hi hh];obtain ⟨_,al⟩:=sW (tb:=tb) fw rm hp;obtain ⟨d1,m1,e1⟩:=h1;have a:=al d1 m1;rw [(ik fw rm m1 hp).1,<-e1] at a;obtain ⟨m,_⟩:=pN (ε:=ε) (tb:=tb) (k:=k) (ds:=ds) (λz=>by rw [z] at l1;exact aaK l1 (by decide)) λd hd=>(ik fw rm hd hp).2.pos;obtain ⟨d2,m2,e2⟩:=aah.mp m;have b:=h2 d2 m2;rw [<-(ik fw rm m2 hp).1,e2] at b;exact Ba (Rat.le_antisymm a b)
end
theorem Ea(x:Str):uc M n (.str x) (.str x) true:=by have:=uc.flat (M:=M) (n:=n) (d:= .str x) (e:= .str x) rfl rfl;rwa [show sU (V.str x) (V.str x)=true by unfold sU;simp] at this
theorem J7(γ:List Rw):uc M 5 (.lst (γ.map az)) (.lst (γ.map az)) true:=wX rfl rfl λd hd=>by
 obtain ⟨r,_,rfl⟩:=aah.mp hd;cases r with
 | fin p=>
  refine qx λd hd=> ?_;have hd:d∈[Dt.str "end",Ν p]:=hd;simp only [List.mem_cons,List.not_mem_nil,or_false] at hd;rcases hd with rfl | rfl
  ·exact Ea _
  ·exact yc p
 | τ k ds=>
  refine qx λd hd=> ?_;have hd:d∈[Dt.str k, .lst (ds.map eQ)]:=hd;simp only [List.mem_cons,List.not_mem_nil,or_false] at hd;rcases hd with rfl | rfl
  ·exact Ea _
  ·refine wX rfl rfl λd hd=> ?_;obtain ⟨x,_,rfl⟩:=aah.mp hd;refine qx λd hd=> ?_;rcases aaF.mp hd with e | hd
   ·rw [e];exact Df _
   ·rcases aaF.mp hd with e | hd
    ·rw [e];exact yc _
    ·obtain ⟨p,_,rfl⟩:=aah.mp hd;exact yc p
theorem Ip{k:Nat}{q:DQ}{ds:List Dt}(hk:M[k]? =some (.lst ds))(u:Dt.bK M.length ds)(h:q (.lst ds) M):sO [.loc k] M (tL M q):=by unfold sO;dsimp only;rw [jN hk];exact cW u h
theorem yX{M:Ms}:∀rs:List Rw,Paired (ko M) (rs.map az) rs
 | []=> .nil
 | r::rs=> .cons (Nn _ r) (yX rs)
theorem Iq{q:DQ}{A:Addr}(h:q (ao A ε γ) M):tL M q (.loc M.length) ((M++[MO.ins A [] []]).set M.length (.ins A ["kept_share","kept_rows"] [Ν ε, .lst (γ.map az)])):=by rw [dZ];exact mJ (d':=ao A ε γ) (.YX (Nat.le_refl _) (by simp) (.cons (.old (oV ε)) (.cons (.old (sC γ)) .nil))) h
theorem oY{q:DQ}(h:q (.int γ.length) M):gh [Dt.lst (γ.map az)] M q:=aE (xs:=γ.map az) rfl (by rw [aad];exact h)
theorem MH{p1 p2:Pl}{Q:Fr->Prop}(opt:Al ε γ p1 p2 tb)(fw:FW ε γ X C)(dk:fW γ (bV γ (aq p1 p2) γ.length))(hi:γ[i]? =some r)(go:∀u:Fr,0 < u.2->eP u.1->eP u.2->val u=val (tb.getD i (0,1))->Q u):(∀p,r= .fin p->Q p)/\(∀ds,r= .τ "chance" ds->∀f,0 < f.2->eP f.1->eP f.2->val f=aw (λd=>cV d * (val d.2.1+val ε * val (tb.getD d.1.toNat (0,1)))) ds->Q f)/\∀k ds,r= .τ k ds->Γ k=true->∀f,0 < f.2->eP f.1->eP f.2->(∃d∈ds,val f=val d.2.1+val ε * val (tb.getD d.1.toNat (0,1)))->(∀d∈ds,gf k * (val d.2.1+val ε * val (tb.getD d.1.toNat (0,1)))<=gf k * val f)->Q f:=by
 refine ⟨λu e=> ?_,λds e u u0 u1 u2 ev=> ?_,λk ds e hh u u0 u1 u2 h1 h2=> ?_⟩
 ·subst e;have py:=fw.pl.row _ (aam hi);have sp:=CS py.2 py.1;exact go u py.1 (fG sp (by decide)) (cZ sp (by decide)) (opt.wt.fin hi).symm
 ·subst e;have e:=(opt.wt.yu fw dk hi).symm;have ew:aC (bV γ (aq p1 p2) γ.length) i (.τ "chance" ds)=ds:=by unfold aC;rw [dk.JU i _ hi (show Γ (Str.ofString "chance")=false by decide)];rfl
  rw [ew,<-ev] at e;exact go u u0 u1 u2 e
 ·subst e;exact go u u0 u1 u2 (opt.yu fw hi hh h1 h2)
def qp(tb:List Fr)(M:Ms)(kT:Nat)(Ts:List Nat):Prop:=M[kT]? =some (.lst (Ts.map Dt.loc))/\(∀k∈Ts,M[k]? =some (.lst (tb.map Ν)))/\kT∉Ts
theorem qp.app{kT:Nat}(h:qp tb M kT Ts)(E:Ms):qp tb (M++E) kT Ts:=⟨bt h.1,λk hk=>bt (h.2.1 k hk),h.2.2⟩
theorem qp.lt{kT:Nat}(h:qp tb M kT Ts):kT < M.length:=(aaf.mp h.1).1
theorem qp.add{kT k:Nat}(h:qp tb M kT Ts)(hk:M[k]? =some (.lst (tb.map Ν)))(ne:kT≠k):qp tb (M.set kT (.lst (Ts.map Dt.loc++[.loc k]))) kT (Ts++[k]):=by
 refine ⟨?_,λj hj=> ?_,λhj=> ?_⟩
 ·rw [aa9 h.lt,aa2];rfl
 ·rcases aaQ.mp hj with z | z
  ·rw [abi (show kT≠j from λe=>h.2.2 (by rw [e];exact z))];exact h.2.1 j z
  ·rw [aa7.mp z,abi ne];exact hk
 ·rcases aaQ.mp hj with z | z
  ·exact h.2.2 z
  ·exact ne (aa7.mp z)
theorem HX(o:Ak γ hand p):∀i,i < γ.length->cU γ (jf hand p) i=true:=λi il=>by
 have hi:γ[i]? =some γ[i]:=aaa il;generalize γ[i]=r at *
 unfold cU;rw [hi];show fZ (jf hand p) i r=true;unfold fZ jf;by_cases e:kindOf r=hand
 ·rw [aaw e];exact wI o hi e
 ·rw [aav e]
theorem L8{pa:Pl}(ff:hand="one"/\ο="other"\/hand="other"/\ο="one")(fw:FW ε γ X C)(fp:af (e9 γ hand) p)(b:DL ε γ hand ο p pa tb)(n:Β ε γ tb p=[]):∃q1 q2,Al ε γ q1 q2 tb:=by
 rcases ff with ⟨rfl,rfl⟩ | ⟨rfl,rfl⟩
 ·exact ⟨_,_,Eo fw fp b n⟩
 ·exact ⟨_,_,N6 fw fp b n⟩
theorem h9:Ζ ["_law_script","_law_share","_law_rows","_law_told","_law_floor_here","_law_table_here","_law_k","_law_due_here","_law_held","_law_tables","_law_hand","_law_plan_here","_law_some"] ["_law_script"] (ψ QU):= .of rfl
theorem QS(F:cX K "law" "law" QU f fd)(E:Ev K mg w Cm){Fc:Addr}{Fq:FuncData}(mR:ax P w K mg base 5 "_law_floor" ["_law_script"] Dg Fc Fq){HW:Addr}{Io:FuncData}(oH:ax P w K mg base 1 "_law_copy" ["_law_rows"] HR HW Io){B_:Addr}{CH:FuncData}(kG:Qk P w K mg base 5 "Floor" Cm ["self","share","rows"] (NX Cm) B_ CH){M_:Addr}{Na:FuncData}(nU:ax P w K mg base 11 "worths" ["floor"] (zG Cm) M_ Na){Gx:Addr}{EZ:FuncData}(ju:ax P w K mg base 2 "_law_table" ["_law_table_here","_law_many"] Ii Gx EZ){Nw:Addr}{LW:FuncData}(tY:ax P w K mg base 2 "_law_due" ["_law_share","_law_row","_law_table_here","_law_door"] NO Nw LW){nu:Addr}{nA:FuncData}(pL:y9 P w K mg base 10 "mended" ["floor","hand","start"] (nq Cm) [.aU] nu nA){Bu:Addr}{Bw:FuncData}(fH:ax P w K mg base 1 "_law_at" ["_law_script","_law_k"] Zn Bu Bw)(gI:y9 P w K mg base 10 "mended" ["floor","hand","start"] (nq Cm) [.str "one", .aU] nu nA){Jk:Addr}{IE:FuncData}(o_:ax P w K mg base 2 "_law_plan" ["_law_rows","_law_hand","_law_number"] Kp Jk IE)(oE:y9 P w K mg base 10 "mended" ["floor","hand","start"] (nq Cm) [] nu nA):aj P w K mg base (b9 P w) 12 f fd ["_law_script"] (cJ K Qe):=by
 refine F.dQ h9 (λds M q x h=> ?_) (λaY A outer s H E' hr=>⟨_,(η (Lg (cN (ae mR hr ξ (Ο (jv 0) θ))) (om rfl (cR (ar (i:=1) h9.nd rfl (Or.inl rfl)) (cR (ar (i:=2) h9.nd rfl (Or.inl rfl)) kR))))
   (η (Α 3 h9.nd (ae oH hr ξ (Ο (jv 2) θ)))
   (η (Α 4 h9.nd (cN (P7 kG hr ξ (Ο (jv 1) (Ο (jv 3) θ)))))
   (η (Α 5 h9.nd (ae nU hr ξ (Ο (jv 4) θ)))
   (η (aF (iF (b8 (ae ju hr ξ (Ο (jv 5) (ι (cq E.bC (Ο (jv 2) θ)) θ aV))))) (μ (Ε HM)) Τ)
   (η (hV (g_ (cw E.bU (ι (cq E.bC (Ο (jv 2) θ)) θ aV)) (ar (i:=6) h9.nd rfl (Or.inl rfl)) aL (η (Α 7 h9.nd (ae tY hr ξ (Ο (jv 1) (ι (Η (jv 2) (jv 6)) (Ο (jv 5) (ι Gi θ dJ)) aX))))
   (μ (aF (lJ hr (av (Η (jv 7) υ) (Η (Η (jv 5) (jv 6)) υ)) (av (Η (Η (jv 5) (jv 6)) υ) (Η (jv 7) υ))) (μ (Ε HM)) Τ)))))
   (η (Α 8 h9.nd (cN (tS E.jk (Ο (jv 5) θ))))
   (η (kB (jv 5) υ (dM (ι (cc (Η (Η (jv 5) υ) υ) υ) (ι υ θ dJ) bB)))
   (η (c7 (c_ (jv 5) (ι (dM (ι υ (ι υ θ dJ) dJ)) θ Ax)))
   (η (Α 9 h9.nd (jO (ι (Η (Ei pL hr ξ (Ο (jv 4) (ι iB θ dJ))) υ) (ι (ae nU hr ξ (Ο (jv 4) θ)) θ aV) aX)))
   (η (hV (aF (JW.jt (B4 (lJ hr (bO (ae fH hr ξ (Ο (jv 0) (ι υ θ dJ))) υ) υ) (xx (lJ hr (bO (ae fH hr ξ (Ο (jv 0) (ι υ θ dJ))) υ) υ)))) (η (c7 (c_ (jv 9) (ι (Η (Ei gI hr ξ (Ο (jv 4) θ)) υ) θ aX)))
   (μ (g_ (cw E.bU (ι υ θ dJ)) (ar (i:=6) h9.nd rfl (Or.inl rfl)) aL (η (Α 10 h9.nd (Η (d8 3 (d:= .lst [.str "one", .str "other"]) (by rfl)) (jv 6)))
   (η (Α 11 h9.nd (ae o_ hr ξ (Ο (jv 2) (Ο (jv 10) (ι (ae fH hr ξ (Ο (jv 0) (ι (cc υ (jv 6)) θ bB))) θ aV)))))
   (μ (c7 (c_ (jv 9) (ι (Η (Ei oE hr ξ (Ο (jv 4) (Ο (jv 10) (Ο (jv 11) θ)))) υ) θ aX))))))))) Τ))
   (η (cY (bx (jv 9)) (ar (i:=12) h9.nd rfl (Or.inl rfl)) aL (μ (aF (JW.jt (lL (iF (b8 (ae ju hr ξ (Ο (jv 12) (ι (cq E.bC (Ο (jv 2) θ)) θ aV))))) (jY (OH 2 hr (jv 12) (jv 8))))) (μ (Ε HM)) Τ)))
   (μ (Ε (Uc 5 hr (jv 3) (jv 2)))))))))))))))),λds M q x h=> ?_⟩)
 ·obtain ⟨ns,rfl,_⟩:=h;rfl
 ·obtain ⟨ns,rfl,nl,hq⟩:=h;refine ⟨ns,rfl,nl,λε γ cB lf=>mJ (d':= .tup [Ν ε, .lst (γ.map az)]) (.tup (.cons (.old (oV ε)) (.cons (.KL (Nat.le_refl _) (by simp) (jD.old (sC γ))) .nil))) ?_⟩;have fw:=lf.fw;obtain ⟨jq,lG⟩:=lf.sz;have b1:1<=jg (xF cB) (cF cB):=by cases cB <;> decide
  have qm:=lf.Bm;have n1:=lf.n1;have ro:∀r∈γ,f_ r/\fE r γ.length=true:=λr hr=>(lf.row r hr).1.1;have dr:∀k ds,Rw.τ k ds∈γ->1<=ds.length/\ds.length<=6:=λk ds hm=>⟨(dw fw.pl hm).l1,(dw fw.pl hm).l6⟩;have np:∀{z:Str},Γ z=true->(pP (e9 γ z)).length<=1000:=λhz=>aax (Jj fw hz) (aax lf.pr (by decide));refine ⟨γ,rfl,qm,λr hr=>(ro r hr).1, ?_⟩;refine ⟨M.length, .lst (γ.map az),ε,γ.map az,γ,λ_=>True,rfl,aW,rfl,yX γ,lf.sh,n1,qm,ro,rfl,Iq ?_⟩;refine ⟨ε,γ,_,_,rfl,fw,jq,lG,b1,np (by decide),λp0 pa0 tb E0 kt fp0 b0 n0 _ ht=> ?_⟩;have opt:=Eo fw fp0 b0 n0;have dk:=opt.dk fw;have tok:=opt.wt.ok fw dk b1;have s0:=fw.sh.1;generalize M++E0=M1 at *
  walk_at "vc";refine oY ?_;refine ⟨.loc kt,tb,γ.length,_,rfl,y_ ht,tok,λz=>(nomatch z),λ_=> ?_⟩;refine ⟨λρ M'=>M'=M1/\∃o6 o7:Option Dt,ρ=[some (.h_ ns),some (Ν ε),some (.lst (γ.map az)),some (.lst (γ.map az)),some (ao Cm ε γ),some (.loc kt),o6,o7,none,none,none,none,none], ?_, ?_⟩
  ·walk_at "vc";refine oY ?_;refine ⟨by omega, ?_⟩;refine cM (λzs ρ' M'=>M'=M1/\∃(i m:Nat) (o6 o7:Option Dt),zs=dW (i:Int) m/\i+m=γ.length/\ρ'=[some (.h_ ns),some (Ν ε),some (.lst (γ.map az)),some (.lst (γ.map az)),some (ao Cm ε γ),some (.loc kt),o6,o7,none,none,none,none,none]) (λx zs ρ' M' hj e_=> ?_) (λρ' M' hj=> ?_) _ _ _ ⟨rfl,0,γ.length,none,none,rfl,by omega,rfl⟩
   ·obtain ⟨rfl,i,m,o6,o7,ex,im,rfl⟩:=hj;obtain ⟨m',rfl,rfl,rfl⟩:=cx ex;have il:i < γ.length:=by omega
    have hi:γ[i]? =some γ[i]:=aaa il;generalize ZX:γ[i]=r at *
    obtain ⟨rt,t2,t1,at_⟩:=zV tok (t:=(i:Int)) (by omega);rw [abA] at rt t2 t1 at_;have rd:∀(q:DQ),q (Ν (tb.getD i (0,1))) M'->cj (.loc kt) (.int (i:Int)) M' q:=λq hq=>Θ (d:= .loc kt) (jN ht) at_ hq;have nx:∀o,_:=λo=>e_ [some (.h_ ns),some (Ν ε),some (.lst (γ.map az)),some (.lst (γ.map az)),some (ao Cm ε γ),some (.loc kt),some (.int (i:Int)),o,none,none,none,none,none] M' ⟨rfl,i+1,m',_,_,by rw [abL];rfl,by omega,rfl⟩;walk_at "vc";refine Cw hi ?_;refine ⟨ε,r,tb,γ.length,kt,rfl,ht,tok,fw.rl hi,s0,MH opt fw dk hi λu u0 u1 u2 e=> ?_⟩;generalize tb.getD i (0,1)=t at *
    refine (jQ ?_:cj (Ν u) (.int 0) _ _);refine rd _ ?_;refine (gT ?_:cj (Ν t) (.int 1) _ _);refine ⟨⟨u1,bg t2⟩, ?_⟩;refine rd _ ?_;refine (jQ ?_:cj (Ν t) (.int 0) _ _);refine (gT ?_:cj (Ν u) (.int 1) _ _);refine ⟨⟨bg t1,u2⟩,λz=> ?_,λ_=>nx _⟩;have z:(!decide (u.1 * t.2=t.1 * u.2))=true:=z;rw [aaB (HP u0 rt.pos e)] at z;exact nomatch z
   ·obtain ⟨rfl,i,m,o6,o7,ex,im,rfl⟩:=hj;exact ⟨rfl,_,_,rfl⟩
  ·rintro ρ1 M' ⟨rfl,o6,o7,rfl⟩;walk_at "vc";refine Ip ht (xJ _) ?_;have tl:0 < tb.length:=by rw [tok.len];omega
   dsimp only [L6,tm];walk_at "vc";refine (Θ (d:= .loc kt) (jN ht) (IX tl) ?_:cj (.loc kt) (.int ((0:Nat):Int)) _ _);refine jQ ?_;dsimp only [ql];refine ⟨by decide, ?_⟩;refine ⟨kt,0,_,0,rfl,rfl,ht,by rw [aad];exact tG tl, ?_⟩;have h5:(List.set M' kt (MO.lst ((tb.map Ν).set 0 (.tup [.int (tb[0].1+1), .int 11]))))[kt]? =some (MO.lst ((tb.map Ν).set 0 (.tup [.int (tb[0].1+1), .int 11]))):=aa9 (aaf.mp ht).1;generalize List.set M' kt (MO.lst ((tb.map Ν).set 0 (.tup [.int (tb[0].1+1), .int 11])))=N1 at *
   have sl:∀{z:Nat},z<=1000->z < sizeLine:=λh=>aaT h (by decide);dsimp only [IC];walk_at "vc";refine ⟨⟨kt,_,rfl,h5⟩,by decide,kt,_,_,rfl,rfl,h5,sl (by rw [abg,aad,tok.len];omega), ?_⟩;generalize List.set N1 kt _=N2;clear h5 N1;dsimp only [Ki];walk_at "vc";refine ⟨ε,γ,"other","one",_,_, .aU,rfl, .inl rfl, .inr ⟨rfl,rfl⟩,fw,jq,lG,b1,np (by decide),λp1 pa1 tb1 E1 Z6 VE Rq ZI fp1 bs1 ne1 lk1 VD=> ?_⟩;obtain rfl:tb=tb1:=(opt.uniq (N6 fw fp1 bs1 ne1) fw b1 lG).symm;refine (Θ (d:= .tup [.loc Z6, .loc VE, .loc Rq, .loc ZI]) rfl (Κ (j:=2) rfl) ?_:cj (.tup [.loc Z6, .loc VE, .loc Rq, .loc ZI]) (.int 2) _ _);refine ⟨ε,γ,_,_,rfl,fw,jq,lG,b1,np (by decide),λp2 pa2 tb2 E2 RM fp2 bs2 ne2 lk2 NT=> ?_⟩;obtain rfl:tb=tb2:=(opt.uniq (Eo fw fp2 bs2 ne2) fw b1 lG).symm;have VD:(N2++E1++E2)[Rq]? =some (.lst (tb.map Ν)):=bt VD;generalize N2++E1++E2=N3 at *
   refine ⟨by decide, ?_⟩;have g1:=(aaf.mp VD).1;have g2:=(aaf.mp NT).1
   have inv:qp tb (N3++[.lst [.loc Rq, .loc RM]]) N3.length [Rq,RM]:=⟨aW,λk hk=>bt (by
    simp only [List.mem_cons,List.not_mem_nil,or_false] at hk;rcases hk with rfl | rfl
    ·exact VD
    ·exact NT),λz=>by
    simp only [List.mem_cons,List.not_mem_nil,or_false] at z
    omega⟩
   generalize N3.length=kT at *
   generalize N3++[MO.lst [.loc Rq, .loc RM]]=N4 at *
   refine ⟨λρ M'=>∃(Ts:List Nat) (o6 Nu LL:Option Dt),qp tb M' kT Ts/\ρ=[some (.h_ ns),some (Ν ε),some (.lst (γ.map az)),some (.lst (γ.map az)),some (ao Cm ε γ),some (.loc kt),o6,o7,some (.lst (tb.map Ν)),some (.loc kT),Nu,LL,none], ?_, ?_⟩
   ·have RW:∃(Ts:List Nat) (o6' Nu LL:Option Dt),qp tb N4 kT Ts/\[some (.h_ ns),some (Ν ε),some (.lst (γ.map az)),some (.lst (γ.map az)),some (ao Cm ε γ),some (.loc kt),o6,o7,some (.lst (tb.map Ν)),some (.loc kT),none,none,none]=[some (.h_ ns),some (Ν ε),some (.lst (γ.map az)),some (.lst (γ.map az)),some (ao Cm ε γ),some (.loc kt),o6',o7,some (.lst (tb.map Ν)),some (.loc kT),Nu,LL,none]:=⟨_,_,_,_,inv,rfl⟩;walk_at "vc";refine ⟨ns,0,rfl,nl,by decide,by decide,λn hn=>⟨by decide,λ_=> ?_,λ_=>⟨λz=>(nomatch z),λ_=>RW⟩⟩⟩;refine ⟨ns,0,rfl,nl,by decide,by decide,λn' Rt=>⟨by decide,λ_=> ?_,λ_=>RW⟩⟩;dsimp only [IC];walk_at "vc";refine ⟨⟨kT,_,rfl,inv.1⟩,ε,γ,"one","other",_,_, .aU,rfl, .inl rfl, .inl ⟨rfl,rfl⟩,fw,jq,lG,b1,np (by decide),λp3 pa3 tb3 E3 kp3 ZW Ve ZN fp3 bs3 ne3 lk3 ht3=> ?_⟩;obtain rfl:tb=tb3:=(opt.uniq (Eo fw fp3 bs3 ne3) fw b1 lG).symm;refine (Θ (d:= .tup [.loc kp3, .loc ZW, .loc Ve, .loc ZN]) rfl (Κ (j:=2) rfl) ?_:cj (.tup [.loc kp3, .loc ZW, .loc Ve, .loc ZN]) (.int 2) _ _);refine ⟨kT,_,_,rfl,rfl,(inv.app E3).1,sl (by show 2<=1000;decide), ?_⟩;have inv2:=(inv.app E3).add ht3 (by have:=inv.lt;omega);generalize (N4++E3).set kT _=N5 at *
    refine ⟨by decide, ?_⟩;refine cM (λzs ρ' M'=>∃(i m:Nat) (Ts:List Nat) (o6 Nu LL:Option Dt),zs=dW (i:Int) m/\i+m=2/\Ts.length=3+i/\qp tb M' kT Ts/\ρ'=[some (.h_ ns),some (Ν ε),some (.lst (γ.map az)),some (.lst (γ.map az)),some (ao Cm ε γ),some (.loc kt),o6,o7,some (.lst (tb.map Ν)),some (.loc kT),Nu,LL,none]) (λx zs ρ' M' hj e_=> ?_) (λρ' M' hj=> ?_) _ _ _ ⟨0,2,_,_,_,_,rfl,rfl,rfl,inv2,rfl⟩
    ·obtain ⟨i,m,Ts,o6,Nu,LL,ex,im,lT,iv,rfl⟩:=hj;obtain ⟨m',rfl,rfl,rfl⟩:=cx ex;obtain ⟨hand,ο,hat,ff⟩:∃hand ο:Str,mw [Dt.str "one",Dt.str "other"] (i:Int)=some (.str hand)/\(hand="one"/\ο="other"\/hand="other"/\ο="one"):=by
      rcases (show i=0\/i=1 by omega) with rfl | rfl
      ·exact ⟨"one","other",rfl, .inl ⟨rfl,rfl⟩⟩
      ·exact ⟨"other","one",rfl, .inr ⟨rfl,rfl⟩⟩
     have hs:=fN ff;walk_at "vc";refine (Θ (d:= .lst [.str "one", .str "other"]) rfl hat ?_:cj (.lst [.str "one", .str "other"]) (.int (i:Int)) _ _);dsimp only [ql];refine ⟨ns,14+(i:Int),rfl,nl,by omega,by omega,λn2 Rz=> ?_⟩;refine ⟨γ,hand,n2,rfl,Rz,qm,hs.h1,dr,λpl okp=> ?_⟩;dsimp only [IC];walk_at "vc";refine ⟨⟨kT,_,rfl,(iv.app _).1⟩,ε,γ,hand,ο,_,_, .loc M'.length,rfl, .inr ⟨M'.length,pl,rfl,aW,HX okp.has⟩,ff,fw,jq,lG,b1,np hs.h1,λp5 pa5 tb5 E5 ZR ka5 Z' kr5 fp5 bs5 ne5 lk5 ht5=> ?_⟩;obtain ⟨q1,q2,o5⟩:=L8 ff fw fp5 bs5 ne5;obtain rfl:tb=tb5:=(opt.uniq o5 fw b1 lG).symm;refine (Θ (d:= .tup [.loc ZR, .loc ka5, .loc Z', .loc kr5]) rfl (Κ (j:=2) rfl) ?_:cj (.tup [.loc ZR, .loc ka5, .loc Z', .loc kr5]) (.int 2) _ _);have Z8:=(iv.app [dP pl]).app E5;refine ⟨kT,_,_,rfl,rfl,Z8.1,sl (by rw [aad];omega), ?_⟩;exact e_ _ _ ⟨i+1,m',_,_,_,_,by rw [abL];rfl,by omega,by rw [aag,lT];rfl,Z8.add ht5 (by have:=(iv.app [dP pl]).lt;omega),rfl⟩
    ·obtain ⟨i,m,Ts,o6,Nu,LL,ex,im,lT,iv,rfl⟩:=hj;exact ⟨Ts,_,_,_,iv,rfl⟩
   rintro ρ5 M5 ⟨Ts,o6,Nu,LL,iv,rfl⟩;dsimp only [L6,p7,fM];walk_at "vc";rw [Ai iv.1];refine bD (λzs ρ' M'=>M'=M5/\∃(rest:List Nat) (Wh:Option Dt),zs=rest.map Dt.loc/\(∀k∈rest,k∈Ts)/\ρ'=[some (.h_ ns),some (Ν ε),some (.lst (γ.map az)),some (.lst (γ.map az)),some (ao Cm ε γ),some (.loc kt),o6,o7,some (.lst (tb.map Ν)),some (.loc kT),Nu,LL,Wh]) (λzs ρ' M' hj=>by obtain ⟨rfl,_⟩:=hj;exact iv.1) (λx zs ρ' M' hj e_=> ?_) (λρ' M' hj=> ?_) _ _ _ ⟨rfl,Ts,none,rfl,λ_ h=>h,rfl⟩
   ·obtain ⟨rfl,rest,Wh,ex,ff,rfl⟩:=hj;cases rest with
    | nil=>cases ex
    | cons k rest=>
     cases ex;have hk:=iv.2.1 k (ff k aae);walk_at "vc";refine oY ?_;refine ⟨.loc k,tb,γ.length,_,rfl,y_ hk,tok,λz=>(nomatch z),λ_=> ?_⟩;refine ⟨true, .inr ⟨_,JN (k4 hk)⟩, .inr ⟨_,rfl⟩,Nd (JN (k4 hk)) rfl,λz=>(nomatch z),λ_=> ?_⟩;exact e_ _ _ ⟨rfl,rest,_,rfl,λy hy=>ff y (aac _ hy),rfl⟩
   ·obtain ⟨rfl,rest,Wh,ex,ff,rfl⟩:=hj;exact ⟨true, .inr ⟨_,rfl⟩, .inr ⟨_,rfl⟩,J7 γ,hq _⟩
structure FT(K:fI)(f:Addr)(x:Str)(st:Stmt):Prop where
 a:PySem.W.nsIn K mainGlobals x=some (some (.ref f))
 e:∃fd,cX K x x st f fd
structure FM(K:fI)(C f:Addr)(m x:Str)(st:Stmt):Prop where
 a:PySem.W.findIn K (.ref C) m=some (some (.ref f))
 i:PySem.W.isFn K (.ref f)=true
 e:∃fd,cX K m x st f fd
structure FV(K:fI)(f:Addr)(x:Str)(st:Stmt)(U:Addr)(its:Array Value):Prop where
 a:PySem.W.nsIn K mainGlobals x=some (some (.ref f))
 e:∃fd,FL K x st U its f fd
section
variable{K:fI}{C:Addr}{m x:Str}{st:Stmt}{oc:Value}{od an:Option Addr}{A4:Array (Option Value)}{kV doc pm aY ct:Value}
theorem FT.of(a:PySem.W.nsIn K mainGlobals x=some (some (.ref f)))(l:K.lookup f=some ⟨oc,od, .func (PySem.W.fnOf x x (gs st) (d9 st) (ψ st) .none kV doc pm an aY ct),A4⟩)(c:PySem.W.codeIn K aY x=true)(k:PySem.W.keepIn K (.ref f)=true):FT K f x st:=⟨a,_,Iz l c k⟩
theorem FM.of(a:PySem.W.findIn K (.ref C) m=some (some (.ref f)))(i:PySem.W.isFn K (.ref f)=true)(l:K.lookup f=some ⟨oc,od, .func (PySem.W.fnOf m x (gs st) (d9 st) (ψ st) .none kV doc pm an aY ct),A4⟩)(c:PySem.W.codeIn K aY x=true)(k:PySem.W.keepIn K (.ref f)=true):FM K C f m x st:=⟨a,i,_,Iz l c k⟩
theorem FV.of{U:Addr}{tc:Value}{td:Option Addr}{tn:Nat}{ts:Array (Option Value)}(a:PySem.W.nsIn K mainGlobals x=some (some (.ref f)))(l:K.lookup f=some ⟨oc,od, .func (PySem.W.fnOf x x (gs st) (d9 st) (ψ st) (.ref U) kV doc pm an aY ct),A4⟩)(c:PySem.W.codeIn K aY x=true)(k:PySem.W.keepIn K (.ref f)=true)(t:K.lookup U=some ⟨tc,td, .seq its tn,ts⟩):FV K f x st U its:=⟨a,_,⟨_,_,_,_,_,_,_,_,_,rfl,l,c⟩,⟨_,_,t,rfl⟩,k⟩
end
section
variable{P:List Value->Prop}
theorem Uh(h:P []):∀us:List Value,us.length=0->P us
 | [],_=>h
 | _::_,e=>nomatch e
theorem eZ(h:∀a0:Value,P [a0]):∀us:List Value,us.length=1->P us
 | [],e=>nomatch e
 | a::us,e=>Uh (P:=λus=>P (a::us)) (h a) us (Nat.succ.inj e)
theorem cn(h:∀a0 a1:Value,P [a0,a1]):∀us:List Value,us.length=2->P us
 | [],e=>nomatch e
 | a::us,e=>eZ (P:=λus=>P (a::us)) (h a) us (Nat.succ.inj e)
theorem fP(h:∀a0 a1 a2:Value,P [a0,a1,a2]):∀us:List Value,us.length=3->P us
 | [],e=>nomatch e
 | a::us,e=>cn (P:=λus=>P (a::us)) (h a) us (Nat.succ.inj e)
theorem rQ(h:∀a0 a1 a2 a3:Value,P [a0,a1,a2,a3]):∀us:List Value,us.length=4->P us
 | [],e=>nomatch e
 | a::us,e=>fP (P:=λus=>P (a::us)) (h a) us (Nat.succ.inj e)
theorem Us(h:∀a0 a1 a2 a3 a4:Value,P [a0,a1,a2,a3,a4]):∀us:List Value,us.length=5->P us
 | [],e=>nomatch e
 | a::us,e=>rQ (P:=λus=>P (a::us)) (h a) us (Nat.succ.inj e)
end
theorem wH{K:fI}(h:PySem.W.subIn K (.type "int") (.type "bool")=some false):PySem.W.kitOne K (.type "int") (.type "bool")=some false:=by unfold PySem.W.kitOne PySem.W.kitCls;rw [aav (by decide+kernel)];show (if PySem.W.kitMeta "bool"=true then _ else _)=_;rw [aaw (by decide+kernel)];exact h
theorem zE{K:fI}(h:PySem.W.subIn K (.type "int") (.type "str")=some false):PySem.W.kitOne K (.type "int") (.type "str")=some false:=by unfold PySem.W.kitOne PySem.W.kitCls;rw [aav (by decide+kernel)];show (if PySem.W.kitMeta "str"=true then _ else _)=_;rw [aaw (by decide+kernel)];exact h
theorem uF{K:fI}(h:PySem.W.subIn K (.type "tuple") (.type "str")=some false):PySem.W.kitOne K (.type "tuple") (.type "str")=some false:=by unfold PySem.W.kitOne PySem.W.kitCls;rw [aav (by decide+kernel)];show (if PySem.W.kitMeta "str"=true then _ else _)=_;rw [aaw (by decide+kernel)];exact h
theorem uo{K:fI}(h:PySem.W.subIn K (.type "tuple") (.type "int")=some false):PySem.W.kitOne K (.type "tuple") (.type "int")=some false:=by unfold PySem.W.kitOne PySem.W.kitCls;rw [aav (by decide+kernel)];show (if PySem.W.kitMeta "int"=true then _ else _)=_;rw [aaw (by decide+kernel)];exact h
theorem wD{K:fI}(h:PySem.W.subIn K (.type "list") (.type "str")=some false):PySem.W.kitOne K (.type "list") (.type "str")=some false:=by unfold PySem.W.kitOne PySem.W.kitCls;rw [aav (by decide+kernel)];show (if PySem.W.kitMeta "str"=true then _ else _)=_;rw [aaw (by decide+kernel)];exact h
theorem wN{K:fI}(h:PySem.W.subIn K (.type "list") (.type "int")=some false):PySem.W.kitOne K (.type "list") (.type "int")=some false:=by unfold PySem.W.kitOne PySem.W.kitCls;rw [aav (by decide+kernel)];show (if PySem.W.kitMeta "int"=true then _ else _)=_;rw [aaw (by decide+kernel)];exact h
theorem rR{K:fI}(h:PySem.W.subIn K (.type "tuple") (.type "list")=some false):PySem.W.kitOne K (.type "tuple") (.type "list")=some false:=by unfold PySem.W.kitOne PySem.W.kitCls;rw [aav (by decide+kernel)];show (if PySem.W.kitMeta "list"=true then _ else _)=_;rw [aaw (by decide+kernel)];exact h
theorem sH{K:fI}(h:PySem.W.subIn K (.type "list") (.type "tuple")=some false):PySem.W.kitOne K (.type "list") (.type "tuple")=some false:=by unfold PySem.W.kitOne PySem.W.kitCls;rw [aav (by decide+kernel)];show (if PySem.W.kitMeta "tuple"=true then _ else _)=_;rw [aaw (by decide+kernel)];exact h
theorem Pc{K:fI}{a:Addr}{t1 t2 t3:Tok}(h1:PySem.W.nsIn K a "one"=some (some (.str "other" t1)))(h2:PySem.W.nsIn K a "other"=some (some (.str "one" t2)))(h3:PySem.W.nsIn K a "chance"=some (some (.str "chance" t3))){y:Str}(h:([("one","other"),("other","one"),("chance","chance")]:List (Str×Str)).lookup z=some y):∃tk,PySem.W.nsIn K a z=some (some (.str y tk)):=by
 rw [abr] at h;split at h
 ·rename_i e;cases abz.mp e;cases h;exact ⟨_,h1⟩
 rw [abr] at h;split at h
 ·rename_i e;cases abz.mp e;cases h;exact ⟨_,h2⟩
 rw [abr] at h;split at h
 ·rename_i e;cases abz.mp e;cases h;exact ⟨_,h3⟩
 cases h
open PySem.W in
theorem all_mk{l:OpenLaw}{w:World}{K:Frag}{h:Heap}{fa Cm Dy U1 f1 f2 f3 f4 f5 f6 f7 f8 f9 f10 f11 f12 f13 f14 f15 f16 f17 f18 f19 f20 f21 f22 f23 f24 f25 f26 f27 f28 f29 f30 f31 f32 f33 f34 f35 f36 f37 f38 f39 f40 f41 f42 f43 f44 f45 f46 f47 f48 f49 f50 f51 f52 f53 f54 f55 f56 f57 f58 f59 f60 f61 f62 f63 f64 f65 f66:Addr}(X:K.In h)(G:h.Ns mainGlobals mg)(hfa:mg "law"=some (.ref fa))
  {wM uq ux lA:Tok}
  (wL:nsIn K mainGlobals "MOST_DOORS"=some (some (.int (6) wM)))
  (ui:nsIn K mainGlobals "MOST_BOTTOM"=some (some (.int (1000000) uq)))
  (uv:nsIn K mainGlobals "MOST_PLACES"=some (some (.int (12) ux)))
  (lx:nsIn K mainGlobals "MOST_SHARE_BOTTOM"=some (some (.int (1000) lA)))
  (LO:nsIn K mainGlobals "Floor"=some (some (.ref Cm))) (fK:plainGet K Cm Str.empty=true) (fv:hasDictIn K Cm=true) (fL:plainOver K Cm=true) (fF:findIn K (.ref Cm) "__setattr__"=some (some (.builtin "object.__setattr__"))) (Ln:makesIn K Cm=true) (Ni:keepIn K (.ref Cm)=true)
  (xG:findIn K (.ref Cm) "kept_rows"=some none)
  (uE:findIn K (.ref Cm) "kept_share"=some none)
  {KS Ih:Tok} {Jf:Option Addr} {Iu:Array (Option Value)} {JR:Nat} (KY:nsIn K mainGlobals "HANDS"=some (some (.ref Dy))) (Jt:K.lookup Dy=some ⟨.type "tuple",Jf, .seq #[(.str "one" KS),(.str "other" Ih)] JR,Iu⟩)
  (yY:subIn K (.type "int") (.type "bool")=some false)
  (BJ:subIn K (.type "int") (.type "str")=some false)
  (ye:subIn K (.type "tuple") (.type "str")=some false)
  (xn:subIn K (.type "tuple") (.type "int")=some false)
  (zN:subIn K (.type "list") (.type "str")=some false)
  (A0:subIn K (.type "list") (.type "int")=some false)
  (uf:subIn K (.type "tuple") (.type "list")=some false)
  (uN:subIn K (.type "list") (.type "tuple")=some false)
  (t1:FT K f1 "_law_at" Bq)
  (t2:FT K f2 "_law_by_digits" jI)
  (t3:FT K f3 "_law_lowest" mn)
  (t4:FT K f4 "_law_share_of" jZ)
  (t5:FT K f5 "_law_pay" vY)
  (t6:FT K f6 "_law_stream" mN)
  (t7:FT K f7 "_law_things" mO)
  (t8:FT K f8 "_law_doors" pK)
  (t9:FT K f9 "_law_floor" oJ)
  (t10:FT K f10 "_law_copy" rX)
  (t11:FT K f11 "fits_share" md)
  (t12:FT K f12 "fits_pay" rH)
  (t13:FT K f13 "fits_door" oo)
  (t14:FT K f14 "fits_doors" mK)
  (t15:FT K f15 "common_divisor" hJ)
  (t16:FT K f16 "common_bottom" ix)
  (t17:FT K f17 "fits_chances" jz)
  (t18:FT K f18 "fits_row" rW)
  (t19:FT K f19 "copied_row" mQ)
  (t20:FM K Cm f20 "__init__" "Floor.__init__" mW)
  (t21:FM K Cm f21 "size" "Floor.size" mZ)
  (t22:FM K Cm f22 "kind" "Floor.kind" mE)
  (t23:FT K f23 "places_of" pF)
  (t24:FT K f24 "first_plan" lY)
  (t25:FM K Cm f25 "doors" "Floor.doors" kK)
  (t26:FT K f26 "has_door" sX)
  (t27:FT K f27 "doors_of" sP)
  (t28:FT K f28 "started" sY)
  (t29:FT K f29 "with_weights" jJ)
  (t30:FT K f30 "number_of_head" iC)
  (t31:FT K f31 "moved_ahead" ki)
  (t32:FT K f32 "cleared_line" jG)
  (t33:FT K f33 "cleared" tU)
  (t34:FT K f34 "fraction" oF)
  (t35:FT K f35 "quotients" mB)
  (t36:FT K f36 "answer_of" oC)
  (t37:FT K f37 "minus" BY)
  (t38:FT K f38 "times" By)
  (t39:FT K f39 "whole_row" oP)
  (t40:FT K f40 "led_row" xo)
  (t41:FM K Cm f41 "pay" "Floor.pay" pH)
  (t42:FM K Cm f42 "share" "Floor.share" ku)
  (t43:FT K f43 "ways_from" pM)
  (t44:FT K f44 "plus" KG)
  (t45:FT K f45 "weighed" sQ)
  (t46:FT K f46 "row_of" Bj)
  (t47:FT K f47 "worths_by" pd)
  (t48:FT K f48 "worths_against" g8)
  (t49:FM K Cm f49 "shown" "Floor.shown" ky)
  (t50:FM K Cm f50 "all_shown" "Floor.all_shown" gP)
  (t51:FT K f51 "under" Bx)
  (t52:FT K f52 "greatest" ow)
  (t53:FT K f53 "least" Cb)
  (t54:FM K Cm f54 "look" "Floor.look" mT)
  (t55:FM K Cm f55 "best" "Floor.best" l_)
  (t56:FT K f56 "better_doors" jr)
  (t57:FT K f57 "against" sk)
  {U58:Addr} {J5:Tok} (t58:FV K f58 "mended" xr U58 #[.str "one" J5, .none])
  (t59:FT K f59 "worths" w_)
  (t60:FT K f60 "_law_whole" pO)
  (t61:FT K f61 "_law_table" oz)
  (t62:FT K f62 "_law_shown" oO)
  (t63:FT K f63 "_law_less" sA)
  (t64:FT K f64 "_law_due" xX)
  (t65:FT K f65 "_law_plan" sI)
  (t66:FT K f66 "law" QU)
  (RX:nsIn K mainGlobals "len"=some none)
  (Sx:nsIn K mainGlobals "abs"=some none)
  (xt:nsIn K mainGlobals "isinstance"=some none)
  (SK:nsIn K mainGlobals "int"=some none)
  (O3:nsIn K mainGlobals "bool"=some none)
  (RN:nsIn K mainGlobals "str"=some none)
  (MF:nsIn K mainGlobals "tuple"=some none)
  (OU:nsIn K mainGlobals "list"=some none)
  (Le:nsIn K mainGlobals "range"=some none)
  (zA:nsIn K mainGlobals "enumerate"=some none)
  (Tb:nsIn K mainGlobals "any"=some none)
  (SX:nsIn K mainGlobals "all"=some none)
  (Uj:nsIn K mainGlobals "sum"=some none)
  (R9:nsIn K mainGlobals "zip"=some none)
  (Qy:nsIn K mainGlobals "dict"=some none)
  (RP:nsIn K mainGlobals "min"=some none)
  (T6:nsIn K mainGlobals "max"=some none)
  {UK:Array DictEntry} {nTK:Nat} {VZ XY V2:Tok}
  (VW:nsIn K mainGlobals "TURNED_KINDS"=some (some (.ref U1)))
  (X3:K.lookup U1=some ⟨.type "dict",none, .dict UK nTK, #[]⟩)
  (Yr:KeysLit w.params UK.toList)
  (WQ:nsIn K U1 "one"=some (some (.str "other" VZ)))
  (VT:nsIn K U1 "other"=some (some (.str "one" XY)))
  (WB:nsIn K U1 "chance"=some (some (.str "chance" V2)))
  :∃fd:FuncData,(∀(s:Shared) (v:Value),BindsTo s fd ⟨[v],[]⟩ [("_law_script",v)])/\∀base:Heap,K.In base->base.Ns mainGlobals mg->aj l.prog w K mg base VQ 12 fa fd ["_law_script"] (z5 K):=by
 obtain ⟨a1,_,F1⟩:=t1;obtain ⟨a2,_,F2⟩:=t2;obtain ⟨a3,_,F3⟩:=t3;obtain ⟨a4,_,F4⟩:=t4;obtain ⟨a5,_,F5⟩:=t5;obtain ⟨a6,_,F6⟩:=t6;obtain ⟨a7,_,F7⟩:=t7;obtain ⟨a8,_,F8⟩:=t8;obtain ⟨a9,_,F9⟩:=t9;obtain ⟨Yq,_,X7⟩:=t10;obtain ⟨a11,_,Yo⟩:=t11;obtain ⟨a12,_,Zb⟩:=t12;obtain ⟨a13,_,YE⟩:=t13;obtain ⟨a14,_,Zd⟩:=t14;obtain ⟨a15,_,Zs⟩:=t15;obtain ⟨a16,_,Yw⟩:=t16;obtain ⟨a17,_,Yj⟩:=t17;obtain ⟨a18,_,Y3⟩:=t18;obtain ⟨a19,_,Y5⟩:=t19;obtain ⟨a20,i20,_,F20⟩:=t20;obtain ⟨a21,i21,_,Xi⟩:=t21;obtain ⟨a22,i22,_,We⟩:=t22;obtain ⟨a23,_,Wo⟩:=t23;obtain ⟨a24,_,Wt⟩:=t24;obtain ⟨a25,i25,_,Y9⟩:=t25;obtain ⟨a26,_,Yx⟩:=t26;obtain ⟨a27,_,YT⟩:=t27;obtain ⟨a28,_,V8⟩:=t28;obtain ⟨a29,_,XX⟩:=t29;obtain ⟨a30,_,YS⟩:=t30;obtain ⟨a31,_,Yy⟩:=t31;obtain ⟨a32,_,Xo⟩:=t32;obtain ⟨a33,_,WU⟩:=t33;obtain ⟨a34,_,V6⟩:=t34;obtain ⟨a35,_,Zm⟩:=t35;obtain ⟨a36,_,W5⟩:=t36;obtain ⟨a37,_,Wc⟩:=t37;obtain ⟨a38,_,Xq⟩:=t38;obtain ⟨a39,_,Zr⟩:=t39;obtain ⟨a40,_,YH⟩:=t40;obtain ⟨a41,i41,_,XF⟩:=t41;obtain ⟨a42,i42,_,W7⟩:=t42;obtain ⟨a43,_,YI⟩:=t43;obtain ⟨a44,_,XE⟩:=t44;obtain ⟨a45,_,V5⟩:=t45;obtain ⟨a46,_,Xl⟩:=t46;obtain ⟨a47,_,V3⟩:=t47;obtain ⟨a48,_,W0⟩:=t48;obtain ⟨a49,i49,_,WS⟩:=t49;obtain ⟨a50,i50,_,WN⟩:=t50;obtain ⟨a51,_,Xh⟩:=t51;obtain ⟨a52,_,XT⟩:=t52;obtain ⟨a53,_,WA⟩:=t53;obtain ⟨a54,i54,_,X'⟩:=t54;obtain ⟨a55,i55,_,X9⟩:=t55;obtain ⟨a56,_,Wf⟩:=t56;obtain ⟨a57,_,Yp⟩:=t57;obtain ⟨Ze,_,Qj⟩:=t58;obtain ⟨a59,_,XC⟩:=t59;obtain ⟨a60,_,Zj⟩:=t60;obtain ⟨a61,_,YK⟩:=t61;obtain ⟨a62,_,WK⟩:=t62;obtain ⟨a63,_,Wu⟩:=t63;obtain ⟨a64,_,Wd⟩:=t64;obtain ⟨a65,_,Wm⟩:=t65;obtain ⟨a66,dL,F66⟩:=t66;have e:=hfa.symm.trans (mg_of X G a66);cases e;have xb:=mg_of X G wL;have uj:=mg_of X G ui;have uK:=mg_of X G uv;have lu:=mg_of X G lx;have bC:=mg_none_of X G RX;have qX:=mg_none_of X G Sx;have cD:=mg_none_of X G xt;have vQ:=mg_none_of X G SK;have xc:=mg_none_of X G O3;have I0:=mg_none_of X G RN;have qF:=mg_none_of X G MF;have jk:=mg_none_of X G OU;have bU:=mg_none_of X G Le;have eN:=mg_none_of X G zA;have D7:=mg_none_of X G Tb;have Ej:=mg_none_of X G SX;have zT:=mg_none_of X G Uj;have vF:=mg_none_of X G R9;have tX:=mg_none_of X G Qy;have C_:=mg_none_of X G RP;have Kl:=mg_none_of X G T6;have E:Ev K mg w Cm:={bC:=bC,qX:=qX,cD:=cD,vQ:=vQ,xc:=xc,I0:=I0,qF:=qF,jk:=jk,bU:=bU,eN:=eN,D7:=D7,Ej:=Ej,zT:=zT,vF:=vF,tX:=tX,C_:=C_,Kl:=Kl,ib:=wH yY,kis:=zE BJ,kts:=uF ye,kti:=uo xn,kls:=wD zN,kli:=wN A0,ktl:=rR uf,klt:=sH uN,dU:=⟨fK,fv,fL,fF⟩,cE:=xG,fA:=uE,xN:=⟨_,_,_,_,mg_of X G KY,Jt,rfl,rfl,gV, .cons ⟨_,rfl⟩ (.cons ⟨_,rfl⟩ .nil)⟩,lC:=⟨_,_,_,mg_of X G VW,X3,Yr,λz y h=>Pc WQ VT WB h⟩,pR:=⟨_,xb⟩,ji:=⟨_,uj⟩,nZ:=⟨_,uK⟩,gR:=⟨_,lu⟩};refine ⟨dL,λs v=>by obtain ⟨_,_,_,_,_,_,_,_,_,rfl,_⟩:=F66.ex;exact .of_eq rfl,λbase _ _=> ?_⟩;have mc:= @ax.mk l.prog w K mg base;have fH:=mc (HN F1 E) (F1.binds λ_ _ _ _ _ _=>cn λ_ _=>rfl) (mg_of X G a1) F1.kp;have aA:=mc (rF F2 E) (F2.binds λ_ _ _ _ _ _=>eZ λ_=>rfl) (mg_of X G a2) F2.kp;have aT:=mc (xp F3 E) (F3.binds λ_ _ _ _ _ _=>cn λ_ _=>rfl) (mg_of X G a3) F3.kp;have jo:=mc (uJ F4 E aA aT) (F4.binds λ_ _ _ _ _ _=>cn λ_ _=>rfl) (mg_of X G a4) F4.kp;have iY:=mc (Gy F5 E aT) (F5.binds λ_ _ _ _ _ _=>cn λ_ _=>rfl) (mg_of X G a5) F5.kp;have eK:=mc (w8 F6 E) (F6.binds λ_ _ _ _ _ _=>cn λ_ _=>rfl) (mg_of X G a6) F6.kp;have h8:=mc (xC F7 E aA eK) (F7.binds λ_ _ _ _ _ _=>rQ λ_ _ _ _=>rfl) (mg_of X G a7) F7.kp;have me:=mc (AJ F8 E iY aT) (F8.binds λ_ _ _ _ _ _=>rQ λ_ _ _ _=>rfl) (mg_of X G a8) F8.kp;have mR:=mc (AY F9 E fH aA jo iY h8 me) (F9.binds λ_ _ _ _ _ _=>eZ λ_=>rfl) (mg_of X G a9) F9.kp;have oH:=mc (CL X7 E) (X7.binds λ_ _ _ _ _ _=>eZ λ_=>rfl) (mg_of X G Yq) X7.kp;have kj:=mc (wA Yo E) (Yo.binds λ_ _ _ _ _ _=>eZ λ_=>rfl) (mg_of X G a11) Yo.kp;have gH:=mc (Bh Zb E) (Zb.binds λ_ _ _ _ _ _=>eZ λ_=>rfl) (mg_of X G a12) Zb.kp;have mC:=mc (yS YE E gH) (YE.binds λ_ _ _ _ _ _=>cn λ_ _=>rfl) (mg_of X G a13) YE.kp;have hZ:=mc (wy Zd E mC) (Zd.binds λ_ _ _ _ _ _=>cn λ_ _=>rfl) (mg_of X G a14) Zd.kp;have bL:=mc (oG Zs E) (Zs.binds λ_ _ _ _ _ _=>cn λ_ _=>rfl) (mg_of X G a15) Zs.kp;have cy:=mc (qi Yw E bL) (Yw.binds λ_ _ _ _ _ _=>eZ λ_=>rfl) (mg_of X G a16) Yw.kp;have iJ:=mc (sT Yj E cy) (Yj.binds λ_ _ _ _ _ _=>eZ λ_=>rfl) (mg_of X G a17) Yj.kp;have ou:=mc (Bt Y3 E gH hZ iJ) (Y3.binds λ_ _ _ _ _ _=>cn λ_ _=>rfl) (mg_of X G a18) Y3.kp;have j2:=mc (yg Y5 E) (Y5.binds λ_ _ _ _ _ _=>eZ λ_=>rfl) (mg_of X G a19) Y5.kp;have kG:Qk l.prog w K mg base _ "Floor" Cm _ _ _ _:=⟨xQ F20 E kj ou j2,(F20.binds λ_ _ _ _ _ _=>fP λ_ _ _=>rfl),⟨Ln,a20,i20,Ni⟩,mg_of X G LO⟩;have aZ:dz l.prog w K mg base _ Cm "size" _ _ _ _:=⟨xq Xi E,(Xi.binds λ_ _ _ _ _ _=>eZ λ_=>rfl),⟨fK,fv,fL,fF⟩,⟨a21,i21,Xi.kp⟩⟩;have Υ:dz l.prog w K mg base _ Cm "kind" _ _ _ _:=⟨xT We E,(We.binds λ_ _ _ _ _ _=>cn λ_ _=>rfl),⟨fK,fv,fL,fF⟩,⟨a22,i22,We.kp⟩⟩;have lS:=mc (yI Wo E aZ Υ) (Wo.binds λ_ _ _ _ _ _=>cn λ_ _=>rfl) (mg_of X G a23) Wo.kp;have eG:=mc (wJ Wt E lS) (Wt.binds λ_ _ _ _ _ _=>cn λ_ _=>rfl) (mg_of X G a24) Wt.kp;have aO:dz l.prog w K mg base _ Cm "doors" _ _ _ _:=⟨uy Y9 E Υ,(Y9.binds λ_ _ _ _ _ _=>cn λ_ _=>rfl),⟨fK,fv,fL,fF⟩,⟨a25,i25,Y9.kp⟩⟩;have pe:=mc (CG Yx E aO) (Yx.binds λ_ _ _ _ _ _=>fP λ_ _ _=>rfl) (mg_of X G a26) Yx.kp;have gC:=mc (CN YT E aZ Υ pe) (YT.binds λ_ _ _ _ _ _=>cn λ_ _=>rfl) (mg_of X G a27) YT.kp;have oM:=mc (Bg V8 E eG gC) (V8.binds λ_ _ _ _ _ _=>fP λ_ _ _=>rfl) (mg_of X G a28) V8.kp;have iD:=mc (rz XX E) (XX.binds λ_ _ _ _ _ _=>eZ λ_=>rfl) (mg_of X G a29) XX.kp;have gS:=mc (qh YS E) (YS.binds λ_ _ _ _ _ _=>fP λ_ _ _=>rfl) (mg_of X G a30) YS.kp;have jB:=mc (uh Yy E) (Yy.binds λ_ _ _ _ _ _=>fP λ_ _ _=>rfl) (mg_of X G a31) Yy.kp;have fD:=mc (tV Xo E) (Xo.binds λ_ _ _ _ _ _=>rQ λ_ _ _ _=>rfl) (mg_of X G a32) Xo.kp;have oX:=mc (Cr WU E iD gS jB fD) (WU.binds λ_ _ _ _ _ _=>cn λ_ _=>rfl) (mg_of X G a33) WU.kp;have br:=mc (Ao V6 E bL) (V6.binds λ_ _ _ _ _ _=>cn λ_ _=>rfl) (mg_of X G a34) V6.kp;have j4:=mc (x4 Zm E br) (Zm.binds λ_ _ _ _ _ _=>rQ λ_ _ _ _=>rfl) (mg_of X G a35) Zm.kp;have mh:=mc (Au W5 E oX j4) (W5.binds λ_ _ _ _ _ _=>eZ λ_=>rfl) (mg_of X G a36) W5.kp;have x9:=mc (IT Wc E br) (Wc.binds λ_ _ _ _ _ _=>cn λ_ _=>rfl) (mg_of X G a37) Wc.kp;have gA:=mc (Kc Xq E br) (Xq.binds λ_ _ _ _ _ _=>cn λ_ _=>rfl) (mg_of X G a38) Xq.kp;have lZ:=mc (yA Zr E cy) (Zr.binds λ_ _ _ _ _ _=>eZ λ_=>rfl) (mg_of X G a39) Zr.kp;have nQ:=mc (FJ YH E aZ x9 gA lZ) (YH.binds λ_ _ _ _ _ _=>Us λ_ _ _ _ _=>rfl) (mg_of X G a40) YH.kp;have fi:dz l.prog w K mg base _ Cm "pay" _ _ _ _:=⟨AV XF E Υ,(XF.binds λ_ _ _ _ _ _=>cn λ_ _=>rfl),⟨fK,fv,fL,fF⟩,⟨a41,i41,XF.kp⟩⟩;have gz:dz l.prog w K mg base _ Cm "share" _ _ _ _:=⟨uM W7 E,(W7.binds λ_ _ _ _ _ _=>eZ λ_=>rfl),⟨fK,fv,fL,fF⟩,⟨a42,i42,W7.kp⟩⟩;have ma:=mc (zz YI E aO Υ) (YI.binds λ_ _ _ _ _ _=>fP λ_ _ _=>rfl) (mg_of X G a43) YI.kp;have oq:=mc (MW XE E br) (XE.binds λ_ _ _ _ _ _=>cn λ_ _=>rfl) (mg_of X G a44) XE.kp;have gE:=mc (Bl V5 E oq gA) (V5.binds λ_ _ _ _ _ _=>cn λ_ _=>rfl) (mg_of X G a45) V5.kp;have wB:=mc (IL Xl E Υ nQ fi gz ma gE) (Xl.binds λ_ _ _ _ _ _=>fP λ_ _ _=>rfl) (mg_of X G a46) Xl.kp;have l9:=mc (yE V3 E mh aZ wB) (V3.binds λ_ _ _ _ _ _=>cn λ_ _=>rfl) (mg_of X G a47) V3.kp;have d7:=mc (oi W0 E l9) (W0.binds λ_ _ _ _ _ _=>fP λ_ _ _=>rfl) (mg_of X G a48) W0.kp;have jA:dz l.prog w K mg base _ Cm "shown" _ _ _ _:=⟨uB WS E oq gA,(WS.binds λ_ _ _ _ _ _=>rQ λ_ _ _ _=>rfl),⟨fK,fv,fL,fF⟩,⟨a49,i49,WS.kp⟩⟩;have a_:dz l.prog w K mg base _ Cm "all_shown" _ _ _ _:=⟨oj WN E aO jA,(WN.binds λ_ _ _ _ _ _=>fP λ_ _ _=>rfl),⟨fK,fv,fL,fF⟩,⟨a50,i50,WN.kp⟩⟩;have k_:=mc (HK Xh E) (Xh.binds λ_ _ _ _ _ _=>cn λ_ _=>rfl) (mg_of X G a51) Xh.kp;have my:=mc (Ac XT E k_) (XT.binds λ_ _ _ _ _ _=>eZ λ_=>rfl) (mg_of X G a52) XT.kp;have xB:=mc (JV WA E k_) (WA.binds λ_ _ _ _ _ _=>eZ λ_=>rfl) (mg_of X G a53) WA.kp;have kD:dz l.prog w K mg base _ Cm "look" _ _ _ _:=⟨yb X' E Υ fi gE a_ aO my xB,(X'.binds λ_ _ _ _ _ _=>fP λ_ _ _=>rfl),⟨fK,fv,fL,fF⟩,⟨a54,i54,X'.kp⟩⟩;have j_:dz l.prog w K mg base _ Cm "best" _ _ _ _:=⟨xf X9 E Υ kD a_,(X9.binds λ_ _ _ _ _ _=>fP λ_ _ _=>rfl),⟨fK,fv,fL,fF⟩,⟨a55,i55,X9.kp⟩⟩;have bZ:=mc (si Wf E j_) (Wf.binds λ_ _ _ _ _ _=>fP λ_ _ _=>rfl) (mg_of X G a56) Wf.kp;have pk:=mc (Ck Yp E gC eG d7 bZ) (Yp.binds λ_ _ _ _ _ _=>fP λ_ _ _=>rfl) (mg_of X G a57) Yp.kp;have sL:=FC Qj E (P:=l.prog) (base:=base) oM pk bZ
 have gI:y9 l.prog w K mg base _ "mended" _ _ [Dt.str "one",Dt.aU] _ _:=⟨sL,⟨[V.str "one",V.aU],[Value.str "one" J5,Value.none],Qj.binds (λ_ _ _ _ _ _ us hl=>by
  obtain ⟨a0,rfl⟩:∃a0,us=[a0]:=eZ (P:=λus=>∃a0,us=[a0]) (λa0=>⟨a0,rfl⟩) us (by simpa using hl)
  exact ⟨_,rfl,rfl⟩),(.cons ⟨_,rfl⟩ (.cons rfl .nil)),λ_ _=>⟨_,_,rfl,rfl,⟨_,_,rfl,rfl,rfl⟩⟩⟩,mg_of X G Ze,Qj.kp⟩
 have pL:y9 l.prog w K mg base _ "mended" _ _ [Dt.aU] _ _:=⟨sL,⟨[V.aU],[Value.none],Qj.binds (λ_ _ _ _ _ _ us hl=>by
  obtain ⟨a0,a1,rfl⟩:∃a0 a1,us=[a0,a1]:=cn (P:=λus=>∃a0 a1,us=[a0,a1]) (λa0 a1=>⟨a0,a1,rfl⟩) us (by simpa using hl)
  exact ⟨_,rfl,rfl⟩),(.cons rfl .nil),λ_ _=>⟨_,_,rfl,rfl,rfl⟩⟩,mg_of X G Ze,Qj.kp⟩
 have oE:y9 l.prog w K mg base _ "mended" _ _ [] _ _:=⟨sL,⟨[],[],Qj.binds (λ_ _ _ _ _ _ us hl=>by
  obtain ⟨a0,a1,a2,rfl⟩:∃a0 a1 a2,us=[a0,a1,a2]:=fP (P:=λus=>∃a0 a1 a2,us=[a0,a1,a2]) (λa0 a1 a2=>⟨a0,a1,a2,rfl⟩) us (by simpa using hl)
  exact ⟨_,rfl,rfl⟩), .nil,λ_ _=>rfl⟩,mg_of X G Ze,Qj.kp⟩
 have nU:=mc (Fv XC E gI) (XC.binds λ_ _ _ _ _ _=>eZ λ_=>rfl) (mg_of X G a59) XC.kp;have jn:=mc (zb Zj E) (Zj.binds λ_ _ _ _ _ _=>eZ λ_=>rfl) (mg_of X G a60) Zj.kp;have ju:=mc (AA YK E jn aT) (YK.binds λ_ _ _ _ _ _=>cn λ_ _=>rfl) (mg_of X G a61) YK.kp;have lR:=mc (zY WK E) (WK.binds λ_ _ _ _ _ _=>fP λ_ _ _=>rfl) (mg_of X G a62) WK.kp;have kQ:=mc (Cc Wu E) (Wu.binds λ_ _ _ _ _ _=>cn λ_ _=>rfl) (mg_of X G a63) Wu.kp;have tY:=mc (FO Wd E lR kQ) (Wd.binds λ_ _ _ _ _ _=>rQ λ_ _ _ _=>rfl) (mg_of X G a64) Wd.kp;have o_:=mc (BG Wm E aA eK) (Wm.binds λ_ _ _ _ _ _=>fP λ_ _ _=>rfl) (mg_of X G a65) Wm.kp;exact QH (QS F66 E mR oH kG nU ju tY pL fH gI o_ oE)
theorem walk{l:PySem.W.OpenLaw}{q:Program}{loose:List Str}{XP:(Str->Option Value)->Heap->Prop}{YP:World->Heap->Prop}{d:DefRec}{K:Params->fI}(hn:l.most=some 63)(Su:d.params.defaults=[])
  (hY:∀(w:World) (h:Heap),YP w h->(K w.params).In h)
  (F:∀(w:World) (mg:Str->Option Value) (fa:Addr) (h:Heap),(K w.params).In h->h.Ns mainGlobals mg->mg d.name=some (.ref fa)->
   ∃fd:FuncData,(∀(s:Shared) (u:Value),BindsTo s fd ⟨[u],[]⟩ [("_law_script",u)])/\∀base:Heap,(K w.params).In base->base.Ns mainGlobals mg->aj l.prog w (K w.params) mg base VQ 12 fa fd ["_law_script"] (z5 (K w.params))):
  PySem.W.WalkO q loose XP YP l.row.toRowW d [] (λf vs=>PySem.call f vs):=
 L2.ya (n:=63) (k:=12) (x:="_law_script") (CX:=λ_=>VQ) (sp:=λw=>z5 (K w.params)) hn (by decide) Su ⟨rfl,by decide,by decide⟩ hY F (λ_ _ a ns hl _ hS=>⟨a,ns,rfl,hS,hl,λ_=>rfl⟩) λ_ _ _ _ _ z=>z
end
end Pg
open PySem PySem.W PyProof.Rows
set_option maxRecDepth 100000 in
set_option maxHeartbeats 0 in
theorem PySem.Challenge.cw_chanceduel_k33_whole_worths_from_both_si_holds : PySem.Challenge.rw_chanceduel_k33_whole_worths_from_both_si.Holds := by
 w_on;o_law
 refine holds_open (q:=Hd.q) (loose:=["TURNED_KINDS","mended"]) (Xt:=Hd.Xt) (XP:=XL Hd.q [])
  (Yf:=Hd.H.obs) (Ya:=Hd.H.val) (YP:=Hd.H.says) Hd.left Hd.H.of Hd.H.keeps
  (λs e=>xl_of s (Bool.and_eq_true_iff.mp e).1) XL.keeps (by rfl) (by rfl) (by rfl)
  (λs e=>recFacts_of (Bool.and_eq_true_iff.mp e).2) (by rfl) (by assumption) (by decide+kernel)
  ⟨rfl,rfl,rfl,rfl,rfl,by decide+kernel⟩ ?hw ?hc
 (case hw=>w_witness2)
 refine Pg.walk (l:=PySem.Challenge.rw_chanceduel_k33_whole_worths_from_both_si) rfl rfl (fun w h Y=>PySem.W.kIn_of Y) ?F
 case F=>
  k_fill
  intro w mg fa h KX G Ml
  refine' Pg.all_mk KX G Ml ?_ ?_ ?_ ?_ ?_ ?_ ?_ ?_ ?_ ?_ ?_ ?_ ?_ ?_ ?_ ?_ ?_ ?_ ?_ ?_ ?_ ?_ ?_ ?_ ?_ ?_ ?_ ?_ ?_ ?_ ?_ ?_ ?_ ?_ ?_ ?_ ?_ ?_ ?_ ?_ ?_ ?_ ?_ ?_ ?_ ?_ ?_ ?_ ?_ ?_ ?_ ?_ ?_ ?_ ?_ ?_ ?_ ?_ ?_ ?_ ?_ ?_ ?_ ?_ ?_ ?_ ?_ ?_ ?_ ?_ ?_ ?_ ?_ ?_ ?_ ?_ ?_ ?_ ?_ ?_ ?_ ?_ ?_ ?_ ?_ ?_ ?_ ?_ ?_ ?_ ?_ ?_ ?_ ?_ ?_ ?_ ?_ ?_ ?_ ?_ ?_ ?_ ?_ ?_ ?_ ?_ ?_ ?_ ?_ ?_ ?_ ?_
  all_goals try first | (refine' Pg.FT.of ?_ ?_ ?_ ?_ <;> try k_is) | (refine' Pg.FM.of ?_ ?_ ?_ ?_ ?_ <;> try k_is) | (refine' Pg.FV.of ?_ ?_ ?_ ?_ ?_ <;> try k_is) | k_is | k_exc | kernel_rfl
  all_goals try exact ⟨⟨_,_,rfl,rfl⟩,⟨_,_,rfl,rfl⟩,⟨_,_,rfl,rfl⟩,trivial⟩
