import PyProof.Rows.All
import Wide.All
import OpenK.AllK
import Wide.FinOn
import Lean
import PyProof.EqAt
import PyProof.EqKinds
import PyProof.TupleCall
import PyProof.NeKinds
import PyProof.ZipIter
import PyProof.DictUpdate
import PyProof.FactsAll.dict_1
import PyProof.DictIter
import PyProof.DictWalks
import PySem.Challenge.RW_chanceduel_k31_rounds_rise
set_option Elab.async false
set_option linter.all false
set_option maxRecDepth 100000
set_option maxHeartbeats 4000000
set_option compiler.extract_closed false
def aaa:=@List.getElem?_eq_getElem
def aab:=@List.getD_eq_getElem?_getD
def aae:=@List.length_map
def aaf:=@List.mem_cons_of_mem
def aah:=@List.mem_cons_self
def aai:=@List.getElem?_eq_some_iff
def aak:=@List.length_append
def aam:=@List.mem_map
def aan:=@of_decide_eq_true
def aap:=@List.mem_of_getElem?
def aaq:=@Nat.le_refl
def aar:=@Int.le_of_lt
def aas:=@List.getElem?_map
def aat:=@PySem.Heap.get?_push_of_some
def aaw:=@PySem.wpAny_bind
def aax:=@decide_eq_true_iff
def aay:=@List.getElem?_append_right
def aaC:=@Option.some.inj
def aaD:=@List.getElem?_append_left
def aaF:=@Nat.le_trans
def aaG:=@List.getElem_mem
def aaJ:=@List.mem_append_right
def aaN:=@List.length_cons
def aaQ:=@Bool.and_eq_true
def aaT:=@Int.mul_le_mul_of_nonneg_left
def aaV:=@PySem.Heap.lt_size
def aaW:=@Nat.lt_of_lt_of_le
def aa0:=@if_pos
def aa1:=@List.map_cons
def aa2:=@decide_eq_true
def aa3:=@if_neg
def aa4:=@List.map_map
def aa5:=@List.size_toArray
def aa6:=@decide_eq_false
def aa8:=@Bool.false_ne_true
def aa9:=@List.map_append
def aba:=@of_decide_eq_false
def abc:=@List.getElem?_set_self
def abe:=@absurd
def abg:=@List.mem_cons
def abh:=@List.mem_singleton
def abi:=@List.getElem?_set_ne
def abj:=@List.mem_append
def abm:=@Int.lt_of_le_of_lt
def abp:=@Int.mul_le_mul_of_nonneg_right
def abq:=@congrArg
def abt:=@PySem.wpAny_pure
def abu:=@Rat.intCast_mul
def abv:=@List.append_assoc
def abw:=@List.append_nil
def abx:=@List.nil_append
def abz:=@PySem.Heap.get?_push_size
def abB:=@List.getElem?_range
def abC:=@Int.mul_pos
def abE:=@Nat.lt_of_le_of_lt
def abF:=@Nat.ne_of_lt
def abG:=@List.mem_range
def abI:=@Int.eq_of_mul_eq_mul_left
def abJ:=@List.length_range
def abK:=@Rat.mul_le_mul_of_nonneg_left
def abN:=@Int.emod_lt_of_pos
def abO:=@List.map_congr_left
def abQ:=@Int.emod_nonneg
def abT:=@List.length_replicate
def abV:=@Int.mul_comm
def abW:=@List.length_set
def ab1:=@List.length_zip
def ab2:=@List.getElem_of_mem
def ab3:=@Rat.intCast_le_intCast
def ab4:=@Int.natAbs_mul
def ab5:=@List.exists_cons_of_ne_nil
def ab6:=@List.all_eq_true
def ab7:=@Int.mul_nonneg
def ab8:=@Int.natAbs_of_nonneg
def ab9:=@List.zip_cons_cons
def aca:=@List.nodup_cons
def acb:=@List.replicate_succ
def acd:=@Nat.lt_succ_self
def ace:=@List.length_eq_zero_iff
def acf:=@List.drop_eq_getElem_cons
def acg:=@List.lookup_cons
def ach:=@List.ext_getElem
def aci:=@Option.isSome_iff_exists
def acj:=@List.getElem?_eq_none
def ack:=@Int.mul_ediv_cancel_left
def acm:=@Int.ne_of_gt
def acn:=@Nat.lt_irrefl
def aco:=@List.set_append_left
def acp:=@Int.le_trans
def acq:=@List.range_succ_eq_map
def acr:=@Rat.intCast_lt_intCast
def acs:=@Int.toNat_natCast
def acu:=@List.flatten_cons
def acv:=@List.getElem?_zip_eq_some
def acw:=@Int.mul_le_mul
def acx:=@List.of_mem_zip
def acy:=@List.foldl_cons
def acz:=@Nat.not_lt_zero
def acA:=@Rat.mul_le_mul_of_nonneg_right
def acB:=@List.length_drop
def acC:=@Nat.pow_le_pow_right
def acD:=@List.filter_cons_of_pos
def acF:=@List.filter_cons_of_neg
def acG:=@Int.ofNat_lt
def acH:=@beq_iff_eq
def acI:=@List.take_of_length_le
def acJ:=@Option.map_eq_some_iff
def acK:=@Int.fmod_eq_emod_of_nonneg
def acL:=@Nat.le_add_right
def acM:=@Int.pow_succ
def acN:=@Int.pow_nonneg
def acO:=@Int.mul_neg_of_pos_of_neg
def acP:=@Nat.lt_succ_of_lt
def acQ:=@Int.natCast_add
def acR:=@Nat.zero_le
def acS:=@List.getElem?_replicate
def acT:=@List.all_cons
def acU:=@List.any_cons
def acV:=@PySem.wpAny_mono
def acW:=@List.drop_eq_nil_of_le
def acX:=@List.range_succ
def acY:=@List.set_set
def acZ:=@List.length_filter_le
def ac0:=@List.nodup_append
def ac1:=@Int.le_of_dvd
def ac3:=@Array.getElem?_eq_some_iff
def ac4:=@Int.fdiv_eq_ediv_of_nonneg
def ac5:=@List.mem_append_left
def ac6:=@PySem.F.slot_dict_getitem
def ac7:=@Array.getElem?_eq_getElem
def ac8:=@Int.le_of_mul_le_mul_left
def ac9:=@List.length_take
def ada:=@Int.ediv_le_self
def adb:=@List.filterMap_cons
def ade:=@List.getElem?_take_of_lt
def adf:=@Nat.min_self
def adg:=@List.mem_of_mem_eraseIdx
def adh:=@Int.lt_or_le
def adi:=@Int.lt_trans
def adj:=@List.mem_filter
def adk:=@List.mem_filterMap
def adl:=@Nat.min_eq_left
def adm:=@List.length_nil
def adn:=@Int.mul_assoc
def ado:=@List.map_take
def adp:=@List.map_drop
def adq:=@List.ext_getElem?
def ads:=@List.flatMap_cons
def adt:=@List.drop_zero
def adu:=@Nat.ne_of_gt
def adw:=@List.map_nil
def adx:=@Nat.sub_self
def ady:=@Int.dvd_zero
namespace Hd
open PySem PySem.W PyProof.Rows
def at_(i:Nat):Stmt:=PySem.Challenge.pw_chanceduel_k31_rounds_rise.main.body.getD i (.Pass ⟨0,0,0,0⟩)
def NC:Stmt->Nat->Stmt
  | .ClassDef _ _ _ b _ _ _ _ _ _ _,j=>b.getD j (.Pass ⟨0,0,0,0⟩)
  | s,_=>s
def dA:Stmt->Arguments
  | .FunctionDef _ a _ _ _ _ _ _ _ _=>a
  | _=>⟨[],[],none,[],[],none,[]⟩
def dB:Stmt->List Stmt
  | .FunctionDef _ _ b _ _ _ _ _ _ _=>b
  | _=>[]
def dS:Stmt->Scope
  | .FunctionDef _ _ _ _ _ _ c _ _ _=>c
  | _=>{kind:= .function,names:=[],isGenerator:=false,isCoroutine:=false}
abbrev row:=PySem.Challenge.rw_chanceduel_k31_rounds_rise.row
abbrev en(P:Params)(x:Str)(t:Tok)(v:Value):DictEntry:=⟨PyData.keyHash P x, .str x t,v⟩
def q:Program:={PySem.Challenge.pw_chanceduel_k31_rounds_rise with main:={PySem.Challenge.pw_chanceduel_k31_rounds_rise.main with body:=[at_ 1,at_ 2,at_ 3,at_ 4,at_ 5,at_ 6,at_ 7,at_ 9,at_ 10,at_ 11,at_ 12,at_ 13,at_ 14,at_ 16,at_ 17,at_ 18,at_ 19,at_ 20,at_ 21,at_ 22,at_ 23,at_ 24,at_ 25,at_ 27,at_ 28,at_ 29,at_ 30,at_ 31,at_ 32,at_ 33,at_ 34,at_ 36,at_ 37,at_ 38,at_ 39,at_ 40,at_ 41,at_ 42,at_ 43,at_ 45,at_ 46,at_ 47,at_ 48,at_ 49,at_ 50,at_ 51,at_ 52,at_ 53,at_ 54,at_ 56,at_ 57,at_ 59,at_ 62,at_ 63,at_ 64,at_ 65,at_ 66,at_ 67,at_ 68,at_ 69,at_ 70,at_ 71,at_ 72,at_ 73,at_ 74,at_ 75,at_ 76,at_ 77,at_ 78,at_ 79,at_ 80,at_ 81,at_ 82,at_ 83,at_ 84,at_ 85,at_ 86]}}
abbrev cO(x q:Str)(t l n f a m:Nat):Obj:=⟨.type "code",none, .fields #[.str x t, .str q (t+1), .str "/claim/cut.py" (t+2), .int l 0, .int n 0, .int 0 0, .int 0 0, .int f 0, .ref a, .bool true, .int 181 0, .ref (a+1), .none, .ref (a+2), .ref (a+3), .ref (a+4), .int m 0, .int l 0, .str "/claim/cut.py" (m+1)], #[]⟩
abbrev dO(x q:Str)(t l n f a m:Nat):Obj:=⟨.type "code",none, .fields #[.str x t, .str q (t+1), .str "/claim/cut.py" (t+2), .int l 0, .int n 0, .int 0 0, .int 0 0, .int f 0, .ref a, .bool true, .int 181 0, .ref (a+1), .none, .none, .none, .ref (a+2), .int m 0, .int l 0, .str "/claim/cut.py" (m+1)], #[]⟩
abbrev fO(x q:Str)(s:Stmt)(m:Value)(c:Nat):Obj:=⟨.type "function",none, .func ⟨x,q,(dA s), .stmts (dB s),(dS s),3,[], .none, .none, .none,m,none, .ref c, .none,0⟩, #[]⟩
abbrev m0:Value:= .str "chanceduel.parts" 341
abbrev m1:Value:= .str "chanceduel.places" 395
abbrev m2:Value:= .str "chanceduel.floors" 453
abbrev m3:Value:= .str "chanceduel.rows" 606
abbrev m4:Value:= .str "chanceduel.plans" 682
abbrev m5:Value:= .str "chanceduel.answers" 773
abbrev m6:Value:= .str "chanceduel.mending" 798
abbrev m7:Value:= .str "law_chanceduel_k31_rounds_rise" 823
noncomputable def K:Params->Frag:=λP=>
(nat_lit 2,⟨.none,none,(.dict #[] 0), #[]⟩)::
(nat_lit 3,⟨(.type "dict"),none,(.dict #[(en P "__name__" 165 m7),(en P "__doc__" 166 .none),(en P "__package__" 167 .none),(en P "__loader__" 168 (.builtin "__main__.__loader__#opaque")),(en P "__spec__" 169 .none),(en P "__annotations__" 170 (.ref 6)),(en P "__builtins__" 171 (.ref 4)),(en P "__file__" 173 (.str "/claim/cut.py" 172)),(en P "__cached__" 174 .none),(en P "DuelError" 206 (.ref 24)),(en P "NoNumber" 222 (.ref 37)),(en P "NoFloor" 238 (.ref 49)),(en P "NoPlace" 263 (.ref 68)),(en P "NoAnswer" 288 (.ref 87)),(en P "ManyAnswers" 315 (.ref 106)),(en P "NoPlan" 340 (.ref 125)),(en P "common_divisor" 353 (.ref 134)),(en P "fraction" 362 (.ref 141)),(en P "plus" 370 (.ref 148)),(en P "minus" 378 (.ref 155)),(en P "times" 386 (.ref 162)),(en P "under" 394 (.ref 169)),(en P "HANDS" 399 (.ref 170)),(en P "MOST_DOORS" 401 (.int 6 400)),(en P "MOST_BOTTOM" 403 (.int 1000000 402)),(en P "fits_pay" 410 (.ref 177)),(en P "fits_door" 418 (.ref 184)),(en P "common_bottom" 427 (.ref 191)),(en P "fits_chances" 433 (.ref 196)),(en P "fits_doors" 439 (.ref 201)),(en P "fits_row" 445 (.ref 206)),(en P "copied_row" 452 (.ref 213)),(en P "MOST_PLACES" 456 (.int 12 455)),(en P "MOST_SHARE_BOTTOM" 458 (.int 1000 457)),(en P "TURNED_KINDS" 468 (.ref 214)),(en P "fits_share" 475 (.ref 221)),(en P "weighed" 486 (.ref 228)),(en P "greatest" 495 (.ref 235)),(en P "least" 504 (.ref 242)),(en P "Floor" 605 (.ref 319)),(en P "with_weights" 618 (.ref 330)),(en P "number_of_head" 628 (.ref 337)),(en P "moved_ahead" 637 (.ref 344)),(en P "cleared_line" 643 (.ref 349)),(en P "cleared" 649 (.ref 354)),(en P "quotients" 662 (.ref 361)),(en P "still_of" 668 (.ref 366)),(en P "answer_of" 681 (.ref 373)),(en P "places_of" 689 (.ref 378)),(en P "first_plan" 699 (.ref 385)),(en P "has_door" 708 (.ref 392)),(en P "doors_of" 719 (.ref 399)),(en P "better_doors" 731 (.ref 406)),(en P "ways_from" 741 (.ref 413)),(en P "whole_row" 747 (.ref 418)),(en P "led_row" 760 (.ref 425)),(en P "row_of" 766 (.ref 430)),(en P "worths_by" 772 (.ref 435)),(en P "worths_against" 784 (.ref 442)),(en P "against" 797 (.ref 449)),(en P "started" 808 (.ref 456)),(en P "mended" 822 (.ref 464)),(en P "_law_at" 834 (.ref 471)),(en P "_law_stream" 845 (.ref 478)),(en P "_law_lowest" 855 (.ref 485)),(en P "_law_pay" 864 (.ref 492)),(en P "_law_doors" 870 (.ref 497)),(en P "_law_by_digits" 877 (.ref 504)),(en P "_law_things" 890 (.ref 511)),(en P "_law_share_of" 900 (.ref 518)),(en P "_law_floor" 920 (.ref 525)),(en P "_law_copy" 926 (.ref 530)),(en P "_law_plan" 942 (.ref 537)),(en P "_law_less" 950 (.ref 544)),(en P "_law_shown" 961 (.ref 551)),(en P "_law_due" 967 (.ref 556)),(en P "_law_whole" 974 (.ref 563)),(en P "_law_table" 983 (.ref 570)),(en P "_law_plan_told" 989 (.ref 575)),(en P "_law_rounds_told" 999 (.ref 582)),(en P "_law_gap" 1007 (.ref 589)),(en P "_law_rises" 1022 (.ref 596)),(en P "_law_shut" 1033 (.ref 603)),(en P "_law_mended" 1043 (.ref 610)),(en P "_law_right" 1056 (.ref 617)),(en P "_law_asked" 1074 (.ref 624)),(en P "law" 1080 (.ref 629))] 87), #[]⟩)::
(nat_lit 23,⟨(.type "dict"),none,(.dict #[(en P "__module__" 196 (.str "chanceduel.errors" 187)),(en P "__firstlineno__" 200 (.int 2 199)),(en P "__static_attributes__" 201 (.ref 22)),(en P "__weakref__" 203 (.ref 25)),(en P "__doc__" 204 .none)] 3), #[]⟩)::
(nat_lit 24,⟨(.type "type"),none,(.cls ⟨"DuelError",[(.type "ValueError")],[(.ref 24),(.type "ValueError"),(.type "Exception"),(.type "BaseException"),(.type "object")],23,"DuelError",true,[],[(.ref 37),(.ref 49),(.ref 68),(.ref 87),(.ref 106),(.ref 125)],false,none,false⟩), #[(some (.ref 15)),none,(some (.str "DuelError" 189)),(some (.str "DuelError" 197)),(some (.builtin "ValueError.__new__")),(some (.bool true))]⟩)::
(nat_lit 37,⟨(.type "type"),none,(.cls ⟨"NoNumber",[(.ref 24)],[(.ref 37),(.ref 24),(.type "ValueError"),(.type "Exception"),(.type "BaseException"),(.type "object")],36,"NoNumber",true,[],[],false,none,false⟩), #[(some (.ref 28)),none,(some (.str "NoNumber" 207)),(some (.str "NoNumber" 215)),(some (.builtin "ValueError.__new__")),(some (.bool true))]⟩)::
(nat_lit 49,⟨(.type "type"),none,(.cls ⟨"NoFloor",[(.ref 24)],[(.ref 49),(.ref 24),(.type "ValueError"),(.type "Exception"),(.type "BaseException"),(.type "object")],48,"NoFloor",true,[],[],false,none,false⟩), #[(some (.ref 40)),none,(some (.str "NoFloor" 223)),(some (.str "NoFloor" 231)),(some (.builtin "ValueError.__new__")),(some (.bool true))]⟩)::
(nat_lit 68,⟨(.type "type"),none,(.cls ⟨"NoPlace",[(.ref 24)],[(.ref 68),(.ref 24),(.type "ValueError"),(.type "Exception"),(.type "BaseException"),(.type "object")],67,"NoPlace",true,[],[],false,none,false⟩), #[(some (.ref 52)),none,(some (.str "NoPlace" 239)),(some (.str "NoPlace" 247)),(some (.builtin "ValueError.__new__")),(some (.bool true))]⟩)::
(nat_lit 87,⟨(.type "type"),none,(.cls ⟨"NoAnswer",[(.ref 24)],[(.ref 87),(.ref 24),(.type "ValueError"),(.type "Exception"),(.type "BaseException"),(.type "object")],86,"NoAnswer",true,[],[],false,none,false⟩), #[(some (.ref 71)),none,(some (.str "NoAnswer" 264)),(some (.str "NoAnswer" 272)),(some (.builtin "ValueError.__new__")),(some (.bool true))]⟩)::
(nat_lit 106,⟨(.type "type"),none,(.cls ⟨"ManyAnswers",[(.ref 24)],[(.ref 106),(.ref 24),(.type "ValueError"),(.type "Exception"),(.type "BaseException"),(.type "object")],105,"ManyAnswers",true,[],[],false,none,false⟩), #[(some (.ref 90)),none,(some (.str "ManyAnswers" 289)),(some (.str "ManyAnswers" 297)),(some (.builtin "ValueError.__new__")),(some (.bool true))]⟩)::
(nat_lit 125,⟨(.type "type"),none,(.cls ⟨"NoPlan",[(.ref 24)],[(.ref 125),(.ref 24),(.type "ValueError"),(.type "Exception"),(.type "BaseException"),(.type "object")],124,"NoPlan",true,[],[],false,none,false⟩), #[(some (.ref 109)),none,(some (.str "NoPlan" 316)),(some (.str "NoPlan" 324)),(some (.builtin "ValueError.__new__")),(some (.bool true))]⟩)::
(nat_lit 133,cO "common_divisor" "common_divisor" 343 30 2 3 128 351)::
(nat_lit 134,fO "common_divisor" "common_divisor" (at_ 9) m0 133)::
(nat_lit 140,cO "fraction" "fraction" 354 38 2 3 135 360)::
(nat_lit 141,fO "fraction" "fraction" (at_ 10) m0 140)::
(nat_lit 147,cO "plus" "plus" 363 45 2 3 142 368)::
(nat_lit 148,fO "plus" "plus" (at_ 11) m0 147)::
(nat_lit 154,cO "minus" "minus" 371 47 2 3 149 376)::
(nat_lit 155,fO "minus" "minus" (at_ 12) m0 154)::
(nat_lit 161,cO "times" "times" 379 49 2 3 156 384)::
(nat_lit 162,fO "times" "times" (at_ 13) m0 161)::
(nat_lit 168,cO "under" "under" 387 51 2 3 163 392)::
(nat_lit 169,fO "under" "under" (at_ 14) m0 168)::
(nat_lit 170,⟨(.type "tuple"),none,(.seq #[(.str "one" 397),(.str "other" 398)] 0), #[]⟩)::
(nat_lit 176,cO "fits_pay" "fits_pay" 404 57 1 3 171 408)::
(nat_lit 177,fO "fits_pay" "fits_pay" (at_ 19) m1 176)::
(nat_lit 183,cO "fits_door" "fits_door" 411 59 2 3 178 416)::
(nat_lit 184,fO "fits_door" "fits_door" (at_ 20) m1 183)::
(nat_lit 190,cO "common_bottom" "common_bottom" 419 61 1 3 185 425)::
(nat_lit 191,fO "common_bottom" "common_bottom" (at_ 21) m1 190)::
(nat_lit 195,dO "fits_chances" "fits_chances" 428 66 1 3 192 431)::
(nat_lit 196,fO "fits_chances" "fits_chances" (at_ 22) m1 195)::
(nat_lit 200,dO "fits_doors" "fits_doors" 434 72 2 3 197 437)::
(nat_lit 201,fO "fits_doors" "fits_doors" (at_ 23) m1 200)::
(nat_lit 205,dO "fits_row" "fits_row" 440 76 2 3 202 443)::
(nat_lit 206,fO "fits_row" "fits_row" (at_ 24) m1 205)::
(nat_lit 212,cO "copied_row" "copied_row" 446 85 1 3 207 450)::
(nat_lit 213,fO "copied_row" "copied_row" (at_ 25) m1 212)::
(nat_lit 214,⟨(.type "dict"),none,(.dict #[(en P "one" 459 (.str "other" 460)),(en P "other" 461 (.str "one" 462)),(en P "chance" 463 (.str "chance" 464))] 3), #[]⟩)::
(nat_lit 220,cO "fits_share" "fits_share" 469 93 1 3 215 473)::
(nat_lit 221,fO "fits_share" "fits_share" (at_ 30) m2 220)::
(nat_lit 227,cO "weighed" "weighed" 476 95 2 3 222 484)::
(nat_lit 228,fO "weighed" "weighed" (at_ 31) m2 227)::
(nat_lit 234,cO "greatest" "greatest" 487 100 1 3 229 493)::
(nat_lit 235,fO "greatest" "greatest" (at_ 32) m2 234)::
(nat_lit 241,cO "least" "least" 496 106 1 3 236 502)::
(nat_lit 242,fO "least" "least" (at_ 33) m2 241)::
(nat_lit 253,dO "__init__" "Floor.__init__" 517 114 3 3 250 520)::
(nat_lit 254,fO "__init__" "Floor.__init__" (NC (at_ 34) 0) m2 253)::
(nat_lit 260,cO "size" "Floor.size" 523 125 1 3 255 527)::
(nat_lit 261,fO "size" "Floor.size" (NC (at_ 34) 1) m2 260)::
(nat_lit 267,cO "share" "Floor.share" 530 128 1 3 262 534)::
(nat_lit 268,fO "share" "Floor.share" (NC (at_ 34) 2) m2 267)::
(nat_lit 274,cO "kind" "Floor.kind" 537 131 2 3 269 542)::
(nat_lit 275,fO "kind" "Floor.kind" (NC (at_ 34) 3) m2 274)::
(nat_lit 281,cO "doors" "Floor.doors" 545 134 2 3 276 550)::
(nat_lit 282,fO "doors" "Floor.doors" (NC (at_ 34) 4) m2 281)::
(nat_lit 288,cO "pay" "Floor.pay" 553 139 2 3 283 558)::
(nat_lit 289,fO "pay" "Floor.pay" (NC (at_ 34) 5) m2 288)::
(nat_lit 300,cO "shown" "Floor.shown" 567 147 4 3 295 575)::
(nat_lit 301,fO "shown" "Floor.shown" (NC (at_ 34) 7) m2 300)::
(nat_lit 305,dO "all_shown" "Floor.all_shown" 578 151 3 3 302 581)::
(nat_lit 306,fO "all_shown" "Floor.all_shown" (NC (at_ 34) 8) m2 305)::
(nat_lit 310,dO "look" "Floor.look" 584 154 3 3 307 587)::
(nat_lit 311,fO "look" "Floor.look" (NC (at_ 34) 9) m2 310)::
(nat_lit 315,dO "best" "Floor.best" 590 164 3 3 312 593)::
(nat_lit 316,fO "best" "Floor.best" (NC (at_ 34) 10) m2 315)::
(nat_lit 318,⟨(.type "dict"),none,(.dict #[(en P "__module__" 512 m2),(en P "__firstlineno__" 516 (.int 112 515)),(en P "__init__" 522 (.ref 254)),(en P "size" 529 (.ref 261)),(en P "share" 536 (.ref 268)),(en P "kind" 544 (.ref 275)),(en P "doors" 552 (.ref 282)),(en P "pay" 560 (.ref 289)),(en P "rows" 566 (.ref 294)),(en P "shown" 577 (.ref 301)),(en P "all_shown" 583 (.ref 306)),(en P "look" 589 (.ref 311)),(en P "best" 595 (.ref 316)),(en P "__static_attributes__" 598 (.ref 317)),(en P "__dict__" 600 (.ref 320)),(en P "__weakref__" 602 (.ref 321)),(en P "__doc__" 603 .none)] 4), #[]⟩)::
(nat_lit 319,⟨(.type "type"),none,(.cls ⟨"Floor",[(.type "object")],[(.ref 319),(.type "object")],318,"Floor",true,[],[],false,none,false⟩), #[none,none,(some (.str "Floor" 505)),(some (.str "Floor" 513)),(some (.builtin "object.__new__")),(some (.bool true))]⟩)::
(nat_lit 329,cO "with_weights" "with_weights" 608 170 1 3 324 616)::
(nat_lit 330,fO "with_weights" "with_weights" (at_ 36) m3 329)::
(nat_lit 336,cO "number_of_head" "number_of_head" 619 177 3 3 331 626)::
(nat_lit 337,fO "number_of_head" "number_of_head" (at_ 37) m3 336)::
(nat_lit 343,cO "moved_ahead" "moved_ahead" 629 182 3 3 338 635)::
(nat_lit 344,fO "moved_ahead" "moved_ahead" (at_ 38) m3 343)::
(nat_lit 348,dO "cleared_line" "cleared_line" 638 184 4 3 345 641)::
(nat_lit 349,fO "cleared_line" "cleared_line" (at_ 39) m3 348)::
(nat_lit 353,dO "cleared" "cleared" 644 186 2 3 350 647)::
(nat_lit 354,fO "cleared" "cleared" (at_ 40) m3 353)::
(nat_lit 360,cO "quotients" "quotients" 650 203 4 3 355 660)::
(nat_lit 361,fO "quotients" "quotients" (at_ 41) m3 360)::
(nat_lit 372,cO "answer_of" "answer_of" 669 213 1 3 367 679)::
(nat_lit 373,fO "answer_of" "answer_of" (at_ 43) m3 372)::
(nat_lit 377,dO "places_of" "places_of" 684 226 2 3 374 687)::
(nat_lit 378,fO "places_of" "places_of" (at_ 45) m4 377)::
(nat_lit 384,cO "first_plan" "first_plan" 690 228 2 3 379 697)::
(nat_lit 385,fO "first_plan" "first_plan" (at_ 46) m4 384)::
(nat_lit 391,cO "has_door" "has_door" 700 233 3 3 386 706)::
(nat_lit 392,fO "has_door" "has_door" (at_ 47) m4 391)::
(nat_lit 398,cO "doors_of" "doors_of" 709 235 2 3 393 717)::
(nat_lit 399,fO "doors_of" "doors_of" (at_ 48) m4 398)::
(nat_lit 405,cO "better_doors" "better_doors" 720 245 3 3 400 729)::
(nat_lit 406,fO "better_doors" "better_doors" (at_ 49) m4 405)::
(nat_lit 412,cO "ways_from" "ways_from" 732 252 3 3 407 739)::
(nat_lit 413,fO "ways_from" "ways_from" (at_ 50) m4 412)::
(nat_lit 417,dO "whole_row" "whole_row" 742 257 1 3 414 745)::
(nat_lit 418,fO "whole_row" "whole_row" (at_ 51) m4 417)::
(nat_lit 424,cO "led_row" "led_row" 748 260 5 3 419 758)::
(nat_lit 425,fO "led_row" "led_row" (at_ 52) m4 424)::
(nat_lit 429,dO "row_of" "row_of" 761 266 3 3 426 764)::
(nat_lit 430,fO "row_of" "row_of" (at_ 53) m4 429)::
(nat_lit 434,dO "worths_by" "worths_by" 767 272 2 3 431 770)::
(nat_lit 435,fO "worths_by" "worths_by" (at_ 54) m4 434)::
(nat_lit 441,cO "worths_against" "worths_against" 775 275 3 3 436 782)::
(nat_lit 442,fO "worths_against" "worths_against" (at_ 56) m5 441)::
(nat_lit 448,cO "against" "against" 785 279 3 3 443 795)::
(nat_lit 449,fO "against" "against" (at_ 57) m5 448)::
(nat_lit 455,cO "started" "started" 800 290 3 3 450 806)::
(nat_lit 456,fO "started" "started" (at_ 59) m6 455)::
(nat_lit 457,⟨(.type "tuple"),none,(.seq #[(.str "one" 809), .none] 0), #[]⟩)::
(nat_lit 463,cO "mended" "mended" 810 294 3 3 458 820)::
(nat_lit 464,⟨(.type "function"),none,(.func ⟨"mended","mended",(dA (at_ 60)),(.stmts (dB (at_ 60))),(dS (at_ 60)),3,[],(.ref 457), .none, .none,m6,none,(.ref 463), .none,0⟩), #[]⟩)::
(nat_lit 470,cO "_law_at" "_law_at" 825 305 2 3 465 832)::
(nat_lit 471,fO "_law_at" "_law_at" (at_ 62) m7 470)::
(nat_lit 477,cO "_law_stream" "_law_stream" 835 312 2 3 472 843)::
(nat_lit 478,fO "_law_stream" "_law_stream" (at_ 63) m7 477)::
(nat_lit 484,cO "_law_lowest" "_law_lowest" 846 319 2 3 479 853)::
(nat_lit 485,fO "_law_lowest" "_law_lowest" (at_ 64) m7 484)::
(nat_lit 491,cO "_law_pay" "_law_pay" 856 324 2 3 486 862)::
(nat_lit 492,fO "_law_pay" "_law_pay" (at_ 65) m7 491)::
(nat_lit 496,dO "_law_doors" "_law_doors" 865 329 4 3 493 868)::
(nat_lit 497,fO "_law_doors" "_law_doors" (at_ 66) m7 496)::
(nat_lit 503,cO "_law_by_digits" "_law_by_digits" 871 338 1 3 498 875)::
(nat_lit 504,fO "_law_by_digits" "_law_by_digits" (at_ 67) m7 503)::
(nat_lit 510,cO "_law_things" "_law_things" 878 340 4 3 505 888)::
(nat_lit 511,fO "_law_things" "_law_things" (at_ 68) m7 510)::
(nat_lit 517,cO "_law_share_of" "_law_share_of" 891 349 2 3 512 898)::
(nat_lit 518,fO "_law_share_of" "_law_share_of" (at_ 69) m7 517)::
(nat_lit 524,cO "_law_floor" "_law_floor" 901 353 1 3 519 918)::
(nat_lit 525,fO "_law_floor" "_law_floor" (at_ 70) m7 524)::
(nat_lit 529,dO "_law_copy" "_law_copy" 921 375 1 3 526 924)::
(nat_lit 530,fO "_law_copy" "_law_copy" (at_ 71) m7 529)::
(nat_lit 536,cO "_law_plan" "_law_plan" 927 377 4 3 531 940)::
(nat_lit 537,fO "_law_plan" "_law_plan" (at_ 72) m7 536)::
(nat_lit 543,cO "_law_less" "_law_less" 943 388 2 3 538 948)::
(nat_lit 544,fO "_law_less" "_law_less" (at_ 73) m7 543)::
(nat_lit 550,cO "_law_shown" "_law_shown" 951 390 3 3 545 959)::
(nat_lit 551,fO "_law_shown" "_law_shown" (at_ 74) m7 550)::
(nat_lit 555,dO "_law_due" "_law_due" 962 394 4 3 552 965)::
(nat_lit 556,fO "_law_due" "_law_due" (at_ 75) m7 555)::
(nat_lit 562,cO "_law_whole" "_law_whole" 968 413 1 3 557 972)::
(nat_lit 563,fO "_law_whole" "_law_whole" (at_ 76) m7 562)::
(nat_lit 569,cO "_law_table" "_law_table" 975 415 2 3 564 981)::
(nat_lit 570,fO "_law_table" "_law_table" (at_ 77) m7 569)::
(nat_lit 574,dO "_law_plan_told" "_law_plan_told" 984 424 3 3 571 987)::
(nat_lit 575,fO "_law_plan_told" "_law_plan_told" (at_ 78) m7 574)::
(nat_lit 581,cO "_law_rounds_told" "_law_rounds_told" 990 432 3 3 576 997)::
(nat_lit 582,fO "_law_rounds_told" "_law_rounds_told" (at_ 79) m7 581)::
(nat_lit 588,cO "_law_gap" "_law_gap" 1000 443 2 3 583 1005)::
(nat_lit 589,fO "_law_gap" "_law_gap" (at_ 80) m7 588)::
(nat_lit 595,cO "_law_rises" "_law_rises" 1008 445 5 3 590 1020)::
(nat_lit 596,fO "_law_rises" "_law_rises" (at_ 81) m7 595)::
(nat_lit 602,cO "_law_shut" "_law_shut" 1023 458 3 3 597 1031)::
(nat_lit 603,fO "_law_shut" "_law_shut" (at_ 82) m7 602)::
(nat_lit 609,cO "_law_mended" "_law_mended" 1034 464 4 3 604 1041)::
(nat_lit 610,fO "_law_mended" "_law_mended" (at_ 83) m7 609)::
(nat_lit 616,cO "_law_right" "_law_right" 1044 476 5 3 611 1054)::
(nat_lit 617,fO "_law_right" "_law_right" (at_ 84) m7 616)::
(nat_lit 623,cO "_law_asked" "_law_asked" 1057 486 5 3 618 1072)::
(nat_lit 624,fO "_law_asked" "_law_asked" (at_ 85) m7 623)::
(nat_lit 628,dO "law" "law" 1075 499 1 3 625 1078)::
(nat_lit 629,fO "law" "law" (at_ 86) m7 628)::[]
noncomputable abbrev H:Hook:=kHook K [2,3,23,24,37,49,68,87,106,125,133,134,140,141,147,148,154,155,161,162,168,169,170,176,177,183,184,190,191,195,196,200,201,205,206,212,213,214,220,221,227,228,234,235,241,242,253,254,260,261,267,268,274,275,281,282,288,289,300,301,305,306,310,311,315,316,318,319,329,330,336,337,343,344,348,349,353,354,360,361,372,373,377,378,384,385,391,392,398,399,405,406,412,413,417,418,424,425,429,430,434,435,441,442,448,449,455,456,457,463,464,470,471,477,478,484,485,491,492,496,497,503,504,510,511,517,518,524,525,529,530,536,537,543,544,550,551,555,556,562,563,569,570,574,575,581,582,588,589,595,596,602,603,609,610,616,617,623,624,628,629] (λ_=>by kernel_rfl)
abbrev Xt:Shared->Bool:=λs=>xlAt q [] s&&recOk (RowW.records row.toRowW) s
theorem abX{A B C:Type}{o:Option C}{f:C->A}{g:C->B}{a:A}{b:B}(h:o.map f=some a)(k:o.map g=some b):o.map (λs=>(f s,g s))=some (a,b):=by
  cases o with
  | none=>exact nomatch h
  | some c=>injection h with h;injection k with k;subst h;subst k;rfl
section
variable{A B C D E F G X:Type}{o:Option X}{f:X->A×B×C×D×E×F×G}{t:A×B×C×D×E×F×G}
def p1:A×B×C×D×E×F×G->A
  | (a,_,_,_,_,_,_)=>a
def p2:A×B×C×D×E×F×G->B×C
  | (_,b,c,_,_,_,_)=>(b,c)
def p3:A×B×C×D×E×F×G->D
  | (_,_,_,d,_,_,_)=>d
def p5:A×B×C×D×E×F×G->E
  | (_,_,_,_,e,_,_)=>e
def p6:A×B×C×D×E×F×G->F
  | (_,_,_,_,_,f,_)=>f
def p4:A×B×C×D×E×F×G->G
  | (_,_,_,_,_,_,g)=>g
theorem pr(h:o.map (λx=>p1 (f x))=some t.1)(g:o.map (λx=>p2 (f x))=some (t.2.1,t.2.2.1))(k:o.map (λx=>p3 (f x))=some t.2.2.2.1)(k1:o.map (λx=>p5 (f x))=some t.2.2.2.2.1)(k2:o.map (λx=>p6 (f x))=some t.2.2.2.2.2.1)(l:o.map (λx=>p4 (f x))=some t.2.2.2.2.2.2):o.map f=some t:=by
  cases o with
  | none=>exact nomatch h
  | some x=>
    replace h:p1 (f x)=t.1:=aaC h;replace g:p2 (f x)=(t.2.1,t.2.2.1):=aaC g;replace k:p3 (f x)=t.2.2.2.1:=aaC k;replace k1:p5 (f x)=t.2.2.2.2.1:=aaC k1;replace k2:p6 (f x)=t.2.2.2.2.2.1:=aaC k2;replace l:p4 (f x)=t.2.2.2.2.2.2:=aaC l;show some (f x)=some t;revert h g k k1 k2 l;generalize f x=u;obtain ⟨a,b,c,d,e,f',y⟩:=u;obtain ⟨a',b',c',d',e',f'',y'⟩:=t;intro h g k k1 k2 l;cases (h:a=a');cases (g:(b,c)=(b',c'));cases (k:d=d');cases (k1:e=e');cases (k2:f'=f'');cases (l:y=y');rfl
end
def Ym{A B:Type}(o:Option A)(c:A->Bool)(T:A->Option B):Option (A×B):=o.bind λa=>match c a with
  | true=>(T a).map λb=>(a,b)
  | false=>none
def X2 {A B:Type} (o:Option A) (c:A->Bool) (T:A->Option B) (k:A->B->Bool):Option B:=o.bind λa=>match c a with
  | true=>(T a).bind λb=>match k a b with
    | true=>some b
    | false=>none
  | false=>none
theorem bnd {A B C:Type} {o:Option A} {c:A->Bool} {T:A->Option B} {k:A->B->Bool} {g:B->C} {v:C} (h:(Ym o c T).map (λx=>k x.1 x.2)=some true) (l:(Ym o c T).map (λx=>g x.2)=some v):(X2 o c T k).map g=some v:=by
  unfold Ym at h l;unfold X2;cases o with
  | none=>exact nomatch h
  | some a=>
    dsimp only [Option.bind] at h l⊢;cases hc:c a with
    | false=>rw [hc] at h;exact nomatch h
    | true=>
      rw [hc] at h l;dsimp only at h l⊢;cases hT:T a with
      | none=>rw [hT] at h;exact nomatch h
      | some b=>
        rw [hT] at h l;injection h with h;injection l with l
        dsimp only [Option.bind];rw [show k a b=true from h];exact abq some l
noncomputable abbrev oA(p:Program)(w:World)(N:Nat):Option Shared:=(Fast.tw10274390034422433532 Fast.tw14364793385576792824 (opening p) w N (Fast.tw1435165496053646825 (opening p)).1 (Fast.tw1435165496053646825 (opening p)).2).bind (fenceModules? p)
abbrev cA(s:Shared):Bool:=s.heap.isNs mainGlobals&&s.gens.size==0
noncomputable abbrev tA(p:Program)(w:World)(N:Nat)(s₀:Shared):Option Shared:=Fast.tw14082659384304107361 Fast.tw14364793385576792824 p w s₀.heap.objs.size (s₀.heap.nsMap mainGlobals "__annotations__") N s₀ (topStub p)
abbrev kA(p:Program)(s₀ s₁:Shared):Bool:=staticsOk (importedModules p.main.body) s₀.heap s₁.heap&&namesBound p s₁.heap&&gensDone s₁&&laidKept s₀.heap s₁.heap
theorem oe(p:Program)(w:World)(N:Nat):openEnds treeTable p w N=X2 (oA p w N) cA (tA p w N) (kA p):=by unfold openEnds fencedOpening topFrom X2 oA tA;rewrite [Fast.te14082659384304107361,Fast.te14364793385576792824,Fast.te10274390034422433532,Fast.te1435165496053646825];rfl
noncomputable abbrev go(w:World):=Ym (oA row.prog w 8692) cA (tA row.prog w 8692)
abbrev gd:=openGood q ["TURNED_KINDS","mended"]
noncomputable abbrev sn(x:Shared×Shared):=Fast.tw4187177175401517315 q ["TURNED_KINDS","mended"] (importedModules row.prog.main.body) Xt true x.2
noncomputable abbrev sg(x:Shared×Shared):=plainSeenE q (looseW q ["TURNED_KINDS","mended"]) x.2
theorem p7:∀q L I X b s,p6 (openSeen q L I X b s)=plainSeenE q (looseW q L) s:=λ_ _ _ _ _ _=>rfl
theorem p8{w:World}{g}(h:(go w).map sg=some g):(go w).map (λx=>p6 (sn x))=some g:=by
  have e:(λx=>p6 (sn x))=sg:=funext λx=>(congrArg (λf=>p6 (f q ["TURNED_KINDS","mended"] (importedModules row.prog.main.body) Xt true x.2)) Fast.te4187177175401517315.symm).trans (p7 q ["TURNED_KINDS","mended"] (importedModules row.prog.main.body) Xt true x.2)
  rw [e];exact h
abbrev Lf(w:World):Prop:=(openEnds treeTable row.prog w 8692).map (λs=>(openSeen q ["TURNED_KINDS","mended"] (importedModules row.prog.main.body) Xt true s,H.obs s))=some (openGood q ["TURNED_KINDS","mended"],H.val w)
theorem mS{α β γ}{o:Option α}{f:α->β}{g:α->γ}{a b}(h:o.map (λx=>(f x,g x))=some (a,b)):o.map f=some a∧o.map g=some b:=by cases o<;>simp_all
theorem lf{w:World}(la:(go w).map (λx=>p1 (sn x))=some gd.1)(lc:(go w).map (λx=>p3 (sn x))=some gd.2.2.2.1)(lg:(go w).map sg=some gd.2.2.2.2.2.1)(h:(go w).map (λx=>(p2 (sn x),p5 (sn x),p4 (sn x)))=some ((gd.2.1,gd.2.2.1),gd.2.2.2.2.1,gd.2.2.2.2.2.2))(u:(go w).map (λx=>(kA row.prog x.1 x.2,H.obs x.2))=some (true,(H.val w))):Lf w:=abX (by
    rewrite [oe,Fast.te4187177175401517315]
    exact bnd (mS u).1 (pr la (mS h).1 lc (mS (mS h).2).1 (p8 lg) (mS (mS h).2).2)) (by
    rewrite [oe]
    exact bnd (mS u).1 (mS u).2)
noncomputable abbrev g0(w:World):=go (w.withFollow "special-get-raises" false)
theorem la0(w:World):(g0 w).map (λx=>p1 (sn x))=some gd.1:=by kernel_rfl
theorem lc0(w:World):(g0 w).map (λx=>p3 (sn x))=some gd.2.2.2.1:=by kernel_rfl
theorem lg0(w:World):(g0 w).map sg=some gd.2.2.2.2.2.1:=by kernel_rfl
theorem lh0(w:World):(g0 w).map (λx=>(p2 (sn x),p5 (sn x),p4 (sn x)))=some ((gd.2.1,gd.2.2.1),gd.2.2.2.2.1,gd.2.2.2.2.2.2):=by kernel_rfl
theorem lo0(w:World):(g0 w).map (λx=>(kA row.prog x.1 x.2,H.obs x.2))=some (true,(H.val (w.withFollow "special-get-raises" false))):=by kernel_rfl
noncomputable abbrev g1(w:World):=go (w.withFollow "special-get-raises" true)
theorem la1(w:World):(g1 w).map (λx=>p1 (sn x))=some gd.1:=by kernel_rfl
theorem lc1(w:World):(g1 w).map (λx=>p3 (sn x))=some gd.2.2.2.1:=by kernel_rfl
theorem lg1(w:World):(g1 w).map sg=some gd.2.2.2.2.2.1:=by kernel_rfl
theorem lh1(w:World):(g1 w).map (λx=>(p2 (sn x),p5 (sn x),p4 (sn x)))=some ((gd.2.1,gd.2.2.1),gd.2.2.2.2.1,gd.2.2.2.2.2.2):=by kernel_rfl
theorem lo1(w:World):(g1 w).map (λx=>(kA row.prog x.1 x.2,H.obs x.2))=some (true,(H.val (w.withFollow "special-get-raises" true))):=by kernel_rfl
theorem left:LeftO row.prog q ["TURNED_KINDS","mended"] Xt H.obs H.val 8692:=byRow2 "special-get-raises" (P:=Lf) (λw=>lf (la0 w) (lc0 w) (lg0 w) (lh0 w) (lo0 w)) (λw=>lf (la1 w) (lc1 w) (lg1 w) (lh1 w) (lo1 w))
end Hd
local macro_rules|`(())=>`(by omega)
local macro_rules|`(@_)=>`(by decide)
open Lean in
def rpt:Nat → Term → MacroM (TSyntax `rcasesPat)
|0,_=>Macro.throwUnsupported
|n+1,t=>match t with
|`(($c,$d,*))=>do rpt n (←`(⟨$c,$d,*⟩))
|`(⟨$a,*⟩)=>do
 let b←a.getElems.mapM (rpt n)
 let b←b.mapM λp=>`(Lean.Parser.Tactic.rcasesPatLo|$p:rcasesPat)
 `(rcasesPat|⟨$b,*⟩)
|`(_)=>`(rcasesPat|_)
|`($x:ident)=>`(rcasesPat|$x:ident)
|_=>Macro.throwUnsupported
open Lean in
local macro_rules|`(tactic|have ⟨$a,*⟩:=$e)=>do
 let p←rpt 99 (←`(⟨$a,*⟩))
 `(tactic|obtain $p:rcasesPat:=$e)
open Lean in
local macro_rules|`(λ$xs*=>$b)=>do
 let mut ys:=#[]
 let mut ts:=#[]
 if (←MonadRef.getRef)[0].isToken "fun" then Macro.throwUnsupported
 for x in xs do
  if x.1.isOfKind `Lean.Parser.Term.anonymousCtor||x.1.isOfKind `Lean.Parser.Term.tuple then
   let p←rpt 99 ⟨x.1⟩
   let y←withFreshMacroScope `(h)
   ys:=ys.push y
   ts:=ts.push (←`(tactic|obtain $p:rcasesPat:=$y))
  else ys:=ys.push ⟨x.1⟩
 if ts.isEmpty then Macro.throwUnsupported
 `(λ$ys*=>by{$[$ts]*;exact $b})
set_option hygiene false in
local macro_rules|`($g &&& ($F,$a,$n))=>`(mc $g (($F).binds λ_ _ _ _ _ _=>$n) (mg_of X G $a) ($F).kp)
set_option hygiene false in
local macro_rules|`($g ||| ($F,$a,$i,$n))=>`(⟨$g,(($F).binds λ_ _ _ _ _ _=>$n),⟨gE,gD,gh,gu⟩,⟨$a,$i,($F).kp⟩⟩)
set_option genSizeOf false
set_option genInjectivity false
set_option bootstrap.genMatcherCode false
noncomputable def PySem.W.Fast.tw14468000428041134111:=PySem.Challenge.pw_chanceduel_k31_rounds_rise
theorem PySem.W.Fast.te14468000428041134111:PySem.Challenge.pw_chanceduel_k31_rounds_rise=PySem.W.Fast.tw14468000428041134111:=rfl
noncomputable section
open Lean in
def og(t:Syntax):MacroM Unit:=match t.getHeadInfo with
|.original _ _ t _=>if t.bsize>0 then Macro.throwUnsupported else pure .unit
|_=>Macro.throwUnsupported
open Lean in
def oh(t:Syntax):MacroM Unit:=match t.getHeadInfo with
|.original _ _ t _=>if t.bsize>1 then Macro.throwUnsupported else pure .unit
|_=>Macro.throwUnsupported
local macro_rules|`(($a,%$t$b,*))=>do og t;`(⟨$a,$b,*⟩)
def xu(h:True:=by rfl):=h
def xv(h:True:=by decide):=h
def xw(h:True:=by intro _;rfl):=h
local macro_rules|`($a|>1)=>`(autoParam $a xu._auto_1)|`($a|>2)=>`(autoParam $a xv._auto_1)|`($a|>3)=>`(autoParam $a xw._auto_1)
local macro_rules|`(-%$t$a)=>do og t;`(($a).length)
local macro_rules|`(!%$t$a)=>do og t;`(some $a)
local macro_rules|`(tactic|show%$t $e)=>do oh t;`(tactic|refine $e)
local macro_rules|`(tactic|let%$t $e:letDecl)=>do oh t;`(tactic|have $e:letDecl)
open Lean in
local macro_rules|`(tactic|let ($a,$b,*):=$e)=>do
 let p←rpt 99 (←`(⟨$a,$b,*⟩))
 `(tactic|obtain $p:rcasesPat:=$e)
def k3:2<=PySem.sizeLine:=@_
abbrev fI:=PySem.W.Frag
namespace L2
open PySem PySem.Spec PyProof.Rows
variable{us:List Value}{a b dx C:Addr}{P prog:Program}{w:World}{h h' base:Heap}{η:List (Addr×Obj)}{s:Shared}{g':Array GenState}{ch fp:List Addr}{i:Nat}{x:Str}{M:Model}{A:Around}{E Q:Value->Shared->Prop}{u:Value}{pos:Pos}{e c tg:Expr}{es:List Expr}{body:List Stmt}{f:Value->Value->Sem Value}{op:CmpOp}{mA mg:Str->Option Value}{kw:List (Str×Value)}{outer:List Env}{fd:FuncData}{ps:List Str}
abbrev Key:=Sum Int Str
noncomputable def w_:Key->Value->Bool
 | .inl k,v=>Value.isInt k v
 | .inr x,v=>Value.isStrOf x v
def abL(w:World):Key->Int
 | .inl k=>hashInt k
 | .inr x=>hashStr w x
def bK:∀{k:Key} {v:Value},w_ k v=true->(∃i t,k=Sum.inl i/\v=Value.int i t)\/(∃x t,k=Sum.inr x/\v=Value.str x t)
 | .inl i,v,h=>by let(t,e):=Value.isInt_shape (k:=i) (v:=v) h;show .inl (i,t,rfl,e)
 | .inr x,v,h=>by let(t,e):=Value.isStrOf_shape (x:=x) (v:=v) h;show .inr (x,t,rfl,e)
def HE(i:Int)(t:Tok):w_ (.inl i) (.int i t)=true:=by simp[w_,Value.isInt]
def Jh(x:Str)(t:Tok):w_ (.inr x) (.str x t)=true:=by simp[w_,Value.isStrOf]
def RH(a b:Int):decide ((Sum.inl a:Key)=Sum.inl b)=(a==b):=by
 by_cases e:a=b
 .subst e;simp
 .let h:¬(Sum.inl a:Key)=Sum.inl b:=λq=>e (Sum.inl.inj q);rw[aa6 h];show(beq_eq_false_iff_ne.mpr e).symm
def Rm(a b:Str):decide ((Sum.inr a:Key)=Sum.inr b)=decide (a=b):=by
 by_cases e:a=b
 .subst e;simp
 .let h:¬(Sum.inr a:Key)=Sum.inr b:=λq=>e (Sum.inr.inj q);rw[aa6 h,aa6 e]
def SO(a:Int)(b:Str):decide ((Sum.inl a:Key)=Sum.inr b)=false:=aa6 nofun
def Rr(a:Str)(b:Int):decide ((Sum.inr a:Key)=Sum.inl b)=false:=aa6 nofun
noncomputable def bQ(prog:Program)(w:World):PySem.KeyKind prog w Key where
 is:=w_
 hash:=abL w
 inj:=λv a b ha hb=>by
  rcases bK ha with ⟨i,t,rfl,rfl⟩| ⟨x,t,rfl,rfl⟩
  .rcases bK hb with ⟨j,u,rfl,e⟩| ⟨y,u,rfl,e⟩
   .injection e with e1 _;rw[e1]
   .show nomatch e
  .rcases bK hb with ⟨j,u,rfl,e⟩| ⟨y,u,rfl,e⟩
   .show nomatch e
   .injection e with e1 _;rw[e1]
 byValue:=λk v h=>by rcases bK h with ⟨i,t,rfl,rfl⟩| ⟨x,t,rfl,rfl⟩ <;> rfl
 pyHash:=λhv h=>by
  rcases bK hv with ⟨i,t,rfl,rfl⟩| ⟨x,t,rfl,rfl⟩
  .show wpAny_pyHash_int h
  .show wpAny_pyHash_str h
 eqBool:=λhu hv h=>by
  rcases bK hu with ⟨i,t,rfl,rfl⟩| ⟨x,t,rfl,rfl⟩
  .rcases bK hv with ⟨j,u,rfl,rfl⟩| ⟨y,u,rfl,rfl⟩
   .rw[RH]at h;show wpAny_eqBool_int h
   .rw[SO]at h;show SeqAt.EqAt.int_str i t y u _ _ _ _ h
  .rcases bK hv with ⟨j,u,rfl,rfl⟩| ⟨y,u,rfl,rfl⟩
   .rw[Rr]at h;show SeqAt.EqAt.str_int x t j u _ _ _ _ h
   .rw[Rm]at h;show wpAny_eqBool_str h
 «strs»:=λk x t v h=>by
  rcases bK h with ⟨i,u,rfl,e⟩| ⟨y,u,rfl,e⟩
  .show nomatch e
  .injection e with e1 _
   subst e1;cases v <;> rfl
def BD(prog:Program)(w:World)(i:Int)(t:Tok):(bQ prog w).is (.inl i) (.int i t)=true:=HE i t
def AK(prog:Program)(w:World)(x:Str)(t:Tok):(bQ prog w).is (.inr x) (.str x t)=true:=Jh x t
set_option genInjectivity true in
inductive V where
 | bc| bl (b:Bool)| int (i:Int)| str (x:Str)| JF (b:Array UInt8)| TL (b:UInt64)| ref (a:Addr)| ty (n:String)
 deriving DecidableEq
variable{v:V}
def aH:V->Value->Prop
 | .bc,u=>u=Value.none
 | .bl b,u=>u=Value.bool b
 | .int i,u=>∃t,u=Value.int i t
 | .str x,u=>∃t,u=Value.str x t
 | .JF b,u=>∃t,u=Value.bytes b t
 | .TL b,u=>∃t,u=Value.float b t
 | .ref a,u=>u=Value.ref a
 | .ty n,u=>u=Value.type n
abbrev aC:List V->List Value->Prop:=Paired aH
def aC.length(r:aC xs us):-xs=-us:=Paired.length r
def aC.get:∀{xs:List V} {us:List Value} {i:Nat} {x:V},aC xs us->xs[i]? =!x->∃u,us[i]? =!u/\aH x u
 | _,_,_,_,.nil,e=>by simp at e
 | _,_,0,_,.cons r _,e=>by simp at e;subst e;show(_,rfl,r)
 | _,_,i+1,x,.cons _ t,e=>by let(u,h1,h2):=aC.get (i:=i) (x:=x) t (by simpa using e);show(u,by simpa using h1,h2)
def aC.set{x:V}{u:Value}(r:aH x u):∀{xs:List V} {us:List Value} (i:Nat),aC xs us->aC (xs.set i x) (us.set i u)
 | _,_,_,.nil=>.nil
 | _,_,0,.cons _ t=>.cons r t
 | _,_,i+1,.cons q t=>.cons q (aC.set r i t)
def aC.append:∀{xs ys:List V} {us ws:List Value},aC xs us->aC ys ws->aC (xs++ys) (us++ws)
 | _,_,_,_,.nil,s=>s
 | _,_,_,_,.cons r t,s=>.cons r (aC.append t s)
def aC.take:∀{xs:List V} {us:List Value} (n:Nat),aC xs us->aC (xs.take n) (us.take n)
 | _,_,0,_=>.nil
 | _,_,_+1,.nil=>.nil
 | _,_,n+1,.cons r t=>.cons r (aC.take n t)
def aC.drop:∀{xs:List V} {us:List Value} (n:Nat),aC xs us->aC (xs.drop n) (us.drop n)
 | _,_,0,r=>r
 | _,_,_+1,.nil=>.nil
 | _,_,n+1,.cons _ t=>aC.drop n t
def lB:Option V->Option Value->Prop
 | some v,!u=>aH v u
 | none,none=>True
 | _,_=>False
def KV{κ:Type}:List (κ×V)->List (κ×Value)->Prop:=Paired λ(p:κ×V) (q:κ×Value)=>p.1=q.1/\aH p.2 q.2
noncomputable def kV:Key->V
 | .inl i=>.int i
 | .inr x=>.str x
inductive HO where
 | lst (xs:List V)
 | tup (xs:List V)
 | dK (Κ:List (Key×V))| dT (Κ:List (List Key×V))
 | set (S:Int->Bool) (n:Nat)
 | ins (C dx:Addr) (fs:List (Str×V))
 | own (x:Addr)
 | xd (fs:List (Str×V))
 | met (f x:Addr)
 | ZH (lo hi:Int)
 | xD (o:Obj) (u:HO)
 | NQ (ps:Array Value)
 | ext (φ:Heap->Prop)
variable{o:HO}
abbrev Hp:=Addr->Option HO
noncomputable def upd(H:Hp)(a:Addr)(o:HO):Hp:=λb=>if b=a then !o else H b
def av{H:Hp}:upd H a o a=!o:=by unfold upd;rw[if_pos rfl]
def Ρ{H:Hp}(h:b≠a):upd H a o b=H b:=by unfold upd;rw[if_neg h]
def Xc{H:Hp}{u:HO}(h:H a=!o)(h':H b=!u)(d:o≠u):a≠b:=by intro e;subst e;rw[h]at h';show d (aaC h')
def b_{H:Hp}(h:H a=!o)(h':H b=none):a≠b:=by intro e;subst e;rw[h]at h';cases h'
section
variable(P:Program)(w:World)
def cn(H:Hp)(h:Heap)(a:Addr):HO->Prop
 | .lst xs=>-xs<=sizeLine/\∃(its:List Value) (n:Nat),aC xs its/\h.get? a=some {cls:=.type "list",data:=.seq its.toArray n}
 | .tup xs=>-xs<=sizeLine/\∃its:List Value,aC xs its/\IsTup h a its.toArray
 | .dK Κ=>-Κ<=sizeLine/\(a==sysModules)=false/\∃vs,KV Κ vs/\h.DictOf (bQ P w) a vs
 | .dT Κ=>-Κ<=sizeLine/\(a==sysModules)=false/\∃xs:List (List Key×Addr×Value),
   Paired (λ(p:List Key×V) (q:List Key×Addr×Value)=>p.1=q.1/\H q.2.1=!(.tup (p.1.map kV))/\aH p.2 q.2.2) Κ xs/\
   ∃o es ep,h.get? a=!o/\o.ExactDict/\o.data= .dict es ep/\es.toList=xs.map (entryOfKey (tupleKind (bQ P w)))/\(xs.map (·.1)).Nodup
 | .set S n=>h.SetOf (intKind P w) a S n
 | .ins C dx fs=>H dx=!(.own a)/\-fs<=1000/\dx≠a/\h.get? a=!(PySem.W.instObj C dx)/\
   ∃mA,h.Ns1 dx mA/\(∀f,lB (fs.lookup f) (mA f))/\PySem.Within mA (fs.map (·.1))
 | .own _=>∃o,h.get? a=!o
 | .xd fs=>∃mA,h.Ns1 a mA/\∀f,lB (fs.lookup f) (mA f)
 | .ZH lo hi=>∃t u v,h.get? a=some {cls:=.type "range",data:=.fields #[.int lo t,.int hi u,.int 1 v]}
 | .xD o u=>h.get? a=!o/\cn H h a u
 | .NQ ps=>h.get? a=some {cls:=.none,data:=.fields ps}
 | .met f x=>h.get? a=!(PySem.W.methodObj (.ref f) (.ref x))
 | .ext φ=>φ h/\(∃o,h.get? a=!o)/\∀h1 h2:Heap,φ h1->(∀o,h1.get? a=!o->h2.get? a=!o)->φ h2
def mB(H:Hp)(h:Heap):Prop:=∀a o,H a=!o->cn P w H h a o
end
section
variable{H H':Hp}
def cn.lt(x:cn P w H h a o):a < h.objs.size:=by
 cases o with
 | lst xs=>let(_,_,_,_,e):=x;show aaV e
 | tup xs=>let(_,_,_,p):=x;show p.lt
 | dK Κ=>let(_,_,_,_,o,_,_,e,_):=x;show aaV e
 | dT Κ=>let(_,_,_,_,o,_,_,e,_):=x;show aaV e
 | set S n=>let(o,_,_,_,e,_):=x;show aaV e
 | ins C dx fs=>let(_,_,_,e,_):=x;show aaV e
 | own y=>let(_,e):=x;show aaV e
 | xd fs=>let(_,(_,_,_,e,_),_):=x;show aaV e
 | ZH lo hi=>let(_,_,_,e):=x;show aaV e
 | xD ob u=>let(e,_):=x;show aaV e
 | NQ ps=>show aaV (show h.get? a=!_ from x)
 | met f y=>show aaV (show h.get? a=!_ from x)
 | ext φ=>have⟨_,⟨_,e⟩,_⟩:=x;show aaV e
def Paired.RS{α β:Type}{F G:α->β->Prop}:∀{l₁:List α} {l₂:List β},Paired F l₁ l₂->(∀a b,F a b->G a b)->Paired G l₁ l₂
 | _,_,.nil,_=>.nil
 | _,_,.cons r t,f=>.cons (f _ _ r) (Paired.RS t f)
def cn.Du(x:cn P w H h a o)(k:∀b u,(b=a\/H b=!(.own a))->h.get? b=!u->h'.get? b=!u)
  (ho:∀b,H b=!(.own a)->H' b=!(.own a)) (ht:∀b xs,H b=!(.tup xs)->H' b=!(.tup xs)):cn P w H' h' a o:=by
 induction o with
 | lst xs=>let(z,its,n,r,e):=x;show(z,its,n,r,k _ _ (.inl rfl) e)
 | tup xs=>let(z,its,r,ob,e,c):=x;show(z,its,r,ob,k _ _ (.inl rfl) e,c)
 | dK Κ=>let(z,y,vs,r,ob,es,ep,e,c):=x;show(z,y,vs,r,ob,es,ep,k _ _ (.inl rfl) e,c)
 | dT Κ=>
  let(z,y,xs,r,ob,es,ep,e,c):=x;show(z,y,xs,Paired.RS r λp q z=>(z.1,ht _ _ z.2.1,z.2.2),ob,es,ep,k _ _ (.inl rfl) e,c)
 | set S n=>let(ob,es,ep,t,e,c):=x;show(ob,es,ep,t,k _ _ (.inl rfl) e,c)
 | ins C dx fs=>
  let(d,z,ne,e,mA,(od,es,ep,e2,c),r):=x;show(ho _ d,z,ne,k _ _ (.inl rfl) e,mA,(od,es,ep,k _ _ (.inr d) e2,c),r)
 | own y=>let(ob,e):=x;show(ob,k _ _ (.inl rfl) e)
 | xd fs=>let(mA,(od,es,ep,e,c),r):=x;show(mA,(od,es,ep,k _ _ (.inl rfl) e,c),r)
 | ZH lo hi=>let(t,u,v,e):=x;show(t,u,v,k _ _ (.inl rfl) e)
 | xD ob u ih=>let(e,q):=x;show(k _ _ (.inl rfl) e,ih q)
 | NQ ps=>
  let e:h.get? a=some {cls:=.none,data:=.fields ps}:=x;change h'.get? a=some {cls:=.none,data:=.fields ps};show k a _ (.inl rfl) e
 | met f y=>
  let e:h.get? a=!(PySem.W.methodObj (.ref f) (.ref y)):=x;change h'.get? a=!(PySem.W.methodObj (.ref f) (.ref y));show k a _ (.inl rfl) e
 | ext φ=>have⟨p,⟨o,e⟩,st⟩:=x;show(st _ _ p λo q=>k _ _ (.inl rfl) q,(o,k _ _ (.inl rfl) e),st)
def mB.lt(x:mB P w H h)(e:H a=!o):a < h.objs.size:=(x a o e).lt
def mB.fresh(x:mB P w H h)(e:h.objs.size<=a):H a=none:=by
 cases q:H a with
 | none=>rfl
 | some u=>show abe (aaW (x.lt q) e) (acn _)
def mB.kept(x:mB P w H h)(k:∀b u,h.get? b=!u->h'.get? b=!u):mB P w H h':=λa o e=>
 (x a o e).Du (λb u _ q=>k b u q) (λ_ q=>q) λ_ _ q=>q
def mB.laid(x:mB P w H h)(k:∀b u,h.get? b=!u->h'.get? b=!u)(hp:h.objs.size<=a)(new:cn P w (upd H a o) h' a o):mB P w (upd H a o) h':=λb u e=>by
 let hn:=x.fresh hp;by_cases hb:b=a
 .subst hb;rw[av]at e;cases e;show new
 .rw[Ρ hb]at e;show(x b u e).Du (λc v _ q=>k c v q) (λc q=>by rw[Ρ (b_ q hn)];show q) λc xs q=>by rw[Ρ (b_ q hn)];show q
end
def Rd(H:Hp)(a:Addr)(u:HO):Prop:=H a=!u\/∃o,H a=!(.xD o u)
def Rd.ok{H:Hp}{u:HO}(r:Rd H a u)(x:mB P w H h):cn P w H h a u:=by
 rcases r with r| ⟨o,r⟩
 .show x a u r
 .let(_,q):=x a _ r;show q
def T5:Option HO->Prop
 | some (.lst _)=>True
 | some (.dK _)=>True
 | some (.dT _)=>True
 | some (.set _ _)=>True
 | some (.ins _ _ _)=>True
 | some (.ext _)=>True
 | _=>False
section
variable{H:Hp}{x e:Addr}{o':HO}
def mB.write(ok:mB P w H h)(mu:T5 (H x))(he:e=x\/H e=!(.own x))(k:∀b u,b≠e->h.get? b=!u->h'.get? b=!u)(Uh:∃u,h'.get? e=!u)
  (new:cn P w (upd H x o') h' x o'):mB P w (upd H x o') h':=λb u q=>by
 let WQ:∀c y,H c=!(.own y)->c≠x:=λc y r z=>by subst z;rw[r]at mu;show mu
 let ZY:∀c xs,H c=!(.tup xs)->c≠x:=λc xs r z=>by subst z;rw[r]at mu;show mu
 by_cases hb:b=x
 .subst hb;rw[av]at q;cases q;show new
 .rw[Ρ hb]at q;by_cases RA:b=e
  .let q':H b=!(.own x):=by
    rcases he with z| z
    .show abe (RA.trans z) hb
    .rw[RA];show z
   rw[q]at q';cases q';let(v,hv):=Uh;show(v,by rw[RA];show hv)
  .show(ok b u q).Du (λc v hc r=>k c v ?_ r) (λc r=>by rw[Ρ (WQ c b r)];show r) λc xs r=>by rw[Ρ (ZY c xs r)];show r
   rcases hc with rfl| hc
   .show RA
   .rintro rfl;rcases he with z| z
    .show WQ c b hc z
    .rw[hc]at z;cases z;show hb rfl
end
structure Un(fs ex:List Addr)(H H':Hp)(h h':Heap):Prop where
 keep:∀b o,h.get? b=!o->H b=none->b∉fs->b∉ex->h'.get? b=!o
 slot:∀b o,h.get? b=!o->H b=none->b∈fs->b∉ex->∃sl,h'.get? b=some {o with slots:=sl}
 free:∀b o,h.get? b=!o->H b=none->b∉ex->H' b=none
 there:∀b o,h.get? b=!o->b∉ex->∃o',h'.get? b=!o'
 sj:∀b xs,H b=!(.tup xs)->H' b=!(.tup xs)
 rA:∀b o u,H b=!(.xD o u)->H' b=!(.xD o u)
 sD:∀b ps,H b=!(.NQ ps)->∃more,H' b=!(.NQ (ps++more))
section
variable{fs fs' ex ex':List Addr}{H H1 H2:Hp}{h1 h2:Heap}{x e:Addr}
def Un.any(u:Un fs ex H H1 h h1){ob:Obj}(q:h.get? b=!ob)(n:H b=none)(hx:b∉ex):∃sl,h1.get? b=some {ob with slots:=sl}:=by
 by_cases hb:b∈fs
 .show u.slot b ob q n hb hx
 .show(ob.slots,u.keep b ob q n hb hx)
def Un.kept(k:∀b u,h.get? b=!u->h'.get? b=!u):Un fs ex H H h h':=
 (λb ob q _ _ _=>k b ob q,λb ob q _ _ _=>(ob.slots,k b ob q),λ_ _ _ n _=>n,λb ob q _=>(ob,k b ob q),λ_ _ q=>q,λ_ _ _ q=>q,λ_ ps q=>(#[],by rw[q];simp))
def Un.refl:Un fs ex H H h h:=Un.kept λ_ _ q=>q
def Un.laid(k:∀b u,h.get? b=!u->h'.get? b=!u)(hp:h.objs.size<=a)(hn:H a=none):Un fs ex H (upd H a o) h h' where
 keep:=λb u q _ _ _=>k b u q
 slot:=λb u q _ _ _=>(u.slots,k b u q)
 free:=λb u q n _=>by rw[Ρ (abF (aaW (aaV q) hp))];show n
 there:=λb u q _=>(u,k b u q)
 sj:=λb xs q=>by rw[Ρ (b_ q hn)];show q
 rA:=λb u xs q=>by rw[Ρ (b_ q hn)];show q
 sD:=λb ps q=>(#[],by rw[Ρ (b_ q hn),q];simp)
def Un.write(mu:T5 (H x))(he:e=x\/H e=!(.own x))(k:∀b u,b≠e->h.get? b=!u->h'.get? b=!u)(Uh:∃u,h'.get? e=!u):Un fs ex H (upd H x o) h h':=by
 let hx:∀b,H b=none->b≠x:=λb n z=>by subst z;rw[n]at mu;show mu
 let hb:∀b,H b=none->b≠e:=λb n z=>by
  subst z;rcases he with r| r
  .show hx b n r
  .rw[n]at r;cases r
 let hm:∀b u,H b=!u->¬T5 (!u)->b≠x:=λb u q nm z=>by subst z;rw[q]at mu;show nm mu
 show(λb u q n _ _=>k b u (hb b n) q,λb u q n _ _=>(u.slots,k b u (hb b n) q),λb u q n _=>by rw[Ρ (hx b n)];show n,λb u q _=>?_,
  λb xs q=>by rw[Ρ (hm b _ q λz=>z)];show q,λb u xs q=>by rw[Ρ (hm b _ q λz=>z)];show q,λb ps q=>(#[],by rw[Ρ (hm b _ q λz=>z),q];simp))
 by_cases RA:b=e
 .subst RA;show Uh
 .show(u,k b u RA q)
end
noncomputable def Ye(h:Heap)(H:Hp):List Addr:=(List.range h.objs.size).filter λa=>(H a).isSome
def zT(h:Heap)(H:Hp):Heap:=PySem.W.hideAll h (Ye h H)
def Iv(h:Heap)(H:Hp):(zT h H).objs.size=h.objs.size:=PySem.W.hideAll_size _ _
def LC{H:Hp}{o:Obj}(e:h.get? b=!o)(n:H b=none):(zT h H).get? b=!o:=
 PySem.W.hideAll_get _ e λhm=>by let q:(H b).isSome=true:=(adj.mp hm).2;rw[n]at q;simp at q
def NF{H:Hp}{o:Obj}(e:(zT h H).get? b=!o):h.get? b=!o/\H b=none:=by
 let e':h.get? b=!o:=PySem.W.of_hideAll (Ye h H) e;show(e',?_);cases q:H b with
 | none=>rfl
 | some x=>
  let hm:b∈Ye h H:=List.mem_filter.mpr (List.mem_range.mpr (Heap.lt_size e'),by simp[q]);let z:(zT h H).get? b=none:=PySem.W.hideAll_none (Ye h H) hm;rw[z]at e;cases e
structure Mod(K:fI)(mg:Str->Option Value)(base:Heap):Prop where
 T':K.In base
 glob:base.Ns mainGlobals mg
 blt:∃mb,base.Ns builtinsNs mb/\∀x:Str,x≠"__name__"->mb x=bootBuiltins x
 nolimit:base.NoLimit
structure Cx where
 prog:Program
 w:World
 K:fI
 mg:Str->Option Value
 base:Heap
 A:Around
 N:List Str
 s₀:Shared
 H₀:Hp
 env:Env
 outer:List Env
 stack:List Env
 ex:List Addr
 fn:Str->Bool
 calm:Bool
 pn:List (Addr×Obj)
 xe:Value->Shared->Prop
variable{X:Cx}
def sG(l:List Env):List Addr:=l.filterMap (·.frame)
abbrev Cx.fs(X:Cx):List Addr:=sG X.outer
def Vis(sc:Scope)(x:Str):Prop:=sc.names.lookup x=some .local\/sc.names.lookup x=some .cell\/sc.names.lookup x=some .free
def Loc(sc:Scope)(x:Str):Prop:=sc.names.lookup x=some .local\/sc.names.lookup x=some .cell
def abY(env:Env)(h:Heap)(m:Str->Option Value)(x:Str)(u:Value):Prop:=
 (env.kindOf x=some .local/\m x=!u)\/((env.kindOf x=some .cell\/env.kindOf x=some .free)/\∃c,env.cells.lookup x=!c/\h.IsCell c (!u))
structure Cx.Ok(X:Cx):Prop where
 mod:Mod X.K X.mg X.base
 kind:X.env.scope.kind= .function
 glob:X.env.globals=mainGlobals
 blt:X.env.builtins=builtinsNs
 above:X.s₀.heap.objs.size<=X.env.locals
 inj:∀x y c,X.env.cells.lookup x=!c->X.env.cells.lookup y=!c->x=y
 has:∀x,(X.env.kindOf x=some .cell\/X.env.kindOf x=some .free)->∃c,X.env.cells.lookup x=!c
 cab:∀x c,X.fn x=true->X.env.cells.lookup x=!c->X.s₀.heap.objs.size<=c
 hd:X.calm=true->X.A.handled=none
 frames:X.A.frames=!X.stack
 stk:X.stack=X.outer\/(X.stack=X.env::X.outer/\X.env.frame=!X.env.locals)
 exf:∀b∈X.ex,b≠X.env.locals/\∀x c,X.env.cells.lookup x=!c->c≠b
 bs:∀b o,X.base.get? b=!o->X.s₀.heap.get? b=!o/\X.H₀ b=none
 v7:X.base.objs.size<=X.s₀.heap.objs.size
 Sh:∀b o,X.base.get? b=!o->b∉X.ex
 TK:∀b∈X.ex,b∉X.fs
 wG:X.s₀.heap.FunFrames X.base X.outer
 Vw:∀b∈X.fs,X.H₀ b=none
structure Inv(X:Cx)(η:List (Addr×Obj))(σ:List (Option V))(H:Hp)(s:Shared):Prop where
 ok:X.Ok
 os:s.os=X.s₀.os
 bare:AllBare s.gens
 base:Un X.fs X.ex X.H₀ H X.s₀.heap s.heap
 loc:∃m,s.heap.Ns X.env.locals m/\∀(i:Nat) (x:Str) (v:V),X.N[i]? =!x->σ[i]? =!(!v)->Vis X.env.scope x->∃u,aH v u/\abY X.env s.heap m x u
 cell:∀x c,X.env.cells.lookup x=!c->∃v,s.heap.IsCell c v
 free:H X.env.locals=none
 rZ:∀x c,X.env.cells.lookup x=!c->H c=none
 pin:∀p∈X.pn++η,s.heap.get? p.1=!p.2/\H p.1=none/\p.1≠X.env.locals/\p.1∉X.fs/\∀v,p.2.data≠ .cell v
 aS:mB X.prog X.w H s.heap
 len:-σ=-X.N
section
variable{σ:List (Option V)}{H H':Hp}
set_option tactic.hygienic false
def Cx.Ok.abM(ok:X.Ok){o:Obj}(e:X.base.get? b=!o):b∉X.fs:=λhb=>by have:=(ok.wG.mem hb).1;rw[e]at this;cases this
def Inv.bs(I:Inv X η σ H s):∀b o,X.base.get? b=!o->s.heap.get? b=!o/\H b=none:=λb o e=>
 (I.base.keep b o (I.ok.bs b o e).1 (I.ok.bs b o e).2 (I.ok.abM e) (I.ok.Sh b o e),I.base.free b o (I.ok.bs b o e).1 (I.ok.bs b o e).2 (I.ok.Sh b o e))
def Inv.bk(I:Inv X η σ H s):∀b o,X.base.get? b=!o->s.heap.get? b=!o:=λb o e=>(I.bs b o e).1
def Inv.mod(I:Inv X η σ H s):Mod X.K X.mg X.base:=I.ok.mod
def Inv.pU(I:Inv X η σ H s):X.K.In s.heap:=I.ok.mod.T'.keeps I.bk
def Inv.lt(I:Inv X η σ H s):X.env.locals < s.heap.objs.size:=let (_,hn,_):=I.loc;hn.lt
def Inv.sz(I:Inv X η σ H s):X.s₀.heap.objs.size<=s.heap.objs.size:=aaF I.ok.above (Nat.le_of_lt I.lt)
def Inv.Zx(I:Inv X η σ H s)(h:s.heap.objs.size<=a):a∉X.fs:=λhb=>by let(_,o,ho,_):=I.ok.wG.mem hb;show abe (aaW (aaV ho) (aaF I.sz h)) (acn _)
def Inv.Ka(I:Inv X η σ H s):∀x c,X.env.cells.lookup x=!c->c≠X.env.locals:=λx c e z=>by let(v,o,ho,hd):=I.cell x c e;let(m,(o',es,ep,Hl,OG,_),_):=I.loc;rw[z,Hl]at ho;cases ho;rw[OG]at hd;cases hd
def Inv.wG(I:Inv X η σ H s):s.heap.FunFrames X.base X.outer:=by
 let all:∀(l:List Env),(∀b∈sG l,b∈X.fs)->X.s₀.heap.FunFrames X.base l->s.heap.FunFrames X.base l:=by
  intro l
  induction l with
  | nil=>intro _ _;trivial
  | cons env r ih=>
   intro hs hl;let(hk,(L,o,hf,hn,ho,hd),hr):=hl;let hL:L∈X.fs:=hs L (by unfold sG;rw[List.filterMap_cons,hf];show List.mem_cons_self);let(sl,e):=I.base.slot L o ho (I.ok.Vw L hL) hL λz=>I.ok.TK L z hL;show(hk,(L,_,hf,hn,e,hd),ih (λb hb=>hs b (by unfold sG;rw[List.filterMap_cons,hf];show List.mem_cons_of_mem _ hb)) hr)
 show all X.outer (λ_ hb=>hb) I.ok.wG
def Inv.stack(I:Inv X η σ H s):s.heap.FunFrames X.base X.stack:=by
 rcases I.ok.stk with e| ⟨e,hf⟩
 .rw[e];show I.wG
 .rw[e];let(m,hn,_):=I.loc;show .cons (by rw[I.ok.kind];decide) hf hn ?_ I.wG;show Heap.get?_none_of_le (aaF I.ok.v7 I.ok.above)
def Inv.yB(I:Inv X η σ H s):∀b∈sG X.stack,b∈X.env.locals::X.fs:=λb hb=>by
 rcases I.ok.stk with e| ⟨e,hf⟩
 .rw[e]at hb;show aaf _ hb
 .rw[e]at hb;unfold sG at hb;rw[adb,hf]at hb;show hb
def Inv.yJ(I:Inv X η σ H s):∀b∈sG X.stack,H b=none:=λb hb=>by
 rcases abg.mp (I.yB b hb) with e| hb
 .rw[e];show I.free
 .let(_,o,ho,_):=I.ok.wG.mem hb;show I.base.free b o ho (I.ok.Vw b hb) λz=>I.ok.TK b z hb
def Inv.step{t':Nat}{d':Drawn}(I:Inv X η σ H s)
  (C3:∀b∈ch,(b∈X.ex\/X.s₀.heap.objs.size<=b)/\b≠X.env.locals/\(∀x c,X.env.cells.lookup x=!c->c≠b)/\∀p∈X.pn++η,p.1≠b)
  (keep:∀b o,b≠X.env.locals->b∉X.fs->b∉ch->s.heap.get? b=!o->H b=none->h'.get? b=!o)
  (slot:∀b o,b≠X.env.locals->b∈X.fs->b∉ch->s.heap.get? b=!o->H b=none->∃sl,h'.get? b=some {o with slots:=sl}) (free:∀b o,b∉ch->s.heap.get? b=!o->H b=none->H' b=none)
  (there:∀b o,b∉ch->s.heap.get? b=!o->∃o',h'.get? b=!o')
  (sj:∀b xs,H b=!(.tup xs)->H' b=!(.tup xs)) (rA:∀b o u,H b=!(.xD o u)->H' b=!(.xD o u)) (sD:∀b ps,H b=!(.NQ ps)->∃more,H' b=!(.NQ (ps++more)))
  (ns:∀m,s.heap.Ns X.env.locals m->h'.Ns X.env.locals m) (aS:mB X.prog X.w H' h') (hg:AllBare g'):
  Inv X η σ H' {s with heap:=h',gens:=g',drawn:=d',toks:=t'}:=by
 let neL:∀b o,X.s₀.heap.get? b=!o->b≠X.env.locals:=λb o e=>abF (aaW (aaV e) I.ok.above);let X4:∀b o,X.s₀.heap.get? b=!o->b∉X.ex->b∉ch:=λb o e hx hb=>by
  rcases(C3 b hb).1 with z| z
  .show hx z
  .show abe (aaW (aaV e) z) (acn _)
 let cellK:∀x c,X.env.cells.lookup x=!c->∀v,s.heap.IsCell c v->h'.IsCell c v:=λx c e v (o,ho,hd)=>by
  let W8:c∉ch:=λz=>(C3 c z).2.2.1 x c e rfl;by_cases hc:c∈X.fs
  .let(sl,q):=slot c o (I.Ka x c e) hc W8 ho (I.rZ x c e);show(_,q,hd)
  .show(o,keep c o (I.Ka x c e) hc W8 ho (I.rZ x c e),hd)
 show(I.ok,I.os,hg,(λb o e n hb hx=>?_,λb o e n hb hx=>?_,λb o e n hx=>?_,λb o e hx=>?_,λb xs e=>sj b xs (I.base.sj b xs e),λb o xs e=>rA b o xs (I.base.rA b o xs e),λb ps e=>?_),?_,λx c e=>?_,?_,λx c e=>?_,λp hp=>?_,aS,I.len)
 .show keep b o (neL b o e) hb (X4 b o e hx) (I.base.keep b o e n hb hx) (I.base.free b o e n hx)
 .let(sl,e1):=I.base.slot b o e n hb hx;let(sl',e2):=slot b _ (neL b o e) hb (X4 b o e hx) e1 (I.base.free b o e n hx);show(sl',e2)
 .let(o',e1):=I.base.there b o e hx;show free b o' (X4 b o e hx) e1 (I.base.free b o e n hx)
 .let(o',e1):=I.base.there b o e hx;show there b o' (X4 b o e hx) e1
 .let(m1,e1):=I.base.sD b ps e;let(m2,e2):=sD b _ e1;show(m1++m2,by rw[e2,Array.append_assoc])
 .let(m,hn,hl):=I.loc;show(m,ns m hn,λi x v e1 e2 e3=>?_);let(u,r,l):=hl i x v e1 e2 e3;show(u,r,?_);rcases l with l| ⟨k,c,e,z⟩
  .show .inl l
  .show .inr (k,c,e,cellK x c e _ z)
 .let(v,z):=I.cell x c e;show(v,cellK x c e v z)
 .let(m,(o,_,_,ho,_),_):=I.loc;show free _ o (λz=>(C3 _ z).2.1 rfl) ho I.free
 .let(v,o,ho,hd):=I.cell x c e;show free c o (λz=>(C3 c z).2.2.1 x c e rfl) ho (I.rZ x c e)
 .let(e,n,ne,nf,d):=I.pin p hp;let W8:p.1∉ch:=λz=>(C3 p.1 z).2.2.2 p hp rfl;show(keep p.1 p.2 ne nf W8 e n,free p.1 p.2 W8 e n,ne,nf,d)
def Inv.un{t':Nat}(I:Inv X η σ H s)(u:Un X.fs [] H H' s.heap h')(aS:mB X.prog X.w H' h'):Inv X η σ H' {s with heap:=h',toks:=t'}:=by
 let(m,(o,es,ep,ho,r),_):=id I.loc;let(sl,hL):=u.any ho I.free (by simp)
 show I.step (g':=s.gens) (d':=s.drawn) (ch:=[]) (λ_ z=>nomatch z) (λb o _ hb _ e n=>u.keep b o e n hb (by simp)) (λb o _ hb _ e n=>u.slot b o e n hb (by simp)) (λb o _ e n=>u.free b o e n (by simp)) (λb o _ e=>u.there b o e (by simp)) u.sj u.rA u.sD (λm' hm=>by
  let(o',es',YF,Hl,r'):=hm;rw[ho]at Hl;cases Hl
  show(_,es',YF,hL,r')) aS I.bare
def Inv.call{t':Nat}{d':Drawn}(I:Inv X η σ H s)(u:Un (sG X.stack) ch H H' s.heap h')(aS:mB X.prog X.w H' h')(hg:AllBare g')
  (C3:∀b∈ch,(b∈X.ex\/X.s₀.heap.objs.size<=b)/\b≠X.env.locals/\(∀x c,X.env.cells.lookup x=!c->c≠b)/\∀p∈X.pn++η,p.1≠b):
  Inv X η σ H' {s with heap:=h',gens:=g',drawn:=d',toks:=t'}:=by
 let(m,(o,es,ep,ho,r),_):=id I.loc;let(sl,hL):=u.any ho I.free λz=>(C3 _ z).2.1 rfl
 show I.step (ch:=ch) C3 (λb o hL hb hc e n=>u.keep b o e n (λz=>(abg.mp (I.yB b z)).elim hL hb) hc) (λb o _ _ hc e n=>u.any e n hc) (λb o hc e n=>u.free b o e n hc) (λb o hc e=>u.there b o e hc) u.sj u.rA u.sD (λm' hm=>by
  let(o',es',YF,Hl,r'):=hm;rw[ho]at Hl;cases Hl
  show(_,es',YF,hL,r')) aS hg
def Inv.turned{t':Nat}{it:Addr}(I:Inv X η σ H s)(k:∀b o,b≠it->s.heap.get? b=!o->h'.get? b=!o)(hn:H it=none)(hL:it≠X.env.locals)
  (h1:it∈X.ex\/X.s₀.heap.objs.size<=it) (h2:∀x c,X.env.cells.lookup x=!c->c≠it) (h3:∀p∈X.pn++η,p.1≠it):Inv X η σ H {s with heap:=h',toks:=t'}:=by
 let nit:∀b u,H b=!u->b≠it:=λb u e z=>by rw[z,hn]at e;cases e
 show I.step (g':=s.gens) (d':=s.drawn) (ch:=[it]) (λb hb=>?_) (λb o _ _ hc e _=>k b o (λz=>hc (by simp[z])) e) (λb o _ _ hc e _=>(o.slots,k b o (λz=>hc (by simp[z])) e)) (λ_ _ _ _ n=>n)
  (λb o hc e=>(o,k b o (λz=>hc (by simp[z])) e)) (λ_ _ e=>e) (λ_ _ _ e=>e) (λb ps e=>(#[],by rw[e];simp)) (λm hm=>?_) (λb u e=>?_) I.bare
 .let e:b=it:=by simpa using hb
  subst e;show(h1,hL,h2,h3)
 .let(o,es,ep,ho,r):=hm;show(o,es,ep,k _ o (Ne.symm hL) ho,r)
 .show(I.aS b u e).Du (λc v hc q=>k c v ?_ q) (λ_ q=>q) λ_ _ q=>q;rcases hc with z| z
  .rw[z];show nit b u e
  .show nit c _ z
def Inv.tok(I:Inv X η σ H s)(t:Nat):Inv X η σ H {s with toks:=t}:=I.un (h':=s.heap) (t':=t) Un.refl I.aS
def Inv.kept{t':Nat}(I:Inv X η σ H s)(k:∀b u,s.heap.get? b=!u->h'.get? b=!u):Inv X η σ H {s with heap:=h',toks:=t'}:=I.un (Un.kept k) (I.aS.kept k)
def Inv.laid{t':Nat}(I:Inv X η σ H s)(k:∀b u,s.heap.get? b=!u->h'.get? b=!u)(hp:s.heap.objs.size<=a)(new:cn X.prog X.w (upd H a o) h' a o):
  Inv X η σ (upd H a o) {s with heap:=h',toks:=t'}:=I.un (Un.laid k hp (I.aS.fresh hp)) (I.aS.laid k hp new)
def Inv.write{x e:Addr}{t':Nat}(I:Inv X η σ H s)(mu:T5 (H x))(he:e=x\/H e=!(.own x))(k:∀b u,b≠e->s.heap.get? b=!u->h'.get? b=!u)(Uh:∃u,h'.get? e=!u)
  (new:cn X.prog X.w (upd H x o) h' x o):Inv X η σ (upd H x o) {s with heap:=h',toks:=t'}:=I.un (Un.write mu he k Uh) (I.aS.write mu he k Uh new)
def Inv.Gx{QD:List (Addr×Obj)}(I:Inv X η σ H s)(h:∀p∈QD,s.heap.get? p.1=!p.2/\H p.1=none/\p.1≠X.env.locals/\p.1∉X.fs/\∀v,p.2.data≠ .cell v):Inv X QD σ H s:=
 (I.ok,I.os,I.bare,I.base,I.loc,I.cell,I.free,I.rZ,λp hp=>(abj.mp hp).elim (λz=>I.pin p (ac5 _ z)) (h p),I.aS,I.len)
def Ct{N:List Str}(hN:N.Nodup){j:Nat}(a:N[i]? =!x)(b:N[j]? =!x):i=j:=by let(h1,e1):=aai.mp a;let(h2,e2):=aai.mp b;show(List.getElem_inj hN).mp (e1.trans e2.symm)
noncomputable def x_{Q:Unit->Shared->Prop}(I:Inv X η σ H s)(hN:X.N.Nodup)(hi:X.N[i]? =!x)(hx:Loc X.env.scope x)(r:aH v u)
  (h:∀s',Inv X η (σ.set i (!v)) H s'->(∃a,Heap.SameBut a s.heap s'.heap/\(a=X.env.locals\/X.env.cells.lookup x=!a))->Q Unit.unit s') (hf:X.fn x=true\/X.env.scope.names.lookup x=some .local:=by first| exact .inl rfl| exact .inr rfl| assumption):wpAny M A (storeName X.env x u) Q E s:=by
 let(m,hn,hl):=id I.loc;let YZ:(X.env.scope.kind== .class|| (X.env.scope.kind== .module&&X.env.locals != X.env.globals))=false:=by rw[I.ok.kind];rfl
 let Xl:i < -σ:=by rw[I.len];show(aai.mp hi).1
 let Ka:=I.Ka;let tracked:∀{a:Addr} {h':Heap},(∃o,s.heap.get? a=!o/\H a=none)->Heap.SameBut a s.heap h'->mB X.prog X.w H h':=λ{a h'} ha hs b ob e=>by
  let(_,_,Qc):=ha;show(I.aS b ob e).Du (λc w' hc q=>(hs.2 c ?_).trans q) (λ_ q=>q) λ_ _ q=>q;rintro rfl;rcases hc with rfl| hc
  .rw[Qc]at e;cases e
  .rw[Qc]at hc;cases hc
 rcases hx with hk| hk
 .show wpAny_storeName_local hk hn (λh' VD hs=>?_) YZ;let(oL,_,_,hoL,_):=id hn;show h _ (I.ok,I.os,I.bare,(λb o e n hb hx=>?_,λb o e n hb hx=>?_,I.base.free,λb o e hx=>?_,I.base.sj,I.base.rA,I.base.sD),(_,VD,λj y v' e1 e2 e3=>?_),λy c e=>?_,I.free,I.rZ,λp hp=>?_,tracked (oL,hoL,I.free) hs,by simpa using I.len) (_,hs,.inl rfl)
  .show(hs.2 b (abF (aaW (aaV e) I.ok.above))).trans (I.base.keep b o e n hb hx)
  .let(sl,e1):=I.base.slot b o e n hb hx;show(sl,(hs.2 b (abF (aaW (aaV e) I.ok.above))).trans e1)
  .let(o',e1):=I.base.there b o e hx;show(o',(hs.2 b (abF (aaW (aaV e) I.ok.above))).trans e1)
  .by_cases hj:j=i
   .subst hj;rw[hi]at e1;cases e1;rw[abc Xl]at e2;cases e2;show(u,r,.inl (hk,by simp))
   .rw[abi (Ne.symm hj)]at e2;let(u',r',q):=hl j y v' e1 e2 e3;show(u',r',?_);rcases q with ⟨k,e⟩| ⟨k,c,e,z⟩
    .show .inl (k,?_);have:y≠x:=λe=>hj (Ct hN e1 (e▸hi));simp[this,e]
    .show .inr (k,c,e,z.sameBut hs (Ka y c e))
  .let(w',z):=I.cell y c e;show(w',z.sameBut hs (Ka y c e))
  .let(e,n,ne,nf,d):=I.pin p hp;show((hs.2 p.1 ne).trans e,n,ne,nf,d)
 .let hfn:X.fn x=true:=by
   rcases hf with z| z
   .show z
   .rw[z]at hk;cases hk
  let(c,hc):=I.ok.has x (.inl hk);let(w',z):=I.cell x c hc;show wpAny_storeName_cell I.ok.kind hk hc z (λh' tI hs=>?_);let(oc,hoc,ZL):=id z;show h {s with heap:=h'} (I.ok,I.os,I.bare,(λb o e n hb hx=>?_,λb o e n hb hx=>?_,I.base.free,λb o e hx=>?_,I.base.sj,I.base.rA,I.base.sD),(m,hn.sameBut hs (Ne.symm (Ka x c hc)),λj y v' e1 e2 e3=>?_),λy c' e=>?_,I.free,I.rZ,λp hp=>?_,tracked (oc,hoc,I.rZ x c hc) hs,by simpa using I.len) (c,hs,.inr hc)
  .show(hs.2 b (abF (aaW (aaV e) (I.ok.cab x c hfn hc)))).trans (I.base.keep b o e n hb hx)
  .let(sl,e1):=I.base.slot b o e n hb hx;show(sl,(hs.2 b (abF (aaW (aaV e) (I.ok.cab x c hfn hc)))).trans e1)
  .let(o',e1):=I.base.there b o e hx;show(o',(hs.2 b (abF (aaW (aaV e) (I.ok.cab x c hfn hc)))).trans e1)
  .by_cases hj:j=i
   .subst hj;rw[hi]at e1;cases e1;rw[abc Xl]at e2;cases e2;show(u,r,.inr (.inl hk,c,hc,tI))
   .rw[abi (Ne.symm hj)]at e2;let(u',r',q):=hl j y v' e1 e2 e3;show(u',r',?_);rcases q with q| ⟨k,c',e,z'⟩
    .show .inl q
    .show .inr (k,c',e,z'.sameBut hs ?_);rintro rfl;show hj (Ct hN e1 (I.ok.inj _ _ _ e hc▸hi))
  .by_cases Rc:c'=c
   .subst Rc;show(_,tI)
   .let(w2,z2):=I.cell y c' e;show(w2,z2.sameBut hs Rc)
  .let(e,n,ne,nf,d):=I.pin p hp;show((hs.2 p.1 ?_).trans e,n,ne,nf,d);intro q;rw[q,hoc]at e;let q':oc=p.2:=aaC e;show d w' (by rw[<-q'];show ZL)
noncomputable def oC{Q:Unit->Shared->Prop}(I:Inv X η σ H s)(hN:X.N.Nodup)(hi:X.N[i]? =!x)(hx:Loc X.env.scope x)(r:aH v u)
  (h:∀s',Inv X η (σ.set i (!v)) H s'->Q Unit.unit s') (hf:X.fn x=true\/X.env.scope.names.lookup x=some .local:=by first| exact .inl rfl| exact .inr rfl| assumption):wpAny M A (storeName X.env x u) Q E s:=
 x_ I hN hi hx r (λs' I' _=>h s' I') hf
def Inv.Xj{s':Shared}(I:Inv X η σ H s)(ho:s'.os=s.os)(u:Un (sG X.stack) ch H H' s.heap s'.heap)(aS:mB X.prog X.w H' s'.heap)(hg:AllBare s'.gens)
  (C3:∀b∈ch,(b∈X.ex\/X.s₀.heap.objs.size<=b)/\b≠X.env.locals/\(∀x c,X.env.cells.lookup x=!c->c≠b)/\∀p∈X.pn++η,p.1≠b):Inv X η σ H' s':=by
 let(h',g',d',t',o'):=s';let e:o'=s.os:=ho;subst e;show I.call (g':=g') (t':=t') (d':=d') u aS hg C3
end
abbrev XK:=Value->Option Addr->Hp->Prop
abbrev St:=List (Option V)
variable{σ:St}
abbrev VK:=V->Hp->Prop
abbrev TE:=St->Hp->VK->Prop
variable{ta te:TE}
abbrev TT:=St->Hp->(Bool->Hp->Prop)->Prop
abbrev TA:=St->Hp->(List V->Hp->Prop)->Prop
variable{t:TA}
structure AD where
 nx:St->Hp->Prop
 rt:VK
 bk:St->Hp->Prop:=λ_ _=>False
 ct:St->Hp->Prop:=λ_ _=>False
abbrev TS:=AD->St->Hp->Prop
def EP(X:Cx)(η:List (Addr×Obj))(σ:St)(Q:VK)(u:Value)(s':Shared):Prop:=∃v H',Inv X η σ H' s'/\aH v u/\Q v H'
def TP(X:Cx)(η:List (Addr×Obj))(σ:St)(Q:Bool->Hp->Prop)(b:Bool)(s':Shared):Prop:=∃H',Inv X η σ H' s'/\Q b H'
def AP(X:Cx)(η:List (Addr×Obj))(σ:St)(Q:List V->Hp->Prop)(us:List Value)(s':Shared):Prop:=∃vs H',Inv X η σ H' s'/\aC vs us/\Q vs H'
def SP(X:Cx)(η:List (Addr×Obj))(D:AD)(f:Flow)(s':Shared):Prop:=
 match f with
 | .next=>∃σ' H',Inv X η σ' H' s'/\D.nx σ' H'
 | .brk=>∃σ' H',Inv X η σ' H' s'/\D.bk σ' H'
 | .cont=>∃σ' H',Inv X η σ' H' s'/\D.ct σ' H'
 | .ret u=>∃v σ' H',Inv X η σ' H' s'/\aH v u/\D.rt v H'
def PE(X:Cx)(e:Expr)(t:TE):Prop:=
 ∀(η:List (Addr×Obj)) (s:Shared) (σ:St) (H:Hp) (Q:VK),Inv X η σ H s->t σ H Q->wpAny (model X.prog X.w) X.A (eval e X.env) (EP X η σ Q) X.xe s
def PT(X:Cx)(e:Expr)(t:TT):Prop:=
 ∀(η:List (Addr×Obj)) (s:Shared) (σ:St) (H:Hp) (Q:Bool->Hp->Prop),Inv X η σ H s->t σ H Q->wpAny (model X.prog X.w) X.A (isTrue e X.env (eval e X.env)) (TP X η σ Q) X.xe s
def PW(X:Cx)(e:Expr)(t:TT):Prop:=
 ∀(whole:Sem Value) (η:List (Addr×Obj)) (s:Shared) (σ:St) (H:Hp) (Q:Bool->Hp->Prop),Inv X η σ H s->t σ H Q->wpAny (model X.prog X.w) X.A (isTrue e X.env whole) (TP X η σ Q) X.xe s
def PA(X:Cx)(es:List Expr)(t:TA):Prop:=
 ∀(pos:Pos) (η:List (Addr×Obj)) (s:Shared) (σ:St) (H:Hp) (Q:List V->Hp->Prop),Inv X η σ H s->t σ H Q->wpAny (model X.prog X.w) X.A (spliced (backTo pos (starEach es X.env))) (AP X η σ Q) X.xe s
def PS(X:Cx)(st:Stmt)(t:TS):Prop:=
 ∀(η:List (Addr×Obj)) (s:Shared) (σ:St) (H:Hp) (D:AD),Inv X η σ H s->t D σ H->wpAny (model X.prog X.w) X.A (exec st X.env) (SP X η D) X.xe s
def Jx(X:Cx)(st:List Stmt)(t:TS):Prop:=
 ∀(η:List (Addr×Obj)) (s:Shared) (σ:St) (H:Hp) (D:AD),Inv X η σ H s->t D σ H->wpAny (model X.prog X.w) X.A (execs st X.env) (SP X η D) X.xe s
def bG{α:Type}{t:Sem α}{Q Q':α->Shared->Prop}(h:wpAny M A t Q E s)(hQ:∀a s,Q a s->Q' a s):wpAny M A t Q' E s:=acV h hQ λ_ _ x=>x
section
def Y8(i:Nat):TE:=λσ H Q=>∃v,σ[i]? =!(!v)/\Q v H
def tC(v:V):TE:=λ_ H Q=>Q v H
def SI(hN:X.N[i]? =!x)(hv:Vis X.env.scope x)(hd:(x==("__debug__":Str))=false|>2)(D1:(x==("__classdict__":Str))=false|>2):PE X (.Name x pos) (Y8 i):=by
 intro η s σ H Q I h;let(v,e,h):=h;let(m,hn,hl):=I.loc;let(u,r,l):=hl i x v hN e hv;let fin:EP X η σ Q u s:=(v,H,I,r,h);rcases l with ⟨hk,hm⟩| ⟨hk,c,hc,QO⟩
 .show wpAny_Name (wpAny_loadName_local I.ok.kind hk hn hm fin) hd
 .rcases hk with hk| hk
  .show wpAny_Name (wpAny_loadName_cell I.ok.kind hk hc QO fin) hd
  .show wpAny_Name (wpAny_loadName_free I.ok.kind hk hc QO fin D1) hd
def Sj{i j pos}:PE X (.Constant (.int i) j pos) (tC (.int i)):=λ_ _ _ H _ I h=>wpAny_Constant_int (.int i,H,I.tok _,(_,rfl),h)
def VI{b j pos}:PE X (.Constant (.bool b) j pos) (tC (.bl b)):=λ_ _ _ H _ I h=>Constant_bool (.bl b,H,I,rfl,h)
def S6{j pos}:PE X (.Constant .none j pos) (tC .bc):=λ_ _ _ H _ I h=>Constant_none (.bc,H,I,rfl,h)
def Sb{x j pos}:PE X (.Constant (.str x) j pos) (tC (.str x)):=λ_ _ _ H _ I h=>Calls.Constant_str (.str x,H,I.tok _,(_,rfl),h)
def Gl(X:Cx)(x:Str):Prop:=X.env.kindOf x=some .globalImplicit
def oX{H:Hp}(I:Inv X η σ H s)(hg:Gl X x)(hm:X.mg x=!u)(h:Q u s)
  (hd:(x==("__debug__":Str))=false|>2):wpAny (model X.prog X.w) X.A (eval (.Name x pos) X.env) Q E s:=
 Calls.Name_function_global I.ok.kind hg (Calls.loadGlobal_global (by rw[I.ok.glob];show I.mod.glob.keeps I.bk) hm h) hd
def nA{H:Hp}(I:Inv X η σ H s)(hg:Gl X x)(hm:X.mg x=none)(hv:bootBuiltins x=!u)(h:Q u s)
  (hn:x≠"__name__"|>2) (hd:(x==("__debug__":Str))=false|>2):wpAny (model X.prog X.w) X.A (eval (.Name x pos) X.env) Q E s:=by
 let(mb,h1,h2):=I.mod.blt;show Calls.Name_function_global I.ok.kind hg (Calls.loadGlobal_builtin (by rw[I.ok.glob];show I.mod.glob.keeps I.bk) hm (by rw[I.ok.blt];show h1.keeps I.bk) ((h2 x hn).trans hv) h) hd
def FE(hg:Gl X x)(hm:X.mg x=!u)(r:aH v u)(hd:(x==("__debug__":Str))=false|>2):PE X (.Name x pos) (tC v):=
 λ_ _ _ H _ I h=>oX I hg hm (v,H,I,r,h) hd
def OC(hg:Gl X x)(hm:X.mg x=none)(hv:bootBuiltins x=!u)(r:aH v u)(hn:x≠"__name__"|>2)(hd:(x==("__debug__":Str))=false|>2):PE X (.Name x pos) (tC v):=
 λ_ _ _ H _ I h=>nA I hg hm hv (v,H,I,r,h) hn hd
variable{a b:Expr}{tb:TE}
def tB(t:TE):TT:=λσ H Q=>t σ H λx H1=>∃c,x= .bl c/\Q c H1
def Sv{t:TE}(h:PE X e t)(he:(∀whole,isTrue e X.env whole=(do let  v<-whole;standAt e.pos;holding [v] (truthy v)))|>3):PT X e (tB t):=by intro η s σ H Q I hw;show isTrue_plain (bG (h η s σ H _ I hw) λv s1 xz=>?_) (he _);let(x,H1,I1,r1,q1):=xz;let(d,rfl,q):=q1;cases r1;show wpAny_truthy_bool (H1,I1,q)
variable{tA VP:TT}{rest:List Expr}
def aaX(t u:TT):TT:=λσ H Q=>t σ H λc H1=>if c=true then u σ H1 Q else Q false H1
def tOr(t u:TT):TT:=λσ H Q=>t σ H λc H1=>if c=true then Q true H1 else u σ H1 Q
def aal(t:TT):TT:=λσ H Q=>t σ H λc H1=>Q (! c) H1
def pw_and1(ha:PT X a tA):PW X (.BoolOp .And [a] pos) tA:=by
 intro wh η s σ H Q I h;show isTrue_and (bG (ha η s σ H Q I h) λc s1 e=>?_);cases c with
 | true=>show isTrue_and_nil e
 | false=>show e
def pw_or1(ha:PT X a tA):PW X (.BoolOp .Or [a] pos) tA:=by
 intro wh η s σ H Q I h;show isTrue_or (bG (ha η s σ H Q I h) λc s1 e=>?_);cases c with
 | false=>show isTrue_or_nil e
 | true=>show e
def pw_and(ha:PT X a tA)(hb:PW X (.BoolOp .And (b::rest) pos) VP):PW X (.BoolOp .And (a::b::rest) pos) (aaX tA VP):=by
 intro wh η s σ H Q I h;show isTrue_and (bG (ha η s σ H _ I h) λc s1 xz=>?_);let(H1,I1,q1):=xz;cases c with
 | true=>show hb wh η s1 σ H1 Q I1 q1
 | false=>show(H1,I1,q1)
def pw_or(ha:PT X a tA)(hb:PW X (.BoolOp .Or (b::rest) pos) VP):PW X (.BoolOp .Or (a::b::rest) pos) (tOr tA VP):=by
 intro wh η s σ H Q I h;show isTrue_or (bG (ha η s σ H _ I h) λc s1 xz=>?_);let(H1,I1,q1):=xz;cases c with
 | true=>show(H1,I1,q1)
 | false=>show hb wh η s1 σ H1 Q I1 q1
def TN(ha:PT X a tA):PT X (.UnaryOp .Not a pos) (aal tA):=by intro η s σ H Q I h;show isTrue_not (ha η s σ H (λc H1=>Q (! c) H1) I h)
def Vl(ta tb:TE):TE:=λσ H Q=>ta σ H λx H1=>∃c,x= .bl c/\if c=true then tb σ H1 Q else Q (.bl false) H1
def Xp(ta:TE):TE:=λσ H Q=>ta σ H λx H1=>∃c,x= .bl c/\Q (.bl (! c)) H1
def Q2{op}{t:TE}(h:PE X a t):PE X (.BoolOp op [a] pos) t:=λη s σ H Q I hw=>BoolOp_one (h η s σ H Q I hw)
def Rq(ha:PE X a ta)(hb:PE X (.BoolOp .And (b::rest) pos) tb):PE X (.BoolOp .And (a::b::rest) pos) (Vl ta tb):=by
 intro η s σ H Q I h;show BoolOp_and (bG (ha η s σ H _ I h) λv s1 xz=>?_);let(x,H1,I1,r1,q1):=xz;let(c,rfl,q1):=q1;cases r1;show wpAny_truthy_bool ?_;cases c with
 | true=>show hb η s1 σ H1 Q I1 q1
 | false=>show(.bl false,H1,I1,rfl,q1)
def T3(ha:PE X a ta):PE X (.UnaryOp .Not a pos) (Xp ta):=by intro η s σ H Q I h;show UnaryOp_ (bG (ha η s σ H _ I h) λv s1 xz=>?_);let(x,H1,I1,r1,q1):=xz;let(c,rfl,q1):=q1;cases r1;show not_of (wpAny_truthy_bool (.bl (! c),H1,I1,rfl,q1))
def tIf(t:TT)(ta tb:TE):TE:=λσ H Q=>t σ H λc H1=>if c=true then ta σ H1 Q else tb σ H1 Q
def Mq(hc:PT X c tA)(ha:PE X a ta)(hb:PE X b tb):PE X (.IfExp c a b pos) (tIf tA ta tb):=by
 intro η s σ H Q I h;show wpAny_IfExp (bG (hc η s σ H _ I h) λd s1 xz=>?_);let(H1,I1,q1):=xz;cases d with
 | true=>show ha η s1 σ H1 Q I1 q1
 | false=>show hb η s1 σ H1 Q I1 q1
end
def h7(K:fI)(H:Hp)(a:Addr)(xs:List V):Prop:=
 Rd H a (.lst xs)\/
  ∃(o:Obj) (its:Array Value) (n:Nat),K.lookup a=!o/\o.cls= .type "list"/\o.dict=none/\o.data= .seq its n/\its.size<=sizeLine/\aC xs its.toList
def pH(K:fI)(H:Hp)(a:Addr)(xs:List V):Prop:=
 Rd H a (.tup xs)\/
  ∃(o:Obj) (its:Array Value) (n:Nat),K.lookup a=!o/\o.cls= .type "tuple"/\o.data= .seq its n/\its.size<=sizeLine/\aC xs its.toList
noncomputable def YO:Value->Option V
 | .none=>some .bc
 | .bool b=>!(.bl b)
 | .int i _=>!(.int i)
 | .str x _=>!(.str x)
 | .bytes b _=>!(.JF b)
 | .float b _=>!(.TL b)
 | .ref a=>!(.ref a)
 | .type n=>!(.ty n)
 | _=>none
def aH.abs{x:V}(r:aH x u):YO u=!x:=by
 cases x with
 | bc=>cases r;rfl
 | bl _=>cases r;rfl
 | int _=>let(t,rfl):=r;rfl
 | str _=>let(t,rfl):=r;rfl
 | JF _=>let(t,rfl):=r;rfl
 | TL _=>let(t,rfl):=r;rfl
 | ref _=>cases r;rfl
 | ty _=>cases r;rfl
def aH.inj{x:V}{u:Value}(r:aH x u)(q:aH y u):x=y:=aaC (r.abs.symm.trans q.abs)
def aC.inj:∀{xs ys:List V} {us:List Value},aC xs us->aC ys us->xs=ys
 | _,_,_,.nil,.nil=>rfl
 | _,_,_,.cons r t,.cons r' t'=>by rw[r.inj r',aC.inj t t']
section
variable{H:Hp}{xs ys:List V}
def h7.of{K:fI}(h:H a=!(.lst xs)):h7 K H a xs:=.inl (.inl h)
def pH.of{K:fI}(h:H a=!(.tup xs)):pH K H a xs:=.inl (.inl h)
def Inv.list(I:Inv X η σ H s)(h:h7 X.K H a xs):∃its:List Value,aC xs its/\PlainL s.heap a its.toArray/\-xs<=sizeLine:=by
 rcases h with h| ⟨o,its,n,hk,hc,hd,hs,hz,r⟩
 .let(z,its,n,r,e):=h.ok I.aS;show(its,r,(_,n,e,rfl,rfl,rfl),z)
 .show(its.toList,r,(o,n,I.pU a o hk,hc,hd,by simpa using hs),?_);let e:=-r;simp only[Array.length_toList]at e;omega
def Inv.tuple(I:Inv X η σ H s)(h:pH X.K H a xs):∃its:List Value,aC xs its/\IsTup s.heap a its.toArray/\-xs<=sizeLine:=by
 rcases h with h| ⟨o,its,n,hk,hc,hs,hz,r⟩
 .let(z,its,r,p):=h.ok I.aS;show(its,r,p,z)
 .show(its.toList,r,(o,I.pU a o hk,hc,n,by simpa using hs),?_);let e:=-r;simp only[Array.length_toList]at e;omega
def Inv.iI(I:Inv X η σ H s)(h:h7 X.K H a xs)(h':h7 X.K H a ys):xs=ys:=by
 let(its,r,(o,n,e,_,_,d),_):=I.list h;let(its',r',(o',n',e',_,_,d'),_):=I.list h';rw[e]at e';cases e';rw[d]at d';injection d' with d1 _
 have:its=its':=by simpa using congrArg Array.toList d1
 subst this;show r.inj r'
def Inv.xV(I:Inv X η σ H s)(h:pH X.K H a xs)(h':pH X.K H a ys):xs=ys:=by
 let(its,r,(o,e,_,n,d),_):=I.tuple h;let(its',r',(o',e',_,n',d'),_):=I.tuple h';rw[e]at e';cases e';rw[d]at d';injection d' with d1 _
 have:its=its':=by simpa using congrArg Array.toList d1
 subst this;show r.inj r'
end
section
variable{st:Stmt}{rest:List Stmt}{t u:TS}
def UL:TS:=λD σ H=>D.nx σ H
def ZP(t u:TS):TS:=λD σ H=>t {D with nx:=u D} σ H
def OX:Jx X [] UL:=λ_ _ σ H _ I h=>wpAny_execs_nil (σ,H,I,h)
def MJ(h1:PS X st t)(h2:Jx X rest u):Jx X (st::rest) (ZP t u):=by
 intro η s σ H D I h;show wpAny_execs_cons (bG (h1 η s σ H {D with nx:=u D} I h) λf s1 q=>?_);cases f with
 | next=>
  let(σ',H',I',q):=q;show h2 η s1 σ' H' D I' q
 | ret v=>show q
 | brk=>show q
 | cont=>show q
def NJ(h1:PS X st t):Jx X [st] t:=by
 intro η s σ H D I h;show wpAny_execs_cons (bG (h1 η s σ H D I h) λf s1 q=>?_);cases f with
 | next=>show wpAny_execs_nil q
 | ret v=>show q
 | brk=>show q
 | cont=>show q
def VS:TS:=λD σ H=>D.ct σ H
def Bl:PS X (.Continue pos) VS:=λ_ _ σ H _ I h=>wpAny_Continue (σ,H,I,h)
def Inv.quiet{H:Hp}(I:Inv X η σ H s):interactive X.env=false:=by simp[interactive,I.ok.kind]
def Xf(te:TE):TS:=λD σ H=>te σ H λ_ H1=>D.nx σ H1
def OA(he:PE X e te)(hs:swapsWith e none pos.line X.env=pure false|>1):PS X (.Expr e pos) (Xf te):=by intro η s σ H D I h;show wpAny_Expr_any (bG (he η s σ H _ I h) λv s1 (x,H1,I1,r1,q1)=>(σ,H1,I1,q1)) I.quiet hs
def aaK(te:TE):TS:=λD σ H=>te σ H D.rt
def S9(he:PE X e te):PS X (.Return (!e) pos) (aaK te):=by intro η s σ H D I h;show wpAny_Return_some (bG (he η s σ H _ I h) λv s1 (x,H1,I1,r1,q1)=>(x,σ,H1,I1,r1,q1))
def aaR(c:TT)(t u:TS):TS:=λD σ H=>c σ H λb H1=>if b=true then t D σ H1 else u D σ H1
def U9{a b:List Stmt}(hc:PT X c tc)(ha:Jx X a t)(hb:Jx X b u):PS X (.If c a b pos) (aaR tc t u):=by
 intro η s σ H D I h;show wpAny_If (bG (hc η s σ H _ I h) λd s1 xz=>?_);let(H1,I1,q1):=xz;cases d with
 | true=>show ha η s1 σ H1 D I1 q1
 | false=>show hb η s1 σ H1 D I1 q1
end
abbrev TG:=V->St->Hp->(St->Hp->Prop)->Prop
abbrev Rx:=List V->St->Hp->(St->Hp->Prop)->Prop
def PG(X:Cx)(target:Expr)(t:TG):Prop:=
 ∀(η:List (Addr×Obj)) (s:Shared) (σ:St) (H:Hp) (v:V) (u:Value) (Q:St->Hp->Prop),Inv X η σ H s->aH v u->t v σ H Q->
  wpAny (model X.prog X.w) X.A (assign target X.env u) (λ_ s'=>∃σ' H',Inv X η σ' H' s'/\Q σ' H') X.xe s
def XU(X:Cx)(ts:List Expr)(t:Rx):Prop:=
 ∀(η:List (Addr×Obj)) (s:Shared) (σ:St) (H:Hp) (vs:List V) (us:List Value) (Q:St->Hp->Prop),Inv X η σ H s->aC vs us->t vs σ H Q->
  wpAny (model X.prog X.w) X.A (assignInOrder ((assignEach ts X.env).map (·.2)) us) (λ_ s'=>∃σ' H',Inv X η σ' H' s'/\Q σ' H') X.xe s
abbrev Tt:=V->V->V->Hp->(Hp->Prop)->Prop
def Wy(X:Cx)(t:Tt):Prop:=
 ∀(η:List (Addr×Obj)) (s:Shared) (σ:St) (H:Hp) (o i v:V) (ov iv u:Value) (Q:Hp->Prop),Inv X η σ H s->aH o ov->aH i iv->aH v u->t o i v H Q->
  wpAny (model X.prog X.w) X.A (setItem ov iv u) (λ_ s'=>∃H',Inv X η σ H' s'/\Q H') X.xe s
section
set_option tactic.hygienic false
def jE(i:Nat):TG:=λv σ H Q=>Q (σ.set i (!v)) H
noncomputable def ai(hN:X.N.Nodup)(hi:X.N[i]? =!x)(hx:Loc X.env.scope x)(hf:X.fn x=true\/X.env.scope.names.lookup x=some .local:=by first| exact .inl rfl| exact .inr rfl| assumption):PG X (.Name x pos) (jE i):=by intro η s σ H v u Q I r h;show wpAny_assign_Name (oC I hN hi hx r (λs' I'=>(_,H,I',h)) hf)
def JR:Rx:=λvs σ H Q=>vs=[]/\Q σ H
def oY(t:TG)(u:Rx):Rx:=λvs σ H Q=>∃v r,vs=v::r/\t v σ H λσ' H'=>u r σ' H' Q
def mq:XU X [] JR:=by intro η s σ H vs us Q I r h;let(e,h):=h;subst e;cases r;show assignInOrder_nil (σ,H,I,h)
def cP{t:TG}{u:Rx}(h1:PG X e t)(h2:XU X es u)
  (hs:(assignEach (e::es) X.env).map (·.2)=assign e X.env::(assignEach es X.env).map (·.2)|>1):XU X (e::es) (oY t u):=by
 intro η s σ H vs us Q I r h;let(v,vr,e1,h):=h;subst e1;cases r with
 | cons r rr=>
  rw[hs];show assignInOrder_cons (bG (h1 η s σ H _ _ _ I r h) λ_ s1 xz=>?_);let(σ1,H1,I1,q1):=xz;show h2 η s1 σ1 H1 _ _ Q I1 rr q1
def MY(K:fI)(n:Nat)(t:Rx):TG:=λv σ H Q=>∃a xs,v= .ref a/\pH K H a xs/\-xs=n/\t xs σ H Q
def rC{k:Nat}{t:Rx}{n:Nat}(hc:X.calm=true)(h:XU X es t)
  (hn:-(assignEach es X.env)=n|>1) (OJ:(assignEach es X.env).findIdx? (·.1)=none|>1):PG X (.Tuple es k pos) (MY X.K n t):=by
 intro η s σ H v u Q I r hw;let(a,xs,e1,hq,hl,hw):=hw;subst e1;cases r;let(its,rv,ht,hz):=I.tuple hq;show assign_Tuple_tuple (I.ok.hd hc) ht (by simp[hn,<-hl,(-rv)]) OJ λh' hx=>?_;let I1:Inv X η σ H {s with heap:=h'}:=I.kept (t':=s.toks) λb o e=>hx b o (abF (aaV e)) e;show h η _ σ H xs _ Q I1 (by simpa using rv) hw
def aaz(to ti:TE)(t:Tt):TG:=λv σ H Q=>to σ H λo H1=>ti σ H1 λi H2=>t o i v H2 λH3=>Q σ H3
def Q7{o i:Expr}{t:Tt}(ho:PE X o to)(hi:PE X i ti)(hs:Wy X t)
  (ha:(∀v,assign (.Subscript o i pos) X.env v=(do
   let  ov<-holding [v] (eval o X.env)
   let  iv<-holding [v,ov] (eval i X.env)
   standAt pos
   holding [v,ov,iv] (setItem ov iv v)
   release [v,ov,iv] []))|>3):PG X (.Subscript o i pos) (aaz to ti t):=by
 intro η s σ H v u Q I r h;rw[ha];show aaw (wpAny_holding (bG (ho η s σ H _ I h) λov s1 xz=>?_));let(x,H1,I1,r1,q1):=xz;show aaw (wpAny_holding (bG (hi η s1 σ H1 _ I1 q1) λiv s2 xz=>?_));let(y,H2,I2,r2,q2):=xz;show aaw (wpAny_standAt (aaw (wpAny_holding (bG (hs η s2 σ H2 x y v ov iv u _ I2 r1 r2 r q2) λ_ s3 xz=>?_))));let(H3,I3,q3):=xz;show wpAny_release (σ,H3,I3,q3)
def Wu(te:TE)(g:TG):TS:=λD σ H=>te σ H λx H1=>g x σ H1 D.nx
def LQ{g:TG}(he:PE X e te)(hg:PG X tg g)(hs:swapsWithSole [tg] e pos.line X.env=pure false|>1)(hw:swappedStores [tg] e X.env=pure none|>1)
  (h1:(assignEach [tg] X.env).map (·.2)=[assign tg X.env]|>1):PS X (.Assign [tg] e pos) (Wu te g):=by
 intro η s σ H D I h;show wpAny_Assign_stores (bG (he η s σ H _ I h) λv s1 xz=>?_) hs hw;let(x,H1,I1,r1,q1):=xz;rw[h1];show bG (hg η s1 σ H1 x v _ I1 r1 q1) λ_ s2 q=>q
noncomputable def Q3(hN:X.N.Nodup)(hi:X.N[i]? =!x)(hx:Loc X.env.scope x)(he:PE X e te)(hs:swapsWith e (!(.Name x pos')) pos.line X.env=pure false|>1)(hf:X.fn x=true\/X.env.scope.names.lookup x=some .local:=by first| exact .inl rfl| exact .inr rfl| assumption):
  PS X (.Assign [.Name x pos'] e pos) (Wu te (jE i)):=by
 intro η s σ H D I h;show wpAny_Assign_Name (bG (he η s σ H _ I h) λv s1 xz=>?_) hs;let(y,H1,I1,r1,q1):=xz;show oC I1 hN hi hx r1 (λs2 I2=>(_,H1,I2,q1)) hf
def Yy(i j:Nat)(ta:TA):TS:=λD σ H=>ta σ H λvs H1=>∃v w,vs=[v,w]/\D.nx ((σ.set i (!v)).set j (!w)) H1
def RM{j:Nat}{a b:Expr}{ta:TA}{kt k2 R6}(hc:X.calm=true)(hN:X.N.Nodup)(hi:X.N[i]? =!x)(hj:X.N[j]? =!y)(Y':i≠j)
  (hx:X.env.scope.names.lookup x=some .local) (hy:X.env.scope.names.lookup y=some .local) (ha:PA X [a,b] ta)
  (hw:swappedStores [.Tuple [.Name x px,.Name y py] kt pt] (.Tuple [a,b] k2 R6) X.env=pure (![x,y]))
  (hs:swapsWithSole [.Tuple [.Name x px,.Name y py] kt pt] (.Tuple [a,b] k2 R6) pos.line X.env=pure false|>1):
  PS X (.Assign [.Tuple [.Name x px,.Name y py] kt pt] (.Tuple [a,b] k2 R6) pos) (Yy i j ta):=by
 intro η s σ H D I h;rw[exec_Assign_arm];show aaw (wpAny_standAt ?_);rw[hs];show aaw (abt ?_);rw[aa3 @_];show aaw (Tuple_ (bG (ha _ η s σ H _ I h) λus s1 xz=>?_));let(vs,H1,I1,r1,q1):=xz;let(v,w,e1,q1):=q1;subst e1;obtain⟨u1,u2,rfl,rv,IF⟩:∃u1 u2,us=[u1,u2]/\aH v u1/\aH w u2:=by
  cases r1 with
  | cons p q=>
   cases q with
   | cons p' q'=>
    cases q';show(_,_,rfl,p,p')
 show wpAny_newObj_type ?_ k3;let I2:Inv X η σ H1 {s1 with heap:=s1.heap.push {cls:=.type "tuple",data:=.seq [u1,u2].toArray}}:=I1.kept (t':=s1.toks) λb o e=>aat _ e;rw[hw];show aaw (abt ?_);change wpAny (model X.prog X.w) X.A (do rule "assign.swapped-stores";let  items<-unpackItems (.ref s1.heap.objs.size) 2 none;assignInOrder [λv=>bindName X.env y v,λv=>bindName X.env x v] items.reverse;pure Flow.next) _ _ _;show aaw (wpAny_rule (aaw (unpackItems_tuple (items:= #[u1,u2]) (I.ok.hd hc) (IsTup.new s1.heap _) λh' VN=>?_)));let I3:=I2.kept (h':=h') (t':=s1.toks) λb o e=>VN b o (abF (aaV e)) e;change wpAny _ _ (assignInOrder [λv=>bindName X.env y v,λv=>bindName X.env x v] [u2,u1] >>= λ_=>pure Flow.next) _ _ _;show aaw (assignInOrder_cons (wpAny_bindName (oC I3 hN hj (.inl hy) IF (λs2 I4=>?_) (.inr hy))));show assignInOrder_cons (wpAny_bindName (oC I4 hN hi (.inl hx) rv (λs3 I5=>assignInOrder_nil (abt ?_)) (.inr hx)));rw[List.set_comm _ _ (Ne.symm Y')]at I5;show(_,H1,I5,q1)
end
section
def Tf(c:TT)(tb:TS):TS:=λD σ H=>∃W:Nat->St->Hp->Prop,(∃m,W m σ H)/\∀m σ H,W m σ H->
 c σ H λb H1=>if b=true then∃N:St->Hp->Prop,(∀σ' H',N σ' H'->∃m',m' < m/\W m' σ' H')/\tb {D with nx:=N,ct:=N,bk:=D.nx} σ H1 else D.nx σ H1
def Kf(hp:PassesOwn (model X.prog X.w) X.A X.env X.xe)(hc:PT X c tc)(hb:Jx X body tb):PS X (.While c body [] pos) (Tf tc tb):=by
 intro η s σ H D I h;let(W,(m0,w0),turn):=h;show wpAny_While (codeAny_whileLoop (λn s'=>∃σ' H',Inv X η σ' H' s'/\W n σ' H') ?_ m0 (σ,H,I,w0));rintro n s1 ⟨σ1,H1,I1,w1⟩;show wpAny_passesOwn hp (bG (hc η s1 σ1 H1 _ I1 (turn n σ1 H1 w1)) λb s2 xz=>?_);let(H2,I2,q2):=xz;cases b with
 | true=>
  let(N,hN,q2):=q2;rw[aa0 rfl];show wpAny_passesOwn hp (bG (hb η s2 σ1 H2 _ I2 q2) λf s3 q3=>?_);cases f with
  | next=>
   let(σ3,H3,I3,n3):=q3;let(m',hm,w3):=hN σ3 H3 n3;show(m',hm,σ3,H3,I3,w3)
  | cont=>
   let(σ3,H3,I3,n3):=q3;let(m',hm,w3):=hN σ3 H3 n3;show(m',hm,σ3,H3,I3,w3)
  | brk=>show q3
  | ret v=>show q3
 | false=>
  rw[aa3 aa8];show wpAny_execs_nil (σ1,H2,I2,q2)
end
set_option tactic.hygienic false
structure It where
 go:Nat->Hp->Prop
 V8:Nat->Hp->V->Hp->Prop
 stop:Nat->Hp->Prop
def tG(X:Cx)(η:List (Addr×Obj))(H:Hp)(b:Addr):Prop:=
 H b=none/\b≠X.env.locals/\b∉X.fs/\(b∈X.ex\/X.s₀.heap.objs.size<=b)/\(∀x c,X.env.cells.lookup x=!c->c≠b)/\∀p∈X.pn++η,p.1≠b
def Inv.DU{H H':Hp}(I:Inv X η σ H s)(hb:s.heap.objs.size<=b)(hn:H' b=none):tG X η H' b:=by
 show(hn,adu (aaW I.lt hb),I.Zx hb,.inr (aaF I.sz hb),λx c e z=>?_,λp hp z=>?_)
 .let(v,q):=I.cell x c e;show abe (aaW q.lt (by rw[z];show hb)) (acn _)
 .show abe (aaW (aaV (I.pin p hp).1) (by rw[z];show hb)) (acn _)
structure Turn(P:Program)(w:World)(K:fI)(tg:Expr)(J:It)(fp:List Addr)(it:Addr)(tn:Nat->Heap->Prop):Prop where
 mem:it∈fp
 obj:∀i h,tn i h->∀b∈fp,∃o,h.get? b=!o/\∀v,o.data≠ .cell v
 keep:∀i h h',tn i h->(∀b∈fp,∀o,h.get? b=!o->h'.get? b=!o)->tn i h'
 item:∀(X:Cx),X.prog=P->X.w=w->X.K=K->X.calm=true->∀(i:Nat) (η:List (Addr×Obj)) (s:Shared) (σ:St) (H:Hp) (E:Value->Shared->Prop),Inv X η σ H s->(∀b∈fp,tG X η H b)->tn i s.heap->J.go i H->
  wpAny (model P w) X.A (pyNext (.ref it)) (λr s1=>∃u,r=!u/\
   wpAny (model P w) X.A (letOwnedTupleGo tg (.ref it) u) (λ_ s2=>∃x H',Inv X η σ H' s2/\aH x u/\J.V8 i H x H'/\tn (i+1) s2.heap/\∀b∈fp,H' b=none) E s1) E s
 done:∀(X:Cx),X.prog=P->X.w=w->X.K=K->X.calm=true->∀(i:Nat) (η:List (Addr×Obj)) (s:Shared) (σ:St) (H:Hp) (E:Value->Shared->Prop),Inv X η σ H s->(∀b∈fp,tG X η H b)->tn i s.heap->J.stop i H->
  wpAny (model P w) X.A (pyNext (.ref it)) (λr s1=>r=none/\Inv X η σ H s1) E s
 self:∀(A:Around) (i:Nat) (s:Shared) (Q:Value->Shared->Prop) (E:Value->Shared->Prop),tn i s.heap->Q (.ref it) s->wpAny (model P w) A (pyIter (.ref it)) Q E s
abbrev TI:=St->Hp->(It->Hp->Prop)->Prop
def ND(X:Cx)(η:List (Addr×Obj))(σ:St)(tg:Expr)(R:It->Hp->Prop)(X8:Value)(s2:Shared):Prop:=
 ∃(it:Addr) (fp:List Addr) (tn:Nat->Heap->Prop) (J:It) (H':Hp),X8= .ref it/\Inv X η σ H' s2/\Turn X.prog X.w X.K tg J fp it tn/\tn 0 s2.heap/\(∀b∈fp,tG X η H' b)/\R J H'
def PI(X:Cx)(tg iter:Expr)(wi:TI):Prop:=
 ∀(η:List (Addr×Obj)) (s:Shared) (σ:St) (H:Hp) (R:It->Hp->Prop),Inv X η σ H s->wi σ H R->
  wpAny (model X.prog X.w) X.A (eval iter X.env) (λv s1=>wpAny (model X.prog X.w) X.A (pyIter v) (ND X η σ tg R) X.xe s1) X.xe s
def xv{E : Value -> Shared -> Prop}     {o : Obj}   {Q : Unit -> Shared -> Prop} (ho : s.heap.get? it = !o) (hc : o.cls = .type n) (hd : o.data = .fields vs)
    (hn : ["enumerate","zip","dict_itemiterator","dict_reverseitemiterator","odict_iterator","itertools.zip_longest","itertools.pairwise"].contains n = false) (hQ : Q Unit.unit s) : wpAny M A (letOwnedTupleGo tg (.ref it) u) Q E s :=by
  unfold letOwnedTupleGo
  cases tg <;> first
    | show abt hQ
    | (cases u <;> first
        | show abt hQ
        | (show aaw (wpAny_load ho ?_)
           rw[hc,hd];change wpAny M A (if (["enumerate","zip","dict_itemiterator","dict_reverseitemiterator","odict_iterator","itertools.zip_longest","itertools.pairwise"].contains n && vs[0]? == !(rawInt _)) = true then _ else _) Q E s;rw[aa3 (by intro h;rw[hn,Bool.false_and]at h;cases h)]
           show abt hQ))
def XR(K:fI)(a:Addr):It:=
 ⟨λi H=>∃xs x,h7 K H a xs/\xs[i]? =!x,λi H x H'=>H'=H/\∀xs,h7 K H a xs->xs[i]? =!x,λi H=>∃xs,h7 K H a xs/\-xs<=i⟩
def Itt(K:fI)(a:Addr):It:=
 ⟨λi H=>∃xs x,pH K H a xs/\xs[i]? =!x,λi H x H'=>H'=H/\∀xs,pH K H a xs->xs[i]? =!x,λi H=>∃xs,pH K H a xs/\-xs<=i⟩
def Xz(lo:Int)(n:Nat):It:=(λi _=>i < n,λi H x H'=>H'=H/\x= .int (lo+i),λi _=>n<=i)
def IM{K:fI}(a it:Addr):Turn P w K tg (XR K a) [it] it (λi h=>h.IsListIter it a i) where
 mem:=by simp
 obj:=λi h st b hb=>by
  let e:b=it:=by simpa using hb
  subst e;let(o,e,c,d):=st;show(o,e,λv z=>by rw[d]at z;cases z)
 keep:=λi h h' st k=>st.at λo e=>k it (by simp) o e
 item:=by intro X hP hw hK hc i η s σ H E I hf st hg;subst hP hw hK;let(xs,x,hq,hx):=hg;let(its,rv,p,hz):=I.list hq;let(u,hu,ru):=rv.get hx;let(f0,f1,f2,f3,f4,f5):=hf it (by simp);show wpAny_pyNext_list_item st p.isList (x:=u) (by simpa using hu) λh' yI sb=>?_;let I1:Inv X η σ H {s with heap:=h'}:=I.turned (t':=s.toks) (λb o hb e=>(sb.2 b hb).trans e) f0 f1 f3 f4 f5;let(o,e,c,d):=id yI;show(u,rfl,xv (s:={s with heap:=h'}) e c d @_ (x,H,I1,ru,(rfl,λys hy=>by rw[I.iI hy hq];show hx),yI,λb hb=>(hf b hb).1))
 done:=by intro X hP hw hK hc i η s σ H E I hf st hg;subst hP hw hK;let(xs,hq,hx):=hg;let(its,rv,p,hz):=I.list hq;let(f0,f1,f2,f3,f4,f5):=hf it (by simp);let hl:=-rv;show wpAny_pyNext_list_end (I.ok.hd hc) st p.isList (by simp;omega) λh' eb=>(rfl,I.turned (t':=s.toks) (λb o hb e=>eb b o hb e) f0 f1 f3 f4 f5)
 self:=λ_ _ _ _ _ st h=>wpAny_pyIter_listiter st h
def D6{K:fI}(a it:Addr):Turn P w K tg (Itt K a) [it] it (λi h=>h.IsTupleIter it a i) where
 mem:=by simp
 obj:=λi h st b hb=>by
  let e:b=it:=by simpa using hb
  subst e;let(o,e,c,d):=st;show(o,e,λv z=>by rw[d]at z;cases z)
 keep:=λi h h' st k=>st.at λo e=>k it (by simp) o e
 item:=by intro X hP hw hK hc i η s σ H E I hf st hg;subst hP hw hK;let(xs,x,hq,hx):=hg;let(its,rv,p,hz):=I.tuple hq;let(u,hu,ru):=rv.get hx;let(f0,f1,f2,f3,f4,f5):=hf it (by simp);show wpAny_pyNext_tuple_item st (show s.heap.IsTuple a its.toArray from p) (x:=u) (by simpa using hu) λh' yI sb=>?_;let I1:Inv X η σ H {s with heap:=h'}:=I.turned (t':=s.toks) (λb o hb e=>(sb.2 b hb).trans e) f0 f1 f3 f4 f5;let(o,e,c,d):=id yI;show(u,rfl,xv (s:={s with heap:=h'}) e c d @_ (x,H,I1,ru,(rfl,λys hy=>by rw[I.xV hy hq];show hx),yI,λb hb=>(hf b hb).1))
 done:=by intro X hP hw hK hc i η s σ H E I hf st hg;subst hP hw hK;let(xs,hq,hx):=hg;let(its,rv,p,hz):=I.tuple hq;let(f0,f1,f2,f3,f4,f5):=hf it (by simp);let hl:=-rv;show wpAny_pyNext_tuple_end (I.ok.hd hc) st (show s.heap.IsTuple a its.toArray from p) (by simp;omega) λh' eb=>(rfl,I.turned (t':=s.toks) (λb o hb e=>eb b o hb e) f0 f1 f3 f4 f5)
 self:=λ_ _ _ _ _ st h=>wpAny_pyIter_tupleiter st h
def Dr{K:fI}(it:Addr)(lo:Int)(n:Nat):Turn P w K tg (Xz lo n) [it] it (λi h=>IsRangeIter h it (lo+(i:Nat) * 1) ((n:Int) - (i:Nat)) 1) where
 mem:=by simp
 obj:=λi h st b hb=>by
  let e:b=it:=by simpa using hb
  subst e
  show(_,st,λv z=>by
   let z':Data.fields _=Data.cell v:=z
   cases z')
 keep:=λi h h' st k=>k it (by simp) _ st
 item:=by intro X hP hw hK hc i η s σ H E I hf st hg;subst hP hw hK;let(f0,f1,f2,f3,f4,f5):=hf it (by simp);let W:=Walks.range (prog:=X.prog) (w:=X.w) (I.ok.hd hc) it lo 1 n;show W.item i s _ _ hg st λv h' tk hv yI kk=>?_;let(t,rfl):=hv;let I1:Inv X η σ H {s with heap:=h',toks:=tk}:=I.turned (λb o hb e=>kk b o (by simpa using hb) e) f0 f1 f3 f4 f5;show(_,rfl,xv (s:={s with heap:=h',toks:=tk}) (n:="range_iterator") yI rfl rfl @_ (.int (lo+i),H,I1,(t,?_),(rfl,rfl),yI,λb hb=>(hf b hb).1));rw[Int.mul_one]
 done:=by intro X hP hw hK hc i η s σ H E I hf st hg;subst hP hw hK;let(f0,f1,f2,f3,f4,f5):=hf it (by simp);show wpAny_pyNext_range_end (I.ok.hd hc) st (by have:n<=i:=hg;omega) λh' eb=>(rfl,I.turned (t':=s.toks) (λb o hb e=>eb b o hb e) f0 f1 f3 f4 f5)
 self:=λ_ _ _ _ _ st h=>wpAny_pyIter_rangeiter st h
set_option tactic.hygienic true
section
def BU{H:Hp}{R:It->Hp->Prop}{lo hi:Int}{t u v:Tok}{tk:Nat}(I:Inv X η σ H s)(h1: - (2 ^ 62)<=lo)(h2:lo < 2 ^ 62)(h3: - (2 ^ 62)<=hi)(h4:hi < 2 ^ 62)
  (q:R (Xz lo (hi - lo).toNat) H):wpAny (model X.prog X.w) X.A (pyIter (.ref s.heap.objs.size)) (ND X η σ tg R) E {s with heap:=s.heap.push {cls:=.type "range",data:=.fields #[.int lo t,.int hi u,.int 1 v]},toks:=tk}:=by
 show wpAny_pyIter_range (IsRange.new ..) (small_one h1 h2 h3 h4) ?_;let I1:Inv X η σ H {s with heap:=s.heap.push {cls:=.type "range",data:=.fields #[.int lo t,.int hi u,.int 1 v]},toks:=tk}:=I.kept λb o e=>aat _ e
 show((s.heap.push {cls:=.type "range",data:=.fields #[.int lo t,.int hi u,.int 1 v]}).objs.size,[(s.heap.push {cls:=.type "range",data:=.fields #[.int lo t,.int hi u,.int 1 v]}).objs.size],_,_,H,rfl,
  I1.kept (t':=tk) λb o e=>aat _ e,Dr _ lo (hi - lo).toNat,?_,λb hb=>?_,q)
 .let e1:lo+((0:Nat):Int) * 1=lo:=by simp
  let e2:(((hi - lo).toNat:Nat):Int) - ((0:Nat):Int)=Builtin.Range.rangeSize lo hi 1:=by rw[rangeSize_one];split <;> omega
  change IsRangeIter _ _ (lo+((0:Nat):Int) * 1) ((((hi - lo).toNat:Nat):Int) - ((0:Nat):Int)) 1;rw[e1,e2];show abz _ rfl
 .let e:b=(s.heap.push {cls:=.type "range",data:=.fields #[.int lo t,.int hi u,.int 1 v]}).objs.size:=by simpa using hb
  subst e;show I1.DU (aaq _) (I1.aS.fresh (aaq _))
set_option tactic.hygienic false
def Xb(ta:TA):TI:=λσ H R=>ta σ H λvs H1=>∃j:Int,vs=[.int j]/\ - (2 ^ 62)<=j/\j < 2 ^ 62/\R (Xz 0 j.toNat) H1
def W0(ta:TA):TI:=λσ H R=>ta σ H λvs H1=>∃i j:Int,vs=[.int i,.int j]/\(- (2 ^ 62)<=i/\i < 2 ^ 62/\ - (2 ^ 62)<=j/\j < 2 ^ 62)/\R (Xz i (j - i).toNat) H1
def IY{a:Expr}{ta:TA}(hg:Gl X "range")(hm:X.mg "range"=none)(ha:PA X [a] ta)(hs:starEach [a] X.env=[(false, eval a X.env)]|>1):PI X tg (.Call (.Name "range" p) [a] [] pos) (Xb ta):=by
 intro η s σ H R I h;show Call_ (nA I hg hm boot_range (PyProof.Rows.callWith_type1 (bG (ha pos η s σ H _ I h) λus s1 xz=>?_) hs rfl));let(vs,H1,I1,r1,q1):=xz;let(j,e,q1,q2,q):=q1;subst e;cases r1 with
 | cons r rr=>
  cases rr;let(t,rfl):=r;show call_range_1 (BU I1 () () q1 q2 (by simpa using q))
def ID{a b:Expr}{ta:TA}(hg:Gl X "range")(hm:X.mg "range"=none)(ha:PA X [a,b] ta)(hs:starEach [a,b] X.env=[(false, eval a X.env),(false, eval b X.env)]|>1)(RN:starEach [b] X.env=[(false, eval b X.env)]|>1):
  PI X tg (.Call (.Name "range" p) [a,b] [] pos) (W0 ta):=by
 intro η s σ H R I h;show Call_ (nA I hg hm boot_range (PyProof.Rows.callWith_type1 (bG (ha pos η s σ H _ I h) fun us s1 (vs,H1,I1,r1,q1)=>?_) (by rw[hs,RN]) (by rw[RN];rfl)));let(i,j,e,(q1,q2,q3,q4),q):=q1;subst e;cases r1 with
 | cons r rr=>
  cases rr with
  | cons r' rr=>
   cases rr;let(t,rfl):=r;let(t',rfl):=r';show call_range_2 (BU I1 q1 q2 q3 q4 q)
def Zi(wi:TI)(g:TG)(tb:TS):TS:=λD σ H=>wi σ H λJ H1=>∃W:Nat->Nat->St->Hp->Prop,(∃m,W 0 m σ H1)/\∀i m σ H,W i m σ H->
 (J.stop i H/\D.nx σ H)\/(J.go i H/\∃N:St->Hp->Prop,(∀σ' H',N σ' H'->∃m',m' < m/\W (i+1) m' σ' H')/\∀x H',J.V8 i H x H'->g x σ H' λσ2 H2=>tb {D with nx:=N,ct:=N,bk:=D.nx} σ2 H2)
noncomputable def yS(fp:List Addr)(h:Heap):List (Addr×Obj):=fp.filterMap λb=>(h.get? b).map λo=>(b, o)
def fZ{o:Obj}(hb:b∈fp)(e:h.get? b=!o):(b, o)∈yS fp h:=adk.mpr (b,hb,by rw[e];rfl)
def Jk{p:Addr×Obj}(hp:p∈yS fp h):p.1∈fp/\h.get? p.1=!p.2:=by
 let(b,hb,e):=adk.mp hp;cases q:h.get? b with
 | none=>rw[q]at e;cases e
 | some o=>
  rw[q]at e;let e':(b, o)=p:=aaC e;subst e';show(hb,q)
def Inv.pinned{H:Hp}(I:Inv X η σ H s)(hf:∀b∈fp,tG X η H b)(ho:∀b∈fp,∃o,s.heap.get? b=!o/\∀v,o.data≠ .cell v):Inv X (η++yS fp s.heap) σ H s:=
 I.Gx λp hp=>(abj.mp hp).elim (λz=>I.pin p (aaJ _ z)) λz=>by let(hb,e):=Jk z;let(f0,f1,f2,_):=hf p.1 hb;let(o,e',d):=ho p.1 hb;rw[e]at e';cases e';show(e,f0,f1,f2,d)
def Inv.lQ{pl:List (Addr×Obj)}{H:Hp}(I:Inv X (η++pl) σ H s):Inv X η σ H s:=I.Gx λp hp=>I.pin p (aaJ _ (ac5 _ hp))
def DJ{g:TG}(hp:PassesOwn (model X.prog X.w) X.A X.env X.xe)(hc:X.calm=true)(hi:PI X tg iter wi)(hg:PG X tg g)(hb:Jx X body tb)
  (hs:(∀x,foldedSetIterable iter X.env x=pure x)|>3):PS X (.For tg iter body [] pos) (Zi wi g tb):=by
 intro η s σ H D I h;show wpAny_For (bG (hi η s σ H _ I h) λv s1 h1=>bG h1 λX8 s2 h2=>?_) hs;let(it,fp,tn,J,H2,e,I2,T,st2,f2,W,(m0,w0),turn):=h2;subst e;let Sg:∀{H':Hp},(∀b∈fp,H' b=none)->∀b∈fp,tG X η H' b:=λhn b hb=>(hn b hb,(f2 b hb).2);show codeAny_forLoop_any (λn s'=>∃i σ' H',Inv X η σ' H' s'/\tn i s'.heap/\(∀b∈fp,H' b=none)/\W i n σ' H') ?_ m0 (0,σ,H2,I2,st2,λb hb=>(f2 b hb).1,w0);rintro n s3 ⟨i,σ3,H3,I3,st3,fr3,w3⟩;rcases turn i n σ3 H3 w3 with ⟨stop,qn⟩| ⟨go,N,hN,step⟩
 .show wpAny_passesOwn hp (bG (T.done X rfl rfl rfl hc i η s3 σ3 H3 X.xe I3 (Sg fr3) st3 stop) λr s4 xz=>?_);let(hr,I4):=xz;subst hr;show wpAny_execs_nil (σ3,H3,I4,qn)
 .show wpAny_passesOwn hp (bG (T.item X rfl rfl rfl hc i η s3 σ3 H3 X.xe I3 (Sg fr3) st3 go) λr s4 xz=>?_);let(u,hr,h4):=xz;subst hr;show wpAny_passesOwn hp (bG h4 λ_ s5 xz=>?_);let(x,H5,I5,r5,y5,st5,XJ):=xz;let I5':=I5.pinned (Sg XJ) (T.obj _ _ st5);show wpAny_passesOwn hp (bG (hg _ s5 σ3 H5 x u _ I5' r5 (step x H5 y5)) λ_ s6 xz=>?_);let(σ6,H6,I6,q6):=xz;show wpAny_passesOwn hp (bG (hb _ s6 σ6 H6 _ I6 q6) λf s7 q7=>?_);let again:∀{σ7:St} {H7:Hp},Inv X (η++yS fp s5.heap) σ7 H7 s7->N σ7 H7->∃m,m < n/\∃i σ' H',Inv X η σ' H' s7/\tn i s7.heap/\(∀b∈fp,H' b=none)/\W i m σ' H':=λ{σ7 H7} I7 n7=>by let(m',hm,w7):=hN σ7 H7 n7;show(m',hm,i+1,σ7,H7,I7.lQ,T.keep _ _ _ st5 λb hb o e=>(I7.pin (b, o) (aaJ _ (aaJ _ (fZ hb e)))).1,λb hb=>?_,w7);let(o,e,d):=T.obj _ _ st5 b hb;show(I7.pin (b, o) (aaJ _ (aaJ _ (fZ hb e)))).2.1
  cases f with
  | next=>let(σ7,H7,I7,n7):=q7;show again I7 n7
  | cont=>let(σ7,H7,I7,n7):=q7;show again I7 n7
  | brk=>let(σ7,H7,I7,q7):=q7;show(σ7,H7,I7.lQ,q7)
  | ret v=>let(x7,σ7,H7,I7,r7,q7):=q7;show(x7,σ7,H7,I7.lQ,r7,q7)
end
abbrev R2:=V->V->Hp->VK->Prop
def jM(X:Cx)(f:Value->Value->Sem Value)(r:R2):Prop:=
 ∀(η:List (Addr×Obj)) (s:Shared) (σ:St) (H:Hp) (x y:V) (v u:Value) (Q:VK),Inv X η σ H s->aH x v->aH y u->r x y H Q->
  wpAny (model X.prog X.w) X.A (f v u) (EP X η σ Q) X.xe s
def XW(X:Cx)(f:Value->Sem Value)(r:V->Hp->VK->Prop):Prop:=
 ∀(η:List (Addr×Obj)) (s:Shared) (σ:St) (H:Hp) (x:V) (v:Value) (Q:VK),Inv X η σ H s->aH x v->r x H Q->
  wpAny (model X.prog X.w) X.A (f v) (EP X η σ Q) X.xe s
def eD(X:Cx)(f:Value)(r:List V->Hp->VK->Prop):Prop:=
 ∀(η:List (Addr×Obj)) (s:Shared) (σ:St) (H:Hp) (xs:List V) (us:List Value) (Q:VK),Inv X η σ H s->aC xs us->r xs H Q->
  wpAny (model X.prog X.w) X.A (call f us) (EP X η σ Q) X.xe s
def Xi(r:R2)(ta tb:TE):TE:=λσ H Q=>ta σ H λx H1=>tb σ H1 λy H2=>r x y H2 Q
def tUn(r:V->Hp->VK->Prop)(ta:TE):TE:=λσ H Q=>ta σ H λx H1=>r x H1 Q
def rI(C:Int->Int->Prop)(g:Int->Int->V):R2:=λx y H Q=>∃i j,x= .int i/\y= .int j/\C i j/\Q (g i j) H
def Hx(g:Int->Int->V):R2:=λx y H Q=>∃i j,x= .int i/\y= .int j/\Q (g i j) H
def rU(g:Int->V):V->Hp->VK->Prop:=λx H Q=>∃i,x= .int i/\Q (g i) H
section
variable{a b:Expr}{tb tc:TE}
def SV(ha:PE X a ta)(hb:PE X b tb){H:Hp}{R:V->V->Hp->Prop}(I:Inv X η σ H s)
  (h:ta σ H λx H1=>tb σ H1 λy H2=>R x y H2)
  (hf:∀v u s2 x y H2,Inv X η σ H2 s2->aH x v->aH y u->R x y H2->wpAny (model X.prog X.w) X.A (f v u) Q X.xe s2):
  wpAny (model X.prog X.w) X.A (eval a X.env) (λv s₁=>wpAny (model X.prog X.w) X.A (eval b X.env) (λu s₂=>wpAny (model X.prog X.w) X.A (f v u) Q X.xe s₂) X.xe s₁) X.xe s:=by
 show bG (ha η s σ H _ I h) λv s1 xz=>?_;let(x,H1,I1,r1,q1):=xz;show bG (hb η s1 σ H1 _ I1 q1) λu s2 xz=>?_;let(y,H2,I2,r2,q2):=xz;show hf v u s2 x y H2 I2 r1 r2 q2
def V'{op:Operator}(ho:jM X (binaryOp op) r)(ha:PE X a ta)(hb:PE X b tb):PE X (.BinOp a op b pos) (Xi r ta tb):=by intro η s σ H Q I h;show wpAny_BinOp (SV ha hb I h λv u s2 x y H2 I2 rx ry q=>ho η s2 σ H2 x y v u Q I2 rx ry q)
def Vn{op:UnaryOp}(ho:XW X (unaryOp op) r)(ha:PE X a ta):PE X (.UnaryOp op a pos) (tUn r ta):=by intro η s σ H Q I h;show UnaryOp_ (bG (ha η s σ H _ I h) λv s1 (x,H1,I1,r1,q1)=>ho η s1 σ H1 x v Q I1 r1 q1)
def Yr{C:Int->Int->Prop}{g:Int->Int->Int}
  (rule:∀(i j:Int) (t u:Tok) (s:Shared) (Q:Value->Shared->Prop) (E:Value->Shared->Prop),C i j->Q (.int (g i j) s.toks) {s with toks:=s.toks+1}->wpAny (model X.prog X.w) X.A (f (.int i t) (.int j u)) Q E s):
  jM X f (rI C λi j=>.int (g i j)):=by
 intro η s σ H x y v u Q I rx ry h;let(i,j,rfl,rfl,hc,q):=h;let(t,rfl):=rx;let(t',rfl):=ry;show rule i j t t' s _ _ hc (.int (g i j),H,I.tok _,(_,rfl),q)
def UM{g:Int->Int->Int}
  (rule:∀(i j:Int) (t u:Tok) (s:Shared) (Q:Value->Shared->Prop) (E:Value->Shared->Prop),Q (.int (g i j) s.toks) {s with toks:=s.toks+1}->wpAny (model X.prog X.w) X.A (f (.int i t) (.int j u)) Q E s):
  jM X f (Hx λi j=>.int (g i j)):=by
 intro η s σ H x y v u Q I rx ry h;let(i,j,rfl,rfl,q):=h;let(t,rfl):=rx;let(t',rfl):=ry;show rule i j t t' s _ _ (.int (g i j),H,I.tok _,(_,rfl),q)
def OQ{g:Int->Int->Bool}
  (rule:∀(i j:Int) (t u:Tok) (s:Shared) (Q:Value->Shared->Prop) (E:Value->Shared->Prop),Q (.bool (g i j)) s->wpAny (model X.prog X.w) X.A (f (.int i t) (.int j u)) Q E s):
  jM X f (Hx λi j=>.bl (g i j)):=by
 intro η s σ H x y v u Q I rx ry h;let(i,j,rfl,rfl,q):=h;let(t,rfl):=rx;let(t',rfl):=ry;show rule i j t t' s _ _ (.bl (g i j),H,I,rfl,q)
def BW(i j:Int):Prop:=0<=j/\j<=1000000/\i.natAbs < 2 ^ 64
def SK:jM X (binaryOp .Add) (Hx λi j=>.int (i+j)):=UM λ_ _ _ _ _ _ _ q=>add_int q
def R5:jM X (binaryOp .Sub) (Hx λi j=>.int (i - j)):=UM λ_ _ _ _ _ _ _ q=>sub_int q
def SR:jM X (binaryOp .Mod) (rI (λ_ j=>0 < j) λi j=>.int (i % j)):=Yr λi j _ _ _ _ _ hc q=>by let h1:(0:Int) < j:=hc;show mod_int' () (by rw[acK i ()];show q)
def RC:jM X (binaryOp .Pow) (rI BW λi j=>.int (i ^ j.toNat)):=Yr λ_ _ _ _ _ _ _ hc q=>pow_int_small hc.1 hc.2.1 hc.2.2 q
def unI{f:Value->Sem Value}{g:Int->Int}
  (rule:∀(i:Int) (t:Tok) (s:Shared) (Q:Value->Shared->Prop) (E:Value->Shared->Prop),Q (.int (g i) s.toks) {s with toks:=s.toks+1}->wpAny (model X.prog X.w) X.A (f (.int i t)) Q E s):
  XW X f (rU λi=>.int (g i)):=by
 intro η s σ H x v Q I rx h;let(i,rfl,q):=h;let(t,rfl):=rx;show rule i t s _ _ (.int (g i),H,I.tok _,(_,rfl),q)
def Q8:XW X (unaryOp .USub) (rU λi=>.int (- i)):=unI λ_ _ _ _ _ q=>neg_int q
end
noncomputable def We:V->V->Bool
 | .bc,.bc=>true| .bc,.int _=>true| .int _,.bc=>true| .bc,.bl _=>true| .bl _,.bc=>true| .bc,.str _=>true| .str _,.bc=>true
 | .int _,.int _=>true| .bl _,.bl _=>true| .str _,.str _=>true| .JF _,.JF _=>true
 | .int _,.str _=>true| .str _,.int _=>true| .bl _,.str _=>true| .str _,.bl _=>true
 | _,_=>false
def rEq:R2:=λx y H Q=>We x y=true/\Q (.bl (decide (x=y))) H
def rNe:R2:=λx y H Q=>We x y=true/\Q (.bl (! decide (x=y))) H
def Fv{i:Int}:decide (V.int i=V.int j)=(i==j):=by rw[Bool.eq_iff_iff];simp
def J2{i:Bool}:decide (V.bl i=V.bl j)=(i==j):=by rw[Bool.eq_iff_iff];simp
def GX{i:Str}:decide (V.str i=V.str j)=(i==j):=by rw[Bool.eq_iff_iff];simp
def GP{i:Array UInt8}:decide (V.JF i=V.JF j)=(i.toList==j.toList):=by rw[Bool.eq_iff_iff];cases i;cases j;simp
section
variable{a b:Expr}{tb tc:TE}
set_option tactic.hygienic false
def aN{H:Hp}{Q:VK}{k k':Bool}(I:Inv X η σ H s)(q:Q (.bl k) H)(e:k=k'):EP X η σ Q (.bool k') s:=by subst e;show(.bl k,H,I,rfl,q)
def Qa:jM X (compareOp .Eq) rEq:=by
 intro η s σ H x y v u Q I rx ry h;let(hs,q):=h;cases x with
 | bc=>
  cases rx;cases y with
  | bc=>cases ry;show PySem.EqNone.eq_none_none (aN I q (by simp))
  | bl j=>cases ry;show PySem.EqNone.eq_none_bool (aN I q (by simp))
  | int j=>let(t',rfl):=ry;show PySem.EqNone.eq_none_int (aN I q (by simp))
  | str j=>let(t',rfl):=ry;show PySem.EqNone.eq_none_str (aN I q (by simp))
  | _=>show abe (show false=true from hs) aa8
 | bl i=>
  cases rx;cases y with
  | bc=>cases ry;show PySem.EqNone.eq_bool_none (aN I q (by simp))
  | bl j=>cases ry;show eq_bool (aN I q J2)
  | str j=>let(t',rfl):=ry;show PySem.EqMixed.eq_bool_str (aN I q (by simp))
  | _=>show abe (show false=true from hs) aa8
 | int i=>
  let(t,rfl):=rx;cases y with
  | bc=>cases ry;show PySem.EqNone.eq_int_none (aN I q (by simp))
  | int j=>let(t',rfl):=ry;show eq_int (aN I q Fv)
  | str j=>let(t',rfl):=ry;show PySem.EqMixed.eq_int_str (aN I q (by simp))
  | _=>show abe (show false=true from hs) aa8
 | str i=>
  let(t,rfl):=rx;cases y with
  | bc=>cases ry;show PySem.EqNone.eq_str_none (aN I q (by simp))
  | bl j=>cases ry;show PySem.EqMixed.eq_str_bool (aN I q (by simp))
  | int j=>let(t',rfl):=ry;show PySem.EqMixed.eq_str_int (aN I q (by simp))
  | str j=>let(t',rfl):=ry;show eq_str (aN I q GX)
  | _=>show abe (show false=true from hs) aa8
 | JF i=>
  let(t,rfl):=rx;cases y with
  | JF j=>let(t',rfl):=ry;show PySem.W.eq_bytes (aN I q GP)
  | _=>show abe (show false=true from hs) aa8
 | _=>cases y <;> show abe (show false=true from hs) aa8
def Ws:jM X (compareOp .NotEq) rNe:=by
 intro η s σ H x y v u Q I rx ry h;let(hs,q):=h;cases x with
 | bc=>
  cases rx;cases y with
  | bc=>cases ry;show PySem.EqNone.ne_none_none (aN I q (by simp))
  | bl j=>cases ry;show PySem.EqNone.ne_none_bool (aN I q (by simp))
  | int j=>let(t',rfl):=ry;show PySem.EqNone.ne_none_int (aN I q (by simp))
  | str j=>let(t',rfl):=ry;show PySem.EqNone.ne_none_str (aN I q (by simp))
  | _=>show abe (show false=true from hs) aa8
 | bl i=>
  cases rx;cases y with
  | bc=>cases ry;show PySem.EqNone.ne_bool_none (aN I q (by simp))
  | bl j=>cases ry;show ne_bool (aN I q (abq not J2))
  | str j=>let(t',rfl):=ry;show PySem.EqMixed.ne_bool_str (aN I q (by simp))
  | _=>show abe (show false=true from hs) aa8
 | int i=>
  let(t,rfl):=rx;cases y with
  | bc=>cases ry;show PySem.EqNone.ne_int_none (aN I q (by simp))
  | int j=>let(t',rfl):=ry;show ne_int (aN I q (abq not Fv))
  | str j=>let(t',rfl):=ry;show PySem.EqMixed.ne_int_str (aN I q (by simp))
  | _=>show abe (show false=true from hs) aa8
 | str i=>
  let(t,rfl):=rx;cases y with
  | bc=>cases ry;show PySem.EqNone.ne_str_none (aN I q (by simp))
  | bl j=>cases ry;show PySem.EqMixed.ne_str_bool (aN I q (by simp))
  | int j=>let(t',rfl):=ry;show PySem.EqMixed.ne_str_int (aN I q (by simp))
  | str j=>let(t',rfl):=ry;show ne_str (aN I q (abq not GX))
  | _=>show abe (show false=true from hs) aa8
 | JF i=>
  let(t,rfl):=rx;cases y with
  | JF j=>let(t',rfl):=ry;show PySem.W.ne_bytes (aN I q (abq not GP))
  | _=>show abe (show false=true from hs) aa8
 | _=>cases y <;> show abe (show false=true from hs) aa8
def Qv:jM X (compareOp .Lt) (Hx λi j=>.bl (decide (i < j))):=OQ λ_ _ _ _ _ _ _ q=>lt_int q
def Qz:jM X (compareOp .LtE) (Hx λi j=>.bl (decide (i<=j))):=OQ λ_ _ _ _ _ _ _ q=>le_int q
def V9:jM X (compareOp .Gt) (Hx λi j=>.bl (decide (j < i))):=OQ λ_ _ _ _ _ _ _ q=>gt_int q
def QV:jM X (compareOp .GtE) (Hx λi j=>.bl (decide (j<=i))):=OQ λ_ _ _ _ _ _ _ q=>ge_int q
def KS:jM X (compareOp .Is) (λx y H Q=>y= .bc/\Q (.bl (decide (x= .bc))) H):=by
 intro η s σ H x y v u Q I rx ry h;let(rfl,q):=h;cases ry;show is_none_gen (aN I q ?_)
 cases x <;> first
  | (cases rx;rfl)
  | (let(t,rfl):=rx;rfl)
def N4:jM X (compareOp .IsNot) (λx y H Q=>y= .bc/\Q (.bl (! decide (x= .bc))) H):=by
 intro η s σ H x y v u Q I rx ry h;let(rfl,q):=h;cases ry;show isnot_none_gen (aN I q ?_)
 cases x <;> first
  | (cases rx;rfl)
  | (let(t,rfl):=rx;rfl)
def jM.or(h:jM X f r)(h':jM X f r'):jM X f (λx y H Q=>r x y H Q\/r' x y H Q):=by
 intro η s σ H x y v u Q I rx ry q;rcases q with q| q
 .show h η s σ H x y v u Q I rx ry q
 .show h' η s σ H x y v u Q I rx ry q
def fQ(b:Expr)(h:op≠ .In|>2)(h2:op≠ .NotIn|>2):behindInMarks op b=false:=by
 let e1:(op==CmpOp.In)=false:=by cases op <;> first| rfl| show abe rfl h
 let e2:(op==CmpOp.NotIn)=false:=by cases op <;> first| rfl| show abe rfl h2
 cases b <;> simp[behindInMarks,e1,e2]
def N5(ho:jM X (compareOp op) r)(ha:PE X a ta)(hb:PE X b tb)(hm:behindInMarks op b=false):PE X (.Compare a [op] [b] pos) (Xi r ta tb):=by intro η s σ H Q I h;show wpAny_Compare1 (SV ha hb I h λv u s2 x y H2 I2 rx ry q=>ho η s2 σ H2 x y v u Q I2 rx ry q) hm
def V6(t:TE):TT:=λσ H Q=>t σ H λx H'=>∃k,x= .bl k/\Q k H'
def NS(ho:jM X (compareOp op) r)(ha:PE X a ta)(hb:PE X b tb)(hm:behindInMarks op b=false):PT X (.Compare a [op] [b] pos) (V6 (Xi r ta tb)):=by
 intro η s σ H Q I h
 show wpAny_isTrue_Compare1 (bG (ha η s σ H _ I h) fun v s1 (x,H1,I1,r1,q1)=>bG (hb η s1 σ H1 _ I1 q1) fun u s2 (y,H2,I2,r2,q2)=>
  bG (ho η s2 σ H2 x y v u _ I2 r1 r2 q2) fun c s3 (z,H3,I3,r3,k,e,q3)=>?_) hm
 subst e;cases r3;show wpAny_truthy_bool (H3,I3,q3)
def qo:(sizeLine:Nat) < 2 ^ 63:=by rw[sizeLine_eq];decide
def Ee:jM X (binaryOp .Add) (λx y H Q=>∃i j,x= .str i/\y= .str j/\-i+-j<=sizeLine/\Q (.str (i++j)) H):=by intro η s σ H x y v u Q I rx ry h;let(i,j,rfl,rfl,hz,q):=h;let(t,rfl):=rx;let(t',rfl):=ry;show add_str (λt' tk=>(.str (i++j),H,I.tok _,(_,rfl),q)) hz
def lS{x:V}(r:aC [x] us):∃u,us=[u]/\aH x u:=by
 cases r with
 | cons r1 r2=>cases r2;show(_,rfl,r1)
def QZ{x y:V}(r:aC [x,y] us):∃u w',us=[u,w']/\aH x u/\aH y w':=by
 cases r with
 | cons r1 r2=>
  cases r2 with
  | cons r3 r4=>cases r4;show(_,_,rfl,r1,r3)
def M7:eD X (.builtin "abs") (λxs H Q=>∃i,xs=[.int i]/\Q (.int (if i < 0 then - i else i)) H):=by intro η s σ H xs us Q I r h;let(i,rfl,q):=h;let(u,rfl,t,rfl):=lS r;show call_abs_int λu tk=>(.int (if i < 0 then - i else i),H,I.tok _,(_,rfl),q)
def Iz(hc:X.calm=true):eD X (.builtin "min") (λxs H Q=>∃i j,xs=[.int i,.int j]/\Q (.int (if j < i then j else i)) H):=by
 intro η s σ H xs us Q I r h;let(i,j,rfl,q):=h;let(u,w',rfl,(t,rfl),(t',rfl)):=QZ r;show min_two_ints (I.ok.hd hc) λh' tk k=>(_,H,I.kept k,?_,q);by_cases hj:j < i
 .rw[aa0 hj,aa0 hj];show(_,rfl)
 .rw[aa3 hj,aa3 hj];show(_,rfl)
def I0:eD X (.type "int") (λxs H Q=>(∃i,xs=[.int i]/\Q (.int i) H)\/∃k,xs=[.bl k]/\Q (.int (if k then 1 else 0)) H):=by
 intro η s σ H xs us Q I r h;rcases h with ⟨i,rfl,q⟩| ⟨k,rfl,q⟩
 .let(u,rfl,t,rfl):=lS r;show call_int_int (.int i,H,I,(_,rfl),q)
 .let(u,rfl,r1):=lS r;cases r1;show call_int_bool (.int (if k then 1 else 0),H,I.tok _,(_,rfl),q)
end
structure D3(h:Heap)(x dx C:Addr)(mA:Str->Option Value):Prop where
 obj:h.get? x=!(PySem.W.instObj C dx)
 ns:h.Ns1 dx mA
 ne:dx≠x
def Hz(n:h.Ns1 dx mA):∃od,h.get? dx=!od/\∀name,PySem.W.lookIn name od=!(mA name):=by
 let(o,es,ep,ho,hd,hk,_,hm):=n;show(o,ho,λname=>?_);let e:=hm name;unfold nsFind findBy at e;rw[<-Array.find?_toList]at e;unfold PySem.W.lookIn;rw[hd];dsimp only;split
 .rename_i y q;rw[q]at e;show abq some e
 .rename_i q;rw[q]at e;let a:es.toList.any (·.refKey)=false:=by rw[List.any_eq_false];intro y hy;let(z,t,RD):=hk y (Array.mem_toList_iff.mp hy);simp[DictEntry.refKey,RD]
  let a':¬es.toList.any (·.refKey)=true:=by rw[a];show aa8
  rw[aa3 a'];show abq some e
def D3.look{x:Addr}(I:D3 h x dx C mA):∃od,PySem.W.InstAt h x (PySem.W.instObj C dx) C (!od)/\∀name,PySem.W.lookIn name od=!(mA name):=
 let (od,ho,hl):=Hz I.ns
 (od,(I.obj,rfl,rfl,ho),hl)
section
variable{K:fI}{x f:Addr}{name:Str}{v:Value}
def tD(X:K.In s.heap)(I:D3 s.heap x dx C mA)(hg:PySem.W.plainGet K C name=true)(hh:PySem.W.hasDictIn K C=true)
  (ha:PySem.W.findIn K (.ref C) name=!none) (hv:mA name=!v) (hv':PySem.W.handedIn v=true) (h:Q v {s with toks:=s.toks+1}):
  wpAny (model prog w) A (getAttr (.ref x) name expr) Q E s:=by
 let(od,J,hl):=I.look;show PySem.W.get_value X J (PySem.W.plainGet_of hg).1 (PySem.W.findObj_own hh ha rfl (by rw[hl,hv])) hv' h
def MH{Q:Value×List Value->Shared->Prop}(X:K.In s.heap)(I:D3 s.heap x dx C mA)(hg:PySem.W.plainGet K C name=true)
  (hf:PySem.W.findIn K (.ref C) name=!(!(.ref f))) (ht:PySem.W.isFn K (.ref f)=true) (hv:mA name=none) (h:Q (.ref f, [.ref x]) s):
  wpAny (model prog w) A (getMethod (.ref x) name pl) Q E s:=by
 let(od,J,hl):=I.look;show PySem.W.method_fn X J (PySem.W.plainGet_of hg).1 (PySem.W.plainGet_of hg).2 hf (acH.mp ht) (by change(PySem.W.lookIn name od).map (·.isSome)=!false;rw[hl,hv];rfl) h
def OY{Q:Unit->Shared->Prop}(X:K.In s.heap)(I:D3 s.heap x dx C mA)
  (hs:PySem.W.findIn K (.ref C) "__setattr__"=!(!(.builtin "object.__setattr__"))) (hp:PySem.W.plainOver K C=true) (ht:PySem.W.takerIn K C name=!none) (hh:PySem.W.hasDictIn K C=true)
  (hw:PySem.Within mA ns) (hsz:-ns<=sizeLine)
  (h:∀h',D3 h' x dx C (λy=>if y=name then !v else mA y)->Heap.SameBut dx s.heap h'->Q Unit.unit {s with heap:=h',toks:=s.toks+2}):
  wpAny (model prog w) A (setAttr (.ref x) name v) Q E s:=by
 let(od,J,hl):=I.look;show PySem.W.set_plain X J hs (PySem.W.osa_open (s:={s with toks:=s.toks+1}) (r:=none) X J hp ht λb=>?_);let(cd,hc,OG):=PySem.W.any_some hh;let hx:s.heap.get? x=!(.ref C,!dx,.plain,#[]):=I.obj;show aaw (abt (aaw (aaw (wpAny_loadPart hx (aaw (PySem.W.Looks.here (s:={s with toks:=s.toks+1}) (PySem.W.looks_clsIn X hc) ?_))))));rw[OG];show abt (a:=!dx) (aaw (abt (aaw ?_)));show wpAny_nsSet1 (s:={s with toks:=s.toks+1}) I.ns λh' Ut RN=>?_;let(oD,esD,epD,hoD,hdD,hcD):=Ut.count (PySem.Within.cons name v hw);show aaw (wpAny_lookBehind hoD (by rw[hdD];show pastItsLine_dict (aaF hcD (by rw[aaN];omega))) ?_);show abt (h _ ((RN.2 _ (Ne.symm I.ne)).trans I.obj,Ut,I.ne) RN)
def KZ{vs:List Value}(X:K.In s.heap)(hm:PySem.W.makesIn K C=true)
  (hi:PySem.W.findIn K (.ref C) "__init__"=!(!(.ref f))) (hf:PySem.W.typeIn K (.ref f)=!(.type "function"))
  (h:codeAny (model prog w) (A.under (.builtin "type.__call__" (.ref C::vs,kw))) (.call (.ref f) (.ref (s.heap.objs.size+1)::vs,kw)) (PySem.W.InitBack (s.heap.objs.size+1) R)
   {s with heap:=(s.heap.push PySem.W.emptyDict).push (PySem.W.instObj C s.heap.objs.size)}):
  codeAny (model prog w) A (.call (.ref C) (vs,kw)) R s:=by
 let(hh,g,d,t,os):=s;show PySem.W.make_core (PySem.W.makes_of X hm) (PySem.W.looks_findIn X hi) (λself=>PySem.W.bind_fn X self hf) (.inl rfl) h
end
noncomputable def kO(f:Str)(v:V):List (Str×V)->List (Str×V)
 | []=>[(f, v)]
 | (g, x)::r=>if g=f then (g, v)::r else (g, x)::kO f v r
def rM(f g:Str)(v:V):∀fs:List (Str×V),(kO f v fs).lookup g=if g=f then !v else fs.lookup g
 | []=>by
  change List.lookup g [(f, v)]=_;by_cases h:g=f
  .let hb:(g==f)=true:=acH.mpr h;simp only[List.lookup,hb,if_pos h]
  .let hb:(g==f)=false:=beq_eq_false_iff_ne.mpr h;simp only[List.lookup,hb,if_neg h]
 | (k, x)::r=>by
  let ih:=rM f g v r;rw[show kO f v ((k, x)::r)=(if k=f then (k, v)::r else (k, x)::kO f v r) from rfl];by_cases hk:k=f
  .rw[aa0 hk];by_cases h:g=k
   .let hb:(g==k)=true:=acH.mpr h;simp only[List.lookup,hb,if_pos (h.trans hk)]
   .let hb:(g==k)=false:=beq_eq_false_iff_ne.mpr h;simp only[List.lookup,hb,if_neg (λe:g=f=>h (e.trans hk.symm))]
  .rw[aa3 hk];by_cases h:g=k
   .let hb:(g==k)=true:=acH.mpr h;simp only[List.lookup,hb,if_neg (λe:g=f=>hk (h.symm.trans e))]
   .let hb:(g==k)=false:=beq_eq_false_iff_ne.mpr h;simp only[List.lookup,hb];show ih
def qO(f:Str)(v:V):∀fs:List (Str×V),f∈(kO f v fs).map (·.1)/\∀g,g∈fs.map (·.1)->g∈(kO f v fs).map (·.1)
 | []=>(by simp[kO],λg h=>by simp at h)
 | (k, x)::r=>by
  let(i1,i2):=qO f v r;rw[show kO f v ((k, x)::r)=(if k=f then (k, v)::r else (k, x)::kO f v r) from rfl];by_cases hk:k=f
  .rw[aa0 hk];subst hk;show(by simp,λg h=>by simpa using h)
  .rw[aa3 hk];show(?_,λg h=>?_)
   .rw[aa1];show aaf _ i1
   .rw[aa1]at h⊢;rcases abg.mp h with e| e
    .show abg.mpr (.inl e)
    .show aaf _ (i2 g e)
def r9(f:Str)(v:V):∀fs:List (Str×V),-(kO f v fs)<=-fs+1
 | []=>by simp[kO]
 | (k, x)::r=>by
  let ih:=r9 f v r;rw[show kO f v ((k, x)::r)=(if k=f then (k, v)::r else (k, x)::kO f v r) from rfl];by_cases hk:k=f
  .rw[aa0 hk,aaN,aaN];omega
  .rw[aa3 hk,aaN,aaN];omega
def lB.some_of{o:Option Value}(r:lB (!v) o):∃u,o=!u/\aH v u:=by
 cases o with
 | none=>show(show False from r).elim
 | some u=>show(u,rfl,r)
def lB.none_of{o:Option Value}(r:lB none o):o=none:=by
 cases o with
 | none=>rfl
 | some u=>show(show False from r).elim
def Hg(r:aH v u):PySem.W.handedIn u=true:=by
 cases v with
 | bc=>cases(show u=Value.none from r);rfl
 | bl b=>cases(show u=Value.bool b from r);rfl
 | int i=>let(t,e):=(show∃t,u=Value.int i t from r);cases e;rfl
 | str x=>let(t,e):=(show∃t,u=Value.str x t from r);cases e;rfl
 | JF b=>let(t,e):=(show∃t,u=Value.bytes b t from r);cases e;rfl
 | TL b=>let(t,e):=(show∃t,u=Value.float b t from r);cases e;rfl
 | ref a=>cases(show u=Value.ref a from r);rfl
 | ty n=>cases(show u=Value.type n from r);rfl
section
variable{H H':Hp}{fs fs':List (Str×V)}
def sY(aS:mB P w H h)(e:H a=!(.ins C dx fs)):∃mA,D3 h a dx C mA/\(∀f,lB (fs.lookup f) (mA f))/\PySem.Within mA (fs.map (·.1))/\-fs<=1000/\H dx=!(.own a):=by let(d,z,ne,ob,mA,n,r,q):=(show cn P w H h a (.ins C dx fs) from aS a _ e);show(mA,(ob,n,ne),r,q,z,d)
end
structure Gr(K:fI)(C:Addr):Prop where
 pg:PySem.W.plainGet K C Str.empty=true
 hd:PySem.W.hasDictIn K C=true
 po:PySem.W.plainOver K C=true
 sa:PySem.W.findIn K (.ref C) "__setattr__"=!(!(.builtin "object.__setattr__"))
def Gr.get{K:fI}{C:Addr}(c:Gr K C)(f:Str):PySem.W.plainGet K C f=true:=c.pg
def jn(K:fI)(C:Addr)(f:Str):Prop:=PySem.W.findIn K (.ref C) f=!none
def jn.Xh{K:fI}{f:Str}(n:jn K C f):PySem.W.takerIn K C f=!none:=by unfold PySem.W.takerIn;rw[show PySem.W.findIn K (.ref C) f=!none from n];rfl
structure PV(K:fI)(C:Addr)(m:Str)(f:Addr):Prop where
 at_:PySem.W.findIn K (.ref C) m=!(!(.ref f))
 fn:PySem.W.isFn K (.ref f)=true
 kp:PySem.W.keepIn K (.ref f)=true
section
variable{H:Hp}{fs:List (Str×V)}{f:Str}
def Dg{b:Bool}(I:Inv X η σ H s)(e:H a=!(.ins C dx fs))(c:Gr X.K C)(n:jn X.K C f)(l:fs.lookup f=!v)
  (h:∀u s',Inv X η σ H s'->aH v u->Q u s'):wpAny (model X.prog X.w) A (getAttr (.ref a) f b) Q E s:=by
 let(mA,O,r,_,_,_):=sY I.aS e;let(u,hu,ru):=lB.some_of (v:=v) (o:=mA f) (by rw[<-l];show r f);show tD I.pU O (c.get f) c.hd n hu (Hg ru) (h u _ (I.tok _) ru)
def u9{g:Addr}{Q:Value×List Value->Shared->Prop}(I:Inv X η σ H s)(e:H a=!(.ins C dx fs))(c:Gr X.K C)(k:PV X.K C m g)(l:fs.lookup m=none)
  (h:Q (.ref g, [.ref a]) s):wpAny (model X.prog X.w) A (getMethod (.ref a) m pl) Q E s:=by
 let(mA,O,r,_,_,_):=sY I.aS e;let hn:mA m=none:=lB.none_of (by rw[<-l];show r m);show MH I.pU O (c.get m) k.at_ k.fn hn h
def DR{Q:Unit->Shared->Prop}(I:Inv X η σ H s)(e:H a=!(.ins C dx fs))(c:Gr X.K C)(n:jn X.K C f)(hl:-fs < 1000)(ry:aH y u)
  (h:∀s',Inv X η σ (upd H a (.ins C dx (kO f y fs))) s'->Q Unit.unit s'):wpAny (model X.prog X.w) A (setAttr (.ref a) f u) Q E s:=by
 let(mA,O,r,wi,_,ho):=sY I.aS e;let hz:-(fs.map (·.1))<=sizeLine:=by rw[aae,sizeLine_eq];omega
 show OY I.pU O c.sa c.po n.Xh c.hd wi hz λh' O' sb=>h _ ?_;let hd:∃o,h'.get? dx=!o:=let (o,_,_,e',_):=O'.ns;(o,e')
 show I.write (x:=a) (e:=dx) (by rw[e];show True.intro) (.inr ho) (λb q hb z=>(sb.2 b hb).trans z) hd ?_;show(by rw[Ρ O.ne];show ho,?_,O.ne,O'.obj,_,O'.ns,λg=>?_,λg hg=>?_)
 .have:=r9 f y fs;omega
 .change lB ((kO f y fs).lookup g) (if g=f then !u else mA g);rw[rM];by_cases q:g=f
  .rw[aa0 q,aa0 q];show ry
  .rw[aa3 q,aa3 q];show r g
 .by_cases q:g=f
  .rw[q];show(qO f y fs).1
  .show(qO f y fs).2 g (wi g λz=>hg ?_);change(if g=f then !u else mA g)=none;rw[aa3 q];show z
def Inv.made(I:Inv X η σ H s):Inv X η σ (upd (upd H s.heap.objs.size (.own (s.heap.objs.size+1))) (s.heap.objs.size+1) (.ins C s.heap.objs.size []))
  {s with heap:=(s.heap.push PySem.W.emptyDict).push (PySem.W.instObj C s.heap.objs.size)}:=by
 let e1:(s.heap.push PySem.W.emptyDict).get? s.heap.objs.size=!PySem.W.emptyDict:=abz s.heap rfl;let e2:((s.heap.push PySem.W.emptyDict).push (PySem.W.instObj C s.heap.objs.size)).get? (s.heap.objs.size+1)=!(PySem.W.instObj C s.heap.objs.size):=by have:=abz (s.heap.push PySem.W.emptyDict) (o:=PySem.W.instObj C s.heap.objs.size) rfl;rwa[Heap.size_push]at this
 let e3:(s.heap.push PySem.W.emptyDict).Ns s.heap.objs.size (λ_=>none):=(PySem.W.emptyDict,#[],_,e1,rfl,(λe he=>absurd he (by simp)),λ_=>rfl);let I1:=I.laid (a:=s.heap.objs.size) (o:=.own (s.heap.objs.size+1)) (h':=s.heap.push PySem.W.emptyDict) (t':=s.toks) (λb u q=>aat _ q) (aaq _) (_,e1);show I1.laid (a:=s.heap.objs.size+1) (o:=.ins C s.heap.objs.size []) (t':=s.toks) (λb u q=>aat _ q) (Nat.le_of_eq (Heap.size_push _ _)) ?_;let ne:s.heap.objs.size≠s.heap.objs.size+1:=abF (acd _);show(by rw[Ρ ne,av],acR _,ne,e2,λ_=>none,(Heap.Ns1.of_empty e3).at λo q=>aat _ q,λ_=>True.intro,λy hy=>abe rfl hy)
def O4{f:Str}(hb:attributeBase e f env (eval e env)=eval e env)
  (h:wpAny (model prog w) A (eval e env) (λo s₁=>wpAny (model prog w) A (getAttr o f true) Q E s₁) E s):wpAny (model prog w) A (eval (.Attribute e f pos) env) Q E s:=
 Attribute_any_ h (by rw[arm_eval_Attribute,hb])
end
def YA(K:fI)(ta:TE)(f:Str):TE:=λσ H Q=>ta σ H λx H1=>∃a C dx fs v,x= .ref a/\H1 a=!(.ins C dx fs)/\Gr K C/\jn K C f/\fs.lookup f=!v/\Q v H1
def aaM(K:fI)(ta tv:TE)(f:Str):TS:=λD σ H=>tv σ H λy H1=>ta σ H1 λx H2=>∃a C dx fs,x= .ref a/\H2 a=!(.ins C dx fs)/\Gr K C/\jn K C f/\-fs < 1000/\
 D.nx σ (upd H2 a (.ins C dx (kO f y fs)))
section
variable{o value:Expr}{f:Str}{pos' wj:Pos}{tv:TE}
def R4(he:PE X e ta)(hb:attributeBase e f X.env (eval e X.env)=eval e X.env):PE X (.Attribute e f pos) (YA X.K ta f):=by intro η s σ H Q I h;show O4 hb (bG (he η s σ H _ I h) λu s1 xz=>?_);let(x,H1,I1,rx,a,C,dx,fs,v,ex,ea,c,n,l,q):=xz;subst ex;obtain rfl:u=Value.ref a:=rx;show Dg I1 ea c n l λu' s2 I2 ru=>(v,H1,I2,ru,q)
def RO(ha:PE X o ta)(hv:PE X value tv)(hs:swapsWith value (!(.Attribute o f pos')) pos.line X.env=pure false):PS X (.Assign [.Attribute o f pos'] value pos) (aaM X.K ta tv f):=by intro η s σ H D I h;show plainObj_wpAny_Assign_Attribute (bG (hv η s σ H _ I h) fun u s1 (y,H1,I1,ry,q)=>bG (ha η s1 σ H1 _ I1 q) λov s2 xz=>?_) hs;let(x,H2,I2,rx,a,C,dx,fs,ex,ea,c,n,l,q2):=xz;subst ex;obtain rfl:ov=Value.ref a:=rx;show DR I2 ea c n l ry λs3 I3=>(σ,_,I3,q2)
end
section
variable{H:Hp}{c:Value}{b:Bool}
inductive lx(K:fI)(H:Hp):V->Value->Prop where
 | bc:lx K H .bc (.type "NoneType")
 | bl (x:Bool):lx K H (.bl x) (.type "bool")
 | int (i:Int):lx K H (.int i) (.type "int")
 | str (x:Str):lx K H (.str x) (.type "str")
 | TL (x:UInt64):lx K H (.TL x) (.type "float")
 | lst {a:Addr} {xs:List V} (e:H a=!(.lst xs)):lx K H (.ref a) (.type "list")
 | xD {a:Addr} {o:Obj} {xs:List V} (e:H a=!(.xD o (.lst xs))):lx K H (.ref a) (.type "list")
 | tup {a:Addr} {xs:List V} (e:H a=!(.tup xs)):lx K H (.ref a) (.type "tuple")
 | dK {a:Addr} {Κ:List (Key×V)} (e:H a=!(.dK Κ)):lx K H (.ref a) (.type "dict")
 | dT {a:Addr} {Κ:List (List Key×V)} (e:H a=!(.dT Κ)):lx K H (.ref a) (.type "dict")
 | ins {a C dx:Addr} {fs:List (Str×V)} (e:H a=!(.ins C dx fs)) (cl:Gr K C) (ha:PySem.W.findIn K (.ref C) "__class__"=!(!(.builtin "object.__class__")))
   (hn:PySem.W.specialIn K (.builtin "object.__class__") "__get__"=!(!(.builtin "getset_descriptor.__get__"))) (Vj:PySem.W.takesIn K (.builtin "object.__class__")=!true)
   (hm:PySem.W.mroIn K C (.type "object")=!true):lx K H (.ref a) (.ref C)
def Ik{x:V}{t:Value}(I:Inv X η σ H s)(rx:aH x u)(ty:lx X.K H x t)(e:PySem.W.kitOne X.K t c=!b)(h:∀tk,Q (.bool b) {s with toks:=tk}):
  wpAny (model X.prog X.w) A (call (.builtin "isinstance") [u,c]) Q E s:=by
 cases ty with
 | bc=>cases(show u=Value.none from rx);show PySem.W.kia_one PySem.W.kitx_none I.pU True.intro e nofun h
 | bl y=>cases(show u=Value.bool y from rx);show PySem.W.kia_one PySem.W.kitx_bool I.pU True.intro e nofun h
 | int i=>let(t,q):=(show∃t,u=Value.int i t from rx);cases q;show PySem.W.kia_one PySem.W.kitx_int I.pU True.intro e nofun h
 | str y=>let(t,q):=(show∃t,u=Value.str y t from rx);cases q;show PySem.W.kia_one PySem.W.kitx_str I.pU True.intro e nofun h
 | TL y=>let(t,q):=(show∃t,u=Value.float y t from rx);cases q;show PySem.W.kia_one PySem.W.kitx_float I.pU True.intro e nofun h
 | @lst a xs ea=>
  cases(show u=Value.ref a from rx);let(_,_,n,_,h1):=(show cn X.prog X.w H s.heap a (.lst xs) from I.aS a _ ea);show PySem.W.kia_one PySem.W.kitx_list I.pU (_,h1,rfl) e nofun h
 | @xD a ob xs ea=>
  cases(show u=Value.ref a from rx);let(_,_,_,n,_,h1):=(show cn X.prog X.w H s.heap a (.xD ob (.lst xs)) from I.aS a _ ea);show PySem.W.kia_one PySem.W.kitx_list I.pU (_,h1,rfl) e nofun h
 | @tup a xs ea=>
  cases(show u=Value.ref a from rx);let(_,_,_,p):=(show cn X.prog X.w H s.heap a (.tup xs) from I.aS a _ ea);let(o,h1,h2,_):=p;show PySem.W.kia_one PySem.W.kitx_tuple I.pU (o,h1,h2) e nofun h
 | @dK a Κ ea=>
  cases(show u=Value.ref a from rx);let(_,_,vs,_,p):=(show cn X.prog X.w H s.heap a (.dK Κ) from I.aS a _ ea);let(o,es,ep,h1,h2,_):=p;show PySem.W.kia_one PySem.W.kitx_dict I.pU (o,h1,h2.1) e nofun h
 | @dT a Κ ea=>
  cases(show u=Value.ref a from rx);let(_,_,xs,_,o,es,ep,h1,h2,_):=(show cn X.prog X.w H s.heap a (.dT Κ) from I.aS a _ ea);show PySem.W.kia_one PySem.W.kitx_dict I.pU (o,h1,h2.1) e nofun h
 | @ins a C dx fs ea cl ha hn Vj hm=>
  cases(show u=Value.ref a from rx);let(mA,O,_):=sY I.aS ea;let(od,J,_):=O.look;show PySem.W.kia_one (PySem.W.kitx_own (cl.get _) cl.hd ha hn Vj hm) I.pU J e nofun h
end
structure bI(k:Nat)(A:Around):Prop where
 hd:A.handled=none
 dp:A.depth+3 * k+5 < recursionLimit
 un:A.units+16 * k+200 < cLine
def bI.mono{j k:Nat}(r:bI k A)(h:j<=k):bI j A:=(r.hd,by have:=r.dp;omega,by have:=r.un;omega)
def bI.deeper{k:Nat}(r:bI (k+1) A)(env:Env):bI k (A.deeper env):=
 (r.hd,by have:=r.dp;change A.depth+1+3 * k+5 < _;omega,by have:=r.un;change A.units+3+16 * k+200 < _;omega)
def DB:(A.under (.builtin "type.__call__" (.ref C::us,kw))).depth=A.depth+1:=by
 first| rfl| simp[Around.under,Code.weight,Code.isCreation,Code.isGuard,Code.isCaller,Code.frames,Code.isFrame,guardIds]
def EN:(A.under (.builtin "type.__call__" (.ref C::us,kw))).units=A.units+1:=by
 first| rfl| simp[Around.under,Code.cUnits,Code.frames,Code.isFrame]
def bI.make{k:Nat}(r:bI (k+1) A)(C:Addr)(us:List Value)(kw:List (Str×Value)):bI k (A.under (.builtin "type.__call__" (.ref C::us,kw))):=
 (r.hd,by have:=r.dp;rw[DB];omega,by have:=r.un;rw[EN];omega)
def bI.depth{k:Nat}(r:bI k A):A.depth < recursionLimit:=by have:=r.dp;omega
def bI.units{k:Nat}(r:bI k A):A.units+64 < cLine:=by have:=r.un;omega
def bI.DO{k:Nat}(r:bI k A):A.units < cLine:=by have:=r.un;omega
def SN:TA:=λ_ H Q=>Q [] H
def Qd(ta:TE)(tr:TA):TA:=λσ H Q=>ta σ H λx H1=>tr σ H1 λxs H2=>Q (x::xs) H2
section
def Rj:PA X [] SN:=λ_ _ _ _ H Q I h=>Calls.spliced_nil ([],H,I,.nil,h)
def NT(ha:PE X e te)(hr:PA X es t)(hs:starEach (e::es) X.env=(false, eval e X.env)::starEach es X.env|>1):PA X (e::es) (Qd te t):=by intro pos η s σ H Q I h;rw[hs];change wpAny _ _ (spliced ((false, eval e X.env)::backTo pos (starEach es X.env))) _ _ s;show Calls.spliced_cons (bG (ha η s σ H _ I h) λu s1 xz=>?_);let(x,H1,I1,r1,q1):=xz;show bG (hr pos η s1 σ H1 _ I1 q1) λus s2 (xs,H2,I2,r2,q2)=>(x::xs,H2,I2,.cons r1 r2,q2)
def YE(t:TA):TE:=λσ H Q=>t σ H λxs H1=>-xs<=sizeLine/\∀p,H1 p=none->Q (.ref p) (upd H1 p (.tup xs))
def Zk(t:TA):TE:=λσ H Q=>t σ H λxs H1=>-xs<=sizeLine/\∀p,H1 p=none->Q (.ref p) (upd H1 p (.lst xs))
def Sd{x1}(h:PA X es t):PE X (.Tuple es x1 pos) (YE t):=by intro η s σ H Q I hq;show wpAny_Tuple_spliced (bG (h pos η s σ H _ I hq) fun us s1 (xs,H1,I1,r,z,q)=>(by rw[<--r];show z,?_));let hf:H1 s1.heap.objs.size=none:=I1.aS.fresh (aaq _);show(.ref s1.heap.objs.size,upd H1 s1.heap.objs.size (.tup xs),I1.laid (t':=s1.toks) (λb u e=>aat _ e) (aaq _) ?_,rfl,q _ hf);show(z,us,r,(_,abz _ rfl,rfl,_,rfl))
def MG(h:PA X es t):PE X (.List es pos) (Zk t):=by intro η s σ H Q I hq;show wpAny_List_spliced (bG (h pos η s σ H _ I hq) fun us s1 (xs,H1,I1,r,z,q)=>(by rw[<--r];show z,?_));let hf:H1 s1.heap.objs.size=none:=I1.aS.fresh (aaq _);show(.ref s1.heap.objs.size,upd H1 s1.heap.objs.size (.lst xs),I1.laid (t':=s1.toks) (λb u e=>aat _ e) (aaq _) ?_,rfl,q _ hf);show(z,us,0,r,abz _ rfl)
end
abbrev Sp:=List V->Hp->VK->XK->Prop
variable{sp:Sp}
abbrev BR:=List Env->Hp->Shared->XK->Value->Shared->Prop
variable{CX:BR}
structure EO(P:Program)(w:World)(K:fI)(mg:Str->Option Value)(base:Heap)(A:Around)(outer:List Env)(s:Shared)(H:Hp):Prop where
 frames:A.frames=!outer
 mod:Mod K mg base
 bs:∀b o,base.get? b=!o->s.heap.get? b=!o/\H b=none
 v7:base.objs.size<=s.heap.objs.size
 wG:s.heap.FunFrames base outer
 Vw:∀b∈sG outer,H b=none
 aS:mB P w H s.heap
 bare:AllBare s.gens
def CE(outer:List Env)(P:Program)(w:World)(H:Hp)(s:Shared)(Q:VK)(u:Value)(s':Shared):Prop:=
 ∃v H',s'.os=s.os/\AllBare s'.gens/\Un (sG outer) [] H H' s.heap s'.heap/\mB P w H' s'.heap/\aH v u/\Q v H'
def CR(CX:BR)(outer:List Env)(P:Program)(w:World)(H:Hp)(s:Shared)(Q:VK)(E:XK)(r:Result)(s':Shared):Prop:=
 match r with
 | .ok (.ret u)=>CE outer P w H s Q u s'
 | .ok _=>False
 | .error e=>CX outer H s E e s'
structure ao(P:Program)(w:World)(K:fI)(mg:Str->Option Value)(base:Heap)(CX:BR)(k:Nat)(f:Addr)(fd:FuncData)(ps:List Str)(sp:Sp):Prop where
 len:∀vs H Q E,sp vs H Q E->-vs=-ps
 run:∀(A:Around) (outer:List Env) (s:Shared) (H:Hp) (args:Args) (us:List Value) (vs:List V) (Q:VK) (E:XK),bI k A->EO P w K mg base A outer s H->BindsTo s fd args (ps.zip us)->aC vs us->sp vs H Q E->
  codeAny (model P w) A (.call (.ref f) args) (CR CX outer P w H s Q E) s
def EO.make{K:fI}{H:Hp}(e:EO P w K mg base A outer s H)(C:Addr)(us:List Value)(kw:List (Str×Value)):
  EO P w K mg base (A.under (.builtin "type.__call__" (.ref C::us,kw))) outer s H:=(by first| show e.frames| (simpa [Around.under,Code.envs,Code.isFrame,pushEnvs] using e.frames),e.mod,e.bs,e.v7,e.wG,e.Vw,e.aS,e.bare)
section
variable{H:Hp}{s':Shared}
def Inv.TY(I:Inv X η σ H s):EO X.prog X.w X.K X.mg X.base X.A X.stack s H:=
 (I.ok.frames,I.ok.mod,I.bs,aaF I.ok.v7 I.sz,I.stack,I.yJ,I.aS,I.bare)
def Inv.after{Q:VK}(I:Inv X η σ H s)(h:CE X.stack X.prog X.w H s Q u s'):EP X η σ Q u s':=by let(v,H',os,bare,un,aS,r,q):=h;let(hh,g,d,t,XG):=s';obtain rfl:XG=s.os:=os;show(v,H',I.call (h':=hh) (g':=g) (d':=d) (t':=t) (ch:=[]) un aS bare (λb z=>absurd z (by simp)),r,q)
end
def i5(K:fI)(fd:FuncData)(ps:List Str)(ds:List Value):Prop:=
 ∀(s:Shared) (us:List Value),K.In s.heap->-(us++ds)=-ps->BindsTo s fd (us,[]) (ps.zip (us++ds))
def i5.all{K:fI}(h:∀us:List Value,-us=-ps->bindArgs fd (us,[])=pure (ps.zip us)):i5 K fd ps []:=λs us _ hl=>by rw[abw]at hl⊢;show .of_eq (h us hl)
section
variable{k:Nat}{f:Addr}{pT:List V}{ds:List Value}{E:XK}{m:Str}{p apos:Pos}{o:Expr}
structure Mk(K:fI)(C f:Addr):Prop where
 makes:PySem.W.makesIn K C=true
 init:PySem.W.findIn K (.ref C) "__init__"=!(!(.ref f))
 fn:PySem.W.isFn K (.ref f)=true
 kp:PySem.W.keepIn K (.ref C)=true
end
def PK(X:Cx)(Jz:List Keyword)(t:TA):Prop:=
 ∀(pos:Pos) (η:List (Addr×Obj)) (s:Shared) (σ:St) (H:Hp) (Q:List V->Hp->Prop),Inv X η σ H s->t σ H Q->wpAny (model X.prog X.w) X.A (evalAll ((backToKw pos (keywordEach Jz X.env)).map (·.2))) (AP X η σ Q) X.xe s
section
variable{k:Nat}{f:Addr}{ks:List Str}{E:XK}{m:Str}{p apos Ds:Pos}{o:Expr}{Jz:List Keyword}{tk:TA}{nm:Option Str}
def Tr:PK X [] SN:=λ_ _ _ _ H Q I h=>wpAny_evalAll_nil ([],H,I,.nil,h)
def OR(ha:PE X e te)(hr:PK X Jz t):PK X ((nm,e,Ds)::Jz) (Qd te t):=by intro pos η s σ H Q I h;change wpAny _ _ (evalAll ((do let  v<-eval e X.env;standAt pos;pure v)::(backToKw pos (keywordEach Jz X.env)).map (·.2))) _ _ s;show wpAny_evalAll_cons (aaw (bG (ha η s σ H _ I h) fun u s1 (x,H1,I1,r1,q1)=>aaw (wpAny_standAt (abt ?_))));show bG (hr pos η s1 σ H1 _ I1 q1) λus s2 (xs,H2,I2,r2,q2)=>(x::xs,H2,I2,.cons r1 r2,q2)
structure Ek(K:fI)(fd:FuncData)(ps ks:List Str)(g:List Value->List Value->List Value)(gV:List V->List V->List V):Prop where
 to:∀(s:Shared) (us ws:List Value),K.In s.heap->-(g us ws)=-ps->BindsTo s fd (us,ks.zip ws) (ps.zip (g us ws))
 rel:∀{vs:List V} {us:List Value} {zs:List V} {ws:List Value},aC vs us->aC zs ws->aC (gV vs zs) (g us ws)
variable{g:List Value->List Value->List Value}{gV:List V->List V->List V}
end
structure Δ(N P:List Str)(sc:Scope):Prop where
 kind:sc.kind= .function
 co:sc.isCoroutine=false
 gen:sc.isGenerator=false
 nd:N.Nodup
 pre:N.take (-P)=P
 par:∀x∈P,sc.names.lookup x=some .local\/sc.names.lookup x=some .cell
 TB:∀y∈sc.names,y.2≠ .free
def xI{kindOf:Str->Option NameKind}{x:Str}:∀{binds:List (Str×Value)} {m:Str->Option Value},(∀v,(x, v)∉binds)->bindL kindOf binds m x=m x
 | [],_,_=>rfl
 | (n, v)::r,m,h=>by
  unfold bindL;rw[xI λw hw=>h w (aaf _ hw)];split
  .have:x≠n:=by rintro rfl;show h v aah
   simp[this]
  .rfl
def xH{kindOf:Str->Option NameKind}{x:Str}:∀{binds:List (Str×Value)} {m:Str->Option Value},(∀v,(x, v)∉binds)->bindC kindOf binds m x=m x
 | [],_,_=>rfl
 | (n, v)::r,m,h=>by
  unfold bindC;rw[xH λw hw=>h w (aaf _ hw)];split
  .rfl
  .have:x≠n:=by rintro rfl;show h v aah
   simp[this]
def yc{kindOf:Str->Option NameKind}{x:Str}{v:Value}:∀{P:List Str} {vs:List Value} {i:Nat} {m:Str->Option Value},P.Nodup->P[i]? =!x->vs[i]? =!v->kindOf x=some .local->
  bindL kindOf (P.zip vs) m x=!v
 | [],_,_,_,_,h,_,_=>by simp at h
 | _::_,[],_,_,_,_,h,_=>by simp at h
 | p::P,w::vs,0,m,nd,h1,h2,hk=>by simp at h1 h2;subst h1;subst h2;change bindL kindOf ((p, w)::P.zip vs) m p=_;unfold bindL;rw[xI λv hv=>(aca.mp nd).1 (acx hv).1,aa0 hk];simp
 | p::P,w::vs,i+1,m,nd,h1,h2,hk=>by change bindL kindOf ((p, w)::P.zip vs) m x=_;unfold bindL;show yc (i:=i) (List.nodup_cons.mp nd).2 (by simpa using h1) (by simpa using h2) hk
def xf{kindOf:Str->Option NameKind}{x:Str}{v:Value}:∀{P:List Str} {vs:List Value} {i:Nat} {m:Str->Option Value},P.Nodup->P[i]? =!x->vs[i]? =!v->kindOf x≠some .local->
  bindC kindOf (P.zip vs) m x=!v
 | [],_,_,_,_,h,_,_=>by simp at h
 | _::_,[],_,_,_,_,h,_=>by simp at h
 | p::P,w::vs,0,m,nd,h1,h2,hk=>by simp at h1 h2;subst h1;subst h2;change bindC kindOf ((p, w)::P.zip vs) m p=_;unfold bindC;rw[xH λv hv=>(aca.mp nd).1 (acx hv).1,aa3 hk];simp
 | p::P,w::vs,i+1,m,nd,h1,h2,hk=>by change bindC kindOf ((p, w)::P.zip vs) m x=_;unfold bindC;show xf (i:=i) (List.nodup_cons.mp nd).2 (by simpa using h1) (by simpa using h2) hk
noncomputable def start(N:List Str)(vs:List V):St:=vs.map some++List.replicate (-N - -vs) none
noncomputable def v9(CX:BR)(P:Program)(w:World)(K:fI)(mg:Str->Option Value)(base:Heap)(N:List Str)(qual:Str)(scope:Scope)(f:Addr)(cd:Value)(A:Around)(outer:List Env)(s:Shared)(H:Hp)(E:XK):Cx where
 prog:=P
 w:=w
 K:=K
 mg:=mg
 base:=base
 A:=A.deeper (envOfC qual scope s.heap.objs.size f cd)
 N:=N
 s₀:=s
 H₀:=H
 env:=envOfC qual scope s.heap.objs.size f cd
 outer:=outer
 stack:=envOfC qual scope s.heap.objs.size f cd::outer
 ex:=[]
 calm:=true
 fn:=λ_=>true
 pn:=[]
 xe:=λe s'=>wpAny (model P w) (A.deeper (envOfC qual scope s.heap.objs.size f cd)) (leaving (envOfC qual scope s.heap.objs.size f cd) e) (λ_ Uk=>CX outer H s E e Uk) (λe' Uk=>CX outer H s E e' Uk) s'
def BX{sc:Scope}(h:sc.names.lookup x=some .cell):∃c,(cellsFrom n sc.names []).lookup x=!c:=by let q:=PySem.W.cellsFrom_some sc.names n [] (.inl h);show aci.mp q
def Hn{K:fI}{f:Addr}{H:Hp}{E:XK}{vs:List V}
  (S:Δ N ps scope) (hd:A.handled=none) (e0:EO P w K mg base A outer s H) (hl:-vs=-ps) (r:aC vs us)
  (x:InCallC s s.heap.objs.size (bindL (envOfC qual scope s.heap.objs.size f cd).kindOf (ps.zip us) λ_=>none) (cellsFrom (s.heap.objs.size+1) scope.names []) (bindC (envOfC qual scope s.heap.objs.size f cd).kindOf (ps.zip us) λ_=>none) s1):
  Inv (v9 CX P w K mg base N qual scope f cd A outer s H E) [] (start N vs) H s1:=by
 let f_:-ps<=-N:=by have:=abq List.length S.pre;rw[ac9]at this;omega
 let(h1,tk,rfl,hk):=x.done;let Xq:∀b:Addr,b∉(v9 CX P w K mg base N qual scope f cd A outer s H E).ex:=λb z=>absurd (show b∈([]:List Addr) from z) (by simp)
 show⟨(e0.mod,S.kind,rfl,rfl,aaq _,λy z c h1 h2=>?_,λy hy=>?_,λy c _ h=>?_,λ_=>hd,Around.frames_deeper e0.frames,.inr (rfl,rfl),λb z=>abe z (Xq b),e0.bs,e0.v7,λb _ _=>Xq b,λb z=>abe z (Xq b),e0.wG,e0.Vw),
  rfl,e0.bare,Un.kept hk,(_,x.toInCall.ns,λi y v h1 h2 h3=>?_),λy c h=>(_,x.cell y c h),e0.aS.fresh (Nat.le_refl _),λy c h=>?_,λp hp=>absurd (show p∈([]:List (Addr×Obj)) from hp) (by simp),e0.aS.kept hk,?_⟩
 .show name_of_addr x.apart (PySem.mem_of_lookup h1) (PySem.mem_of_lookup h2)
 .let hy:scope.names.lookup y=some .cell\/scope.names.lookup y=some .free:=hy;rcases hy with hy| hy
  .show BX hy
  .show abe rfl (S.TB _ (PySem.mem_of_lookup hy))
 .show Nat.le_of_lt (x.above y c (PySem.mem_of_lookup h))
 .let hi:i < -vs:=by
   unfold start at h2;by_cases hi:i < -vs
   .show hi
   .rw[List.getElem?_append_right (by simpa using hi)]at h2;rw[acS]at h2;split at h2 <;> cases h2
  let ha:vs[i]? =!v:=by
   unfold start at h2;rw[List.getElem?_append_left (by simpa using hi),List.getElem?_map]at h2;cases e:vs[i]? with
   | none=>rw[e]at h2;cases h2
   | some a=>rw[e]at h2;cases h2;rfl
  let(u,hu,rv):=r.get ha;let hp:ps[i]? =!y:=by rw[<-S.pre,ade ()];show h1
  let ndP:ps.Nodup:=by rw[<-S.pre];show S.nd.sublist (List.take_sublist _ _)
  show(u,rv,?_);rcases S.par y (aap hp) with k| k
  .show .inl (k,yc ndP hp hu k)
  .let(c,e):=BX (n:=s.heap.objs.size+1) k;show .inr (.inl k,c,e,?_);let q:=x.cell y c e;rw[xf ndP hp hu (by change scope.names.lookup y≠_;rw[k];decide)]at q;show q
 .show e0.aS.fresh (Nat.le_of_lt (x.above y c (PySem.mem_of_lookup h)))
 .unfold start;change _=-N;rw[aak,aae,abT];omega
def Qi{K:fI}{k:Nat}{f:Addr}{kV oc:Value}{od:Option Addr}
  {B4:Array (Option Value)}   (lk:K.lookup f=!(oc,od,.func (PySem.W.fnOf name qual params body scope dV kV doc pm an aQ ct),B4)) (D1:PySem.W.codeIn K aQ qual=true) (S:Δ N ps scope)
  (len:∀vs H Q E,sp vs H Q E->-vs=-ps)
  (tM:∀(A:Around) (outer:List Env) (s:Shared) (H:Hp) (vs:List V) (Q:VK) (E:XK),bI k (A.deeper (envOfC qual scope s.heap.objs.size f aQ))->sp vs H Q E->
   ∃t,Jx (v9 CX P w K mg base N qual scope f aQ A outer s H E) body t/\t {nx:=λ_ H'=>Q .bc H',rt:=Q} (start N vs) H):
  ao P w K mg base CX (k+1) f (PySem.W.fnOf name qual params body scope dV kV doc pm an aQ ct) ps sp:=by
 show(len,λA outer s H args us vs Q E hr e0 hb r QX=>?_);let hl:=len _ _ _ _ QX;let KX:K.In s.heap:=e0.mod.T'.keeps λb o e=>(e0.bs b o e).1;let lim:s.heap.NoLimit:=e0.mod.nolimit.keeps λb o e=>(e0.bs b o e).1;let LN:∀y∈ps.zip us,scope.names.lookup y.1=some .local\/(scope.names.lookup y.1=some .cell/\((cellsFrom (s.heap.objs.size+1) scope.names []).lookup y.1).isSome=true):=λ(n,v) hy=>by
  rcases S.par n (acx hy).1 with q| q
  .show .inl q
  .show .inr (q,PySem.W.cellsFrom_some _ _ _ (.inl q))
 show codeAny_call_function hr.depth (KX _ _ lk) rfl S.co S.gen rfl (PySem.W.codeRec_of KX D1) (hb _ _ _ _ ?_);show wpAny_newFunctionEnv_cells S.kind LN λenv he s1 x=>?_;subst he;show(lim.keeps x.toInCall.keep,codeAny_func ?_);let(t,ht,hq):=tM A outer s H vs Q E (hr.deeper _) QX;let I:Inv (v9 CX P w K mg base N qual scope f aQ A outer s H E) [] (start N vs) H s1:=Hn S hr.hd e0 hl r x;show acV (ht [] s1 (start N vs) H _ I hq) (λfl s' hs=>?_) λe s' hs=>hs
 let fin:∀{σ':St} {H':Hp} {v:V} {u:Value},Inv (v9 CX P w K mg base N qual scope f aQ A outer s H E) [] σ' H' s'->aH v u->Q v H'->CE outer P w H s Q u s':=
  λ{σ' H' v u} J rv q=>(v,H',J.os,J.bare,J.base,J.aS,rv,q)
 cases fl with
 | ret u=>
  let(v,σ',H',J,rv,q):=hs;show fin J rv q
 | next=>
  let(σ',H',J,q):=hs;show fin (v:=V.bc) (u:=Value.none) J rfl q
 | brk=>
  let(_,_,_,q):=hs;show False.elim q
 | cont=>
  let(_,_,_,q):=hs;show False.elim q
section
variable{p:Pos}{id T:String}{r:List V->Hp->VK->Prop}
def tCB(r:List V->Hp->VK->Prop)(t:TA):TE:=λσ H Q=>t σ H λvs H1=>r vs H1 Q
def LW(hc:eD X (.builtin id) r)(hg:Gl X x)(hm:X.mg x=none)(hv:bootBuiltins x=!(.builtin id))(ha:PA X (e::es) t)(hn:x≠"__name__"|>2)(mw:(x==("__debug__":Str))=false|>2)
  (he:starEach (e::es) X.env=(false, eval e X.env)::starEach es X.env|>1) (f_:(backTo pos (starEach es X.env)).any (·.1)=false|>1):PE X (.Call (.Name x p) (e::es) [] pos) (tCB r t):=by
 intro η s σ H Q I h;show wpAny_Call_Name_kw (nA I hg hm hv ?_ hn mw);show PyProof.Rows.callWith_builtin1 (bG (ha pos η s σ H _ I h) λus s1 (vs,H1,I1,r1,q1)=>hc η s1 σ H1 vs us Q I1 r1 q1) he f_
def Jq(hc:eD X (.type T) r)(hg:Gl X x)(hm:X.mg x=none)(hv:bootBuiltins x=!(.type T))(ha:PA X (e::es) t)(hn:x≠"__name__"|>2)(mw:(x==("__debug__":Str))=false|>2)
  (he:starEach (e::es) X.env=(false, eval e X.env)::starEach es X.env|>1) (f_:(backTo pos (starEach es X.env)).any (·.1)=false|>1):PE X (.Call (.Name x p) (e::es) [] pos) (tCB r t):=by
 intro η s σ H Q I h;show wpAny_Call_Name_kw (nA I hg hm hv ?_ hn mw);show PyProof.Rows.callWith_type1 (bG (ha pos η s σ H _ I h) λus s1 (vs,H1,I1,r1,q1)=>hc η s1 σ H1 vs us Q I1 r1 q1) he f_
end
end L2
namespace HT
open PySem PyProof.Rows
section
variable{prog:Program}{w:World}{A:Around}{E:Value->Shared->Prop}{s:Shared}
def Oj{vs ws:List Value}{Q:Value->Shared->Prop}(ht:IsTup s.heap t vs.toArray)(hb:IsTup s.heap b ws.toArray)(hv:vs≠[])
  (h1:ws=[]->Q (.ref t) s) (h2:ws≠[]->Q (.ref s.heap.objs.size) {s with heap:=s.heap.push {cls:=.type "tuple",data:=.seq (vs++ws).toArray}})
  (hsz:-vs+-ws<=sizeLine):wpAny (model prog w) A (binaryOp .Add (.ref t) (.ref b)) Q E s:=by
 let((cls,dd,data,sl),ho,hc,n,hd):=id ht;let((ain,X9,data2,Yi),X0,hc2,n2,hd2):=id hb;simp only at hc hd hc2 hd2;subst hc hd hc2 hd2;let e:vs.toArray++ws.toArray=(vs++ws).toArray:=by simp
 by_cases hw:ws=[]
 .show concat_meets (_,ho,rfl) (_,X0,rfl) noFill_tuple_add seq_tuple_add PySem.F.slot_tuple_add PySem.F.entry_tuple_add (PySem.F.args_tuple_add_2 _ _)
   (tuple_addW1 t b vs.toArray ws.toArray n n2 dd X9 sl Yi (by simpa using hv) (by simp[hw])) (ho,X0,h1 hw)
 .show concat_meets (_,ho,rfl) (_,X0,rfl) noFill_tuple_add seq_tuple_add PySem.F.slot_tuple_add PySem.F.entry_tuple_add (PySem.F.args_tuple_add_2 _ _)
   (tuple_addW2 t b vs.toArray ws.toArray n n2 dd X9 sl Yi (by simpa using hv) (by simpa using hw) (by rw[List.size_toArray,List.size_toArray];show hsz)) (ho,X0,?_)
  rw[e];show h2 hw
noncomputable def A3(n d:Nat):Option Int->Nat
 | none=>d
 | some v=>if v < 0 then (v+(n:Int)).toNat else min v.toNat n
def BC(n d:Nat):A3 n d none=d:=rfl
def sS(n d k:Nat):A3 n d (!(k:Int))=min k n:=by change(if (k:Int) < 0 then ((k:Int)+(n:Int)).toNat else min (k:Int).toNat n)=min k n;rw[aa3 (),acs]
end
end HT
namespace L2
open PySem PySem.Spec PyProof.Rows
variable{X:Cx}{n:Nat}{η:List (Addr×Obj)}{s:Shared}{its:List Value}
abbrev TO:=St->Hp->(Option Int->Hp->Prop)->Prop
def PO(X:Cx)(e:Option Expr)(t:TO):Prop:=
 ∀(η:List (Addr×Obj)) (s:Shared) (σ:St) (H:Hp) (Q:Option Int->Hp->Prop),Inv X η σ H s->t σ H Q->
  wpAny (model X.prog X.w) X.A (evalPart e X.env) (λu s'=>∃o H',Inv X η σ H' s'/\IsPart u o/\Q o H') X.xe s
def NX:TO:=λ_ H Q=>Q none H
def V4(t:TE):TO:=λσ H Q=>t σ H λx H1=>∃i,x= .int i/\Q (!i) H1
section
variable{e:Expr}{te:TE}{lo hi:Option Expr}{tl th:TO}{pos p2:Pos}
def Fu:PO X none NX:=by intro η s σ H Q I h;rw[evalPart_none];show abt (none,H,I,.none,h)
def l'(h:PE X e te):PO X (!e) (V4 te):=by intro η s σ H Q I hw;rw[evalPart_some];show bG (h η s σ H _ I hw) λu s1 xz=>?_;let(x,H1,I1,r1,q1):=xz;let(i,rfl,q):=q1;let(t,rfl):=r1;show(!i,H1,I1,.int i t,q)
def SlR(X:Cx)(r:V->Option Int->Option Int->Hp->VK->Prop):Prop:=
 ∀(η:List (Addr×Obj)) (s:Shared) (σ:St) (H:Hp) (x:V) (v vl vu:Value) (lo hi:Option Int) (sl:Addr) (Q:VK),Inv X η σ H s->aH x v->s.heap.IsSliceOf sl vl vu .none->IsPart vl lo->IsPart vu hi->r x lo hi H Q->
  ∃T id,typeLookup (.type T) "__getitem__"=pure (!(.builtin id))/\s.TypeIs v T/\wpAny (model X.prog X.w) X.A (getItem v (.ref sl)) (EP X η σ Q) X.xe s
def tSl(r:V->Option Int->Option Int->Hp->VK->Prop)(te:TE)(tl th:TO):TE:=λσ H Q=>te σ H λx H1=>tl σ H1 λl H2=>th σ H2 λu H3=>r x l u H3 Q
def tJ(hr:SlR X r)(he:PE X e te)(hl:PO X lo tl)(hu:PO X hi th):PE X (.Subscript e (.Slice lo hi none p2) pos) (tSl r te tl th):=by intro η s σ H Q I h;show Subscript_ (bG (he η s σ H _ I h) λv s1 xz=>?_);let(x,H1,I1,r1,q1):=xz;show wpAny_Slice (bG (hl η s1 σ H1 _ I1 q1) fun vl s2 (l,H2,I2,pl,q2)=>bG (hu η s2 σ H2 _ I2 q2) λvu s3 xz=>?_);let(u,H3,I3,pu,q3):=xz;rw[evalPart_none];show abt ?_;let I4:Inv X η σ H3 {s3 with heap:=s3.heap.push {cls:=.type "slice",data:=.fields #[vl,vu,.none]}}:=I3.kept (t':=s3.toks) λb ob q=>aat _ q;let(T,id,hT,ht,hg):=hr η {s3 with heap:=s3.heap.push {cls:=.type "slice",data:=.fields #[vl,vu,.none]}} σ H3 x v vl vu l u s3.heap.objs.size Q I4 r1 (Heap.IsSliceOf.new ..) pl pu q3;change wpAny (model X.prog X.w) X.A (subscriptTail e (.Slice lo hi none p2) v (.ref s3.heap.objs.size)) (EP X η σ Q) X.xe {s3 with heap:=s3.heap.push {cls:=.type "slice",data:=.fields #[vl,vu,.none]}};show tail_any (ops:=[.ref s3.heap.objs.size,v]) ht hT hg (by with_unfolding_all rfl)
noncomputable def wH(xs:List V)(lo hi:Option Int):List V:=(xs.drop (HT.A3 (-xs) 0 lo)).take (HT.A3 (-xs) (-xs) hi - HT.A3 (-xs) 0 lo)
def B9(xs:List V)(lo hi:Option Int):-(wH xs lo hi)<=-xs:=by unfold wH;rw[ac9,acB];omega
def QU(K:fI):R2:=λx y H Q=>∃a b xs ys,x= .ref a/\y= .ref b/\pH K H a xs/\pH K H b ys/\xs≠[]/\-xs+-ys<=sizeLine/\
 (ys=[]->Q (.ref a) H)/\(ys≠[]->∀p,H p=none->Q (.ref p) (upd H p (.tup (xs++ys))))
def aC.zU(r:aC xs us):us=[]↔xs=[]:=by
 cases r with
 | nil=>simp
 | cons _ _=>simp
def Pb:jM X (binaryOp .Add) (QU X.K):=by intro η s σ H x y v u Q I rx ry h;let(a,b,xs,ys,rfl,rfl,ha,hb,hx,hz,q1,q2):=h;cases rx;cases ry;let(its,r1,p1,_):=I.tuple ha;let(LK,r2,p2,_):=I.tuple hb;show HT.Oj p1 p2 (λz=>hx (r1.zU.mp z)) (λz=>(.ref a,H,I,rfl,q1 (r2.zU.mp z))) (λz=>?_) (by rw[<--r1,<--r2];show hz);show(.ref s.heap.objs.size,_,I.laid (t':=s.toks) (o:=.tup (xs++ys)) (λb ob q=>aat _ q) (aaq _) ?_,rfl,q2 (λw=>z (r2.zU.mpr w)) _ (I.aS.fresh (aaq _)));show(by rw[aak];show hz,_,r1.append r2,IsTup.new _ _)
end
noncomputable def Io(n:Nat)(i:Int):Option Nat:=if 0<=i then (if i < n then !i.toNat else none) else if - (n:Int)<=i then !(i+n).toNat else none
noncomputable def jT{α:Type}(xs:List α)(i:Int):Option α:=(Io (-xs) i).bind λj=>xs[j]?
def FH{j:Nat}(h:Io n i=!j):seqIndex? i n=!j/\j < n/\ - (n:Int)<=i/\i < n:=by
 unfold Io at h;by_cases h0:0<=i
 .rw[aa0 h0]at h;by_cases h1:i < n
  .rw[aa0 h1]at h;let e:i.toNat=j:=aaC h;show(by rw[seqIndex_of h0 h1,e],(),(),h1)
  .rw[aa3 h1]at h;cases h
 .rw[aa3 h0]at h;by_cases h1: - (n:Int)<=i
  .rw[aa0 h1]at h;let e:(i+n).toNat=j:=aaC h;show(by rw[seqIndex_neg () h1,e],(),h1,())
  .rw[aa3 h1]at h;cases h
def zL{α:Type}{xs:List α}{i:Int}{v:α}(h:jT xs i=!v):∃j,seqIndex? i (-xs)=!j/\xs[j]? =!v/\j < -xs/\ - (-xs:Int)<=i/\i < -xs:=by
 unfold jT at h;cases e:Io (-xs) i with
 | none=>rw[e]at h;cases h
 | some j=>
  rw[e]at h;let(h1,h2,h3,h4):=FH e;show(j,h1,h,h2,h3,h4)
def Θ{α:Type}{xs:List α}{j:Nat}{v:α}(h:xs[j]? =!v):jT xs (j:Int)=!v:=by
 let hj:j < -xs:=(aai.mp h).1;let e:Io (-xs) (j:Int)=!j:=by unfold Io;rw[if_pos (),if_pos ()];simp
 unfold jT;rw[e];show h
def zu(b:Expr):Prop:=∀o i,subscripted b false o i=operate [o,i] (getItem o i)
def Nw(X:Cx)(r:R2):Prop:=
 ∀(value slice:Expr) (η:List (Addr×Obj)) (s:Shared) (σ:St) (H:Hp) (x y:V) (v u:Value) (Q:VK),Inv X η σ H s->aH x v->aH y u->r x y H Q->
  subscripted slice false v u=operate [v,u] (getItem v u)->wpAny (model X.prog X.w) X.A (subscriptTail value slice v u) (EP X η σ Q) X.xe s
def MtR(X:Cx)(id:String)(r:V->List V->Hp->VK->Prop):Prop:=
 ∀(η:List (Addr×Obj)) (s:Shared) (σ:St) (H:Hp) (x:V) (xs:List V) (v:Value) (us:List Value) (Q:VK),Inv X η σ H s->aH x v->aC xs us->r x xs H Q->
  wpAny (model X.prog X.w) X.A (call (.builtin id) (v::us)) (EP X η σ Q) X.xe s
section
variable{a b:Expr}{ta tb:TE}{pos:Pos}
set_option tactic.hygienic false
def Nw.or(h:Nw X r)(h':Nw X r'):Nw X (λx y H Q=>r x y H Q\/r' x y H Q):=by
 intro value slice η s σ H x y v u Q I rx ry q hs;rcases q with q| q
 .show h value slice η s σ H x y v u Q I rx ry q hs
 .show h' value slice η s σ H x y v u Q I rx ry q hs
def V5(hr:Nw X r)(ha:PE X a ta)(hb:PE X b tb)(hs:zu b):PE X (.Subscript a b pos) (Xi r ta tb):=by intro η s σ H Q I h;show Subscript_ (SV ha hb I h λv u s2 x y H2 I2 rx ry q=>hr a b η s2 σ H2 x y v u Q I2 rx ry q (hs _ _))
def Uw(K:fI):R2:=λx y H Q=>∃p xs i v,x= .ref p/\y= .int i/\h7 K H p xs/\jT xs i=!v/\Q v H
def WT(K:fI):R2:=λx y H Q=>∃p xs i v,x= .ref p/\y= .int i/\pH K H p xs/\jT xs i=!v/\Q v H
def Wk:R2:=λx y H Q=>∃z i c,x= .str z/\y= .int i/\-z<=sizeLine/\jT z.cps.toList i=!c/\Q (.str ⟨#[c]⟩) H
def Ou:Nw X (Uw X.K):=by
 intro value slice η s σ H x y v u Q I rx ry h hs;let(p,xs,i,z,rfl,rfl,hq,he,q):=h;cases rx;let(t,rfl):=ry;let(its,r,pl,hz):=I.list hq;let(j,h1,h2,h3,h4,h5):=zL he;let(w,ew,IF):=r.get h2;let hl:=-r;let hn:=qo;let fin:EP X η σ Q w s:=(z,H,I,IF,q);by_cases h0:0<=i
 .let hj:i.toNat=j:=by rw[seqIndex_of h0 h5]at h1;show aaC h1
  show item_listR pl.isList h0 () (by rw[hj];simpa using ew) fin hs
 .let hj:(i+(its.toArray.size:Int)).toNat=j:=by rw[seqIndex_neg () h4]at h1;rw[aa5,<-hl];show aaC h1
  show subscriptTail_builtinR (x:=w) pl.isList.typeIs slot_list_getitem.lookup
   (wpAny_getItem_list_neg (Q:=λr s'=>r=w/\EP X η σ Q r s') pl.isList () (by rw[List.size_toArray] <;> omega) () (by rw[hj];simpa using ew) (rfl,fin)) hs
def Td:Nw X (WT X.K):=by
 intro value slice η s σ H x y v u Q I rx ry h hs;let(p,xs,i,z,rfl,rfl,hq,he,q):=h;cases rx;let(t,rfl):=ry;let(its,r,pl,hz):=I.tuple hq;let(j,h1,h2,h3,h4,h5):=zL he;let(w,ew,IF):=r.get h2;let hl:=-r;let hn:=qo;let fin:EP X η σ Q w s:=(z,H,I,IF,q)
 show subscriptTail_builtinR (x:=w) pl.typeIs slot_tuple_getitem.lookup
  (getItem_tuple (j:=j) (Q:=λr s'=>r=w/\EP X η σ Q r s') pl () () (by rw[List.size_toArray,<-hl];show h1) (by simpa using ew) (rfl,fin)) hs
def Q6:Nw X Wk:=by
 intro value slice η s σ H x y v u Q I rx ry h hs;let(z,i,c,rfl,rfl,hz,he,q):=h;let(t,rfl):=rx;let(t',rfl):=ry;let(j,h1,h2,h3,h4,h5):=zL he;let hl:-z.cps.toList=-z:=by simp[Str.length]
 rw[hl]at h1 h4 h5;let hn:=qo
 show tail_any (typeIs_str s z t) slot_str_getitem.lookup (getItem_str (c:=c) (by
  let e1:decide (i < - (2 ^ 63:Int))=false:=aa6 ();let e2:decide (i ≥ 2 ^ 63)=false:=aa6 ()
  rw[e1,e2,Bool.or_false]) (by rw[h1];simpa using h2) (.str ⟨#[c]⟩,H,I.tok _,(_,rfl),q)) hs
def rIx(K:fI):R2:=λx y H Q=>Uw K x y H Q\/WT K x y H Q\/Wk x y H Q
def Sy:Nw X (rIx X.K):=Ou.or (Td.or Q6)
def EV(its:List Value)(n j:Nat)(u:Value):Obj.mapSeq (·.setIfInBounds j u) {cls:=.type "list",data:=.seq its.toArray n}={cls:=.type "list",data:=.seq (its.set j u).toArray n}:=by simp[Obj.mapSeq]
def Inv.lst{η:List (Addr×Obj)}{H:Hp}{s:Shared}(I:Inv X η σ H s)(h:H p=!(.lst xs)):
  ∃(its:List Value) (n:Nat),aC xs its/\s.heap.get? p=some {cls:=.type "list",data:=.seq its.toArray n}/\-xs<=sizeLine:=by
 let(z,its,n,r,e):=I.aS p _ h;show(its,n,r,e,z)
def Inv.RW{H:Hp}{its':List Value}{f:Obj->Obj}(I:Inv X η σ H s)(h:H p=!(.lst xs))
  (ho:s.heap.get? p=some {cls:=.type "list",data:=.seq its.toArray n}) (hf:f {cls:=.type "list",data:=.seq its.toArray n}={cls:=.type "list",data:=.seq its'.toArray n'}) (r:aC ys its') (hz:-ys<=sizeLine) (t:Nat):
  Inv X η σ (upd H p (.lst ys)) {s with heap:=s.heap.update p f,toks:=t}:=by
 let e:(s.heap.update p f).get? p=some {cls:=.type "list",data:=.seq its'.toArray n'}:=by rw[Heap.get?_update_self f ho (by rw[hf] <;> rfl),hf]
 show I.write (x:=p) (e:=p) (by rw[h];trivial) (.inl rfl) (λb u hb q=>(Heap.get?_update_other _ _ (Ne.symm hb)).trans q) (_,e) ?_;show(hz,its',n',r,e)
def Ql:V->V->V->Hp->(Hp->Prop)->Prop:=λo i v H Q=>∃p xs k j,o= .ref p/\i= .int k/\H p=!(.lst xs)/\Io (-xs) k=!j/\Q (upd H p (.lst (xs.set j v)))
def Np:Wy X Ql:=by
 intro η s σ H o i v ov iv u Q I ro ri rv h;let(p,xs,k,j,rfl,rfl,hp,hj,q):=h;cases ro;let(t,rfl):=ri;let(its,n,r,ho,hz):=I.lst hp;let(h1,h2,h3,h4):=FH hj;let hl:=-r;let hn:=qo
 let I':Inv X η σ (upd H p (.lst (xs.set j v))) {s with heap:=s.heap.update p (Obj.mapSeq (·.setIfInBounds j u))}:=
  I.RW hp ho (EV its n j u) (r.set rv j) (by rw[abW];show hz) s.toks
 by_cases h0:0<=k
 .let hk:k.toNat=j:=by rw[seqIndex_of h0 h4]at h1;show aaC h1
  show PySem.W.ki_setAt ho h0 () (by rw[aa5,<-hl];show h4) (by rw[hk];show(_,I',q))
 .let hk:(k+(its.toArray.size:Int)).toNat=j:=by rw[seqIndex_neg () h3]at h1;rw[aa5,<-hl];show aaC h1
  show PySem.W.ki_setBack ho () (by rw[aa5,<-hl];show h3) () (by rw[hk];show(_,I',q))
def yo(lo hi:Option Int)(n:Nat):(sliceBounds lo hi none n).1=((HT.A3 n 0 lo:Nat):Int)/\(sliceBounds lo hi none n).2.1=((HT.A3 n n hi:Nat):Int)/\(sliceBounds lo hi none n).2.2=1:=by
 show(?_,?_,rfl)
 .cases lo with
  | none=>simp[sliceBounds,HT.A3]
  | some i=>
   simp only[sliceBounds,HT.A3,Option.getD_none,show(1:Int) > 0 by decide,if_true];by_cases h:i < 0
   .simp only[h,if_true] <;> omega
   .simp only[h,if_false] <;> omega
 .cases hi with
  | none=>simp[sliceBounds,HT.A3]
  | some i=>
   simp only[sliceBounds,HT.A3,Option.getD_none,show(1:Int) > 0 by decide,if_true];by_cases h:i < 0
   .simp only[h,if_true] <;> omega
   .simp only[h,if_false] <;> omega
def wC(its:List Value)(lo hi:Option Int):slicePick its.toArray lo hi none=((its.drop (HT.A3 (-its) 0 lo)).take (HT.A3 (-its) (-its) hi - HT.A3 (-its) 0 lo)).toArray:=by let(h1,h2,h3):=yo lo hi its.toArray.size;unfold slicePick;rw[h1,h2,h3];simp only[sliceRange_one,pick_run,List.size_toArray] <;> rfl
def abd(K:fI):V->Option Int->Option Int->Hp->VK->Prop:=λx lo hi H Q=>∃a xs,x= .ref a/\h7 K H a xs/\∀p,H p=none->Q (.ref p) (upd H p (.lst (wH xs lo hi)))
def Ak:SlR X (abd X.K):=by intro η s σ H x v vl vu lo hi sl Q I rx hs pl pu h;let(a,xs,rfl,hx,q):=h;cases rx;let(its,r,ht,hz):=I.list hx;let hlen:=-r;show("list",_,slot_list_getitem.lookup,ht.isList.typeIs,?_);show wpAny_getItem_list_slice ht.isList hs pl pu .none (by simp) ?_ (by rw[List.size_toArray] <;> omega);rw[wC,<-hlen];show(.ref s.heap.objs.size,_,I.laid (t':=s.toks) (o:=.lst (wH xs lo hi)) (λb ob q=>aat _ q) (aaq _) ?_,rfl,q _ (I.aS.fresh (aaq _)));show(aaF (B9 xs lo hi) hz,_,0,(r.drop (HT.A3 (-xs) 0 lo)).take (HT.A3 (-xs) (-xs) hi - HT.A3 (-xs) 0 lo),abz _ rfl)
noncomputable def eE:V->Bool
 | .bc=>true
 | .bl _=>true
 | .int _=>true
 | .str _=>true
 | _=>false
noncomputable def pW:V->V->Bool
 | .bc,.bc=>true
 | .bl a,.bl b=>a==b
 | .bl a,.int b=>(if a then 1 else 0)==b
 | .int a,.bl b=>a==(if b then 1 else 0)
 | .int a,.int b=>a==b
 | .str a,.str b=>a==b
 | _,_=>false
def vb(ry:aH y u)(rx:aH x v)(fy:eE y=true)(fx:eE x=true):SeqAt.EqAt A s u v (pW y x):=by
 cases y with
 | bc=>
  cases ry;cases x with
  | bc=>cases rx;show SeqAt.EqAt.same _
  | bl b=>cases rx;show SeqAt.EqAt.none_bool b
  | int b=>let(t,rfl):=rx;show SeqAt.EqAt.none_int b t
  | str b=>let(t,rfl):=rx;show SeqAt.EqAt.none_str b t
  | _=>show abe (show false=true from fx) aa8
 | bl a=>
  cases ry;cases x with
  | bc=>cases rx;show SeqAt.EqAt.bool_none a
  | bl b=>cases rx;show SeqAt.EqAt.bool_bool a b
  | int b=>let(t,rfl):=rx;show SeqAt.EqAt.bool_int a b t
  | str b=>let(t,rfl):=rx;show SeqAt.EqAt.bool_str a b t
  | _=>show abe (show false=true from fx) aa8
 | int a=>
  let(t',rfl):=ry;cases x with
  | bc=>cases rx;show SeqAt.EqAt.int_none a t'
  | bl b=>cases rx;show SeqAt.EqAt.int_bool a t' b
  | int b=>let(t,rfl):=rx;show SeqAt.EqAt.int_int a t' b t
  | str b=>let(t,rfl):=rx;show SeqAt.EqAt.int_str a t' b t
  | _=>show abe (show false=true from fx) aa8
 | str a=>
  let(t',rfl):=ry;cases x with
  | bc=>cases rx;show SeqAt.EqAt.str_none a t'
  | bl b=>cases rx;show SeqAt.EqAt.str_bool a t' b
  | int b=>let(t,rfl):=rx;show SeqAt.EqAt.str_int a t' b t
  | str b=>let(t,rfl):=rx;show SeqAt.EqAt.str_str a t' b t
  | _=>show abe (show false=true from fx) aa8
 | _=>show abe (show false=true from fy) aa8
noncomputable def EA(x:V)(u:Value):Bool:=match u with
 | .none=>pW .bc x
 | .bool b=>pW (.bl b) x
 | .int i _=>pW (.int i) x
 | .str z _=>pW (.str z) x
 | _=>false
def JJ(r:aH y u)(f:eE y=true):EA x u=pW y x:=by
 cases y with
 | bc=>cases r;rfl
 | bl b=>cases r;rfl
 | int i=>let(t,rfl):=r;rfl
 | str z=>let(t,rfl):=r;rfl
 | _=>show abe (show false=true from f) aa8
def oN:∀{xs:List V} {us:List Value},aC xs us->xs.all eE=true->us.any (EA x)=xs.any λy=>pW y x
 | _,_,.nil,_=>rfl
 | y::xs,u::us,.cons r t,f=>by rw[acT,aaQ]at f;rw[acU,acU,JJ r f.1,oN t f.2]
def lG{s:Shared}(rx:aH x v)(fx:eE x=true):∀{xs:List V} {us:List Value},aC xs us->xs.all eE=true->∀u∈us,SeqAt.EqAt A s u v (EA x u)
 | _,_,.nil,_=>λu hu=>by cases hu
 | y::xs,u::us,.cons r t,f=>λu' hu=>by
  rw[acT,aaQ]at f;rcases abg.mp hu with rfl| hu
  .rw[JJ r f.1];show vb r rx f.1 fx
  .show lG rx fx t f.2 u' hu
def NA(x:V)(xs:List V):Bool:=xs.any λy=>pW y x
def Ys(K:fI)(neg:Bool):R2:=λx y H Q=>∃p xs,y= .ref p/\(h7 K H p xs\/pH K H p xs)/\eE x=true/\xs.all eE=true/\Q (.bl (if neg then ! NA x xs else NA x xs)) H
def xC:jM X (compareOp .In) (Ys X.K false):=by
 intro η s σ H x y v u Q I rx ry h;let(p,xs,rfl,hq,fx,fs,q):=h;cases ry;rcases hq with hq| hq
 .let(its,r,pl,hz):=I.list hq;show SeqAt.in_listAt (EA x) pl.isList (λw hw=>lG rx fx r fs w (by simpa using hw)) (.bl _,H,I,rfl,?_);rw[show its.toArray.any (EA x)=its.any (EA x) by simp,oN r fs];show q
 .let(its,r,pl,hz):=I.tuple hq;show SeqAt.in_tupleAt (EA x) pl (λw hw=>lG rx fx r fs w (by simpa using hw)) (.bl _,H,I,rfl,?_);rw[show its.toArray.any (EA x)=its.any (EA x) by simp,oN r fs];show q
def zM:jM X (compareOp .NotIn) (Ys X.K true):=by
 intro η s σ H x y v u Q I rx ry h;let(p,xs,rfl,hq,fx,fs,q):=h;cases ry;rcases hq with hq| hq
 .let(its,r,pl,hz):=I.list hq;show SeqAt.notIn_listAt (EA x) pl.isList (λw hw=>lG rx fx r fs w (by simpa using hw)) (.bl _,H,I,rfl,?_);rw[show its.toArray.any (EA x)=its.any (EA x) by simp,oN r fs];show q
 .let(its,r,pl,hz):=I.tuple hq;show SeqAt.notIn_tupleAt (EA x) pl (λw hw=>lG rx fx r fs w (by simpa using hw)) (.bl _,H,I,rfl,?_);rw[show its.toArray.any (EA x)=its.any (EA x) by simp,oN r fs];show q
def Ay:eD X (.builtin "len") (λxs H Q=>∃p ys,xs=[.ref p]/\(h7 X.K H p ys\/pH X.K H p ys)/\Q (.int (-ys)) H):=by
 intro η s σ H xs us Q I r h;let(p,ys,rfl,hq,q):=h;let(u,rfl,rx):=lS r;cases rx;let hn:=qo;rcases hq with hq| hq
 .let(its,r',pl,hz):=I.list hq;let hlen:=-r';show Calls.call_len_list pl.isList (by simp only[List.size_toArray] <;> omega) (.int (-ys),H,I.tok _,(s.toks+1,by rw[List.size_toArray,hlen]),q)
 .let(its,r',pl,hz):=I.tuple hq;let hlen:=-r';show len_tuple pl (by simp only[List.size_toArray] <;> omega) (.int (-ys),H,I.tok _,(s.toks+1,by rw[List.size_toArray,hlen]),q)
def Ai:eD X (.builtin "len") (λxs H Q=>∃z,xs=[.str z]/\-z<=sizeLine/\Q (.int (-z)) H):=by intro η s σ H xs us Q I r h;let(z,rfl,hz,q):=h;let(u,rfl,t,rfl):=lS r;let hn:=qo;show len_str () (.int (-z),H,I.tok _,(_,rfl),q)
def eD.or(h:eD X f r)(h':eD X f r'):eD X f (λxs H Q=>r xs H Q\/r' xs H Q):=by
 intro η s σ H xs us Q I rs q;rcases q with q| q
 .show h η s σ H xs us Q I rs q
 .show h' η s σ H xs us Q I rs q
def yF:eD X (.type "list") (λxs H Q=>∃p ys,xs=[.ref p]/\(h7 X.K H p ys\/pH X.K H p ys)/\∀l,H l=none->Q (.ref l) (upd H l (.lst ys))):=by
 intro η s σ H xs us Q I r h;let(p,ys,rfl,hq,q):=h;let(u,rfl,rx):=lS r;cases rx
 let fin:∀(its:List Value),aC ys its->-ys<=sizeLine->∀(h':Heap) (c':Nat),(∀b o',s.heap.get? b=!o'->h'.get? b=!o')->
   h'.get? s.heap.objs.size=some {cls:=.type "list",dict:=none,data:=.seq its.toArray c',slots:= #[]}->EP X η σ Q (.ref s.heap.objs.size) {s with heap:=h'}:=λits r' hz h' c' kp e=>
  (.ref s.heap.objs.size,_,I.laid (t':=s.toks) kp (aaq _) (show cn X.prog X.w _ h' _ (.lst ys) from(hz,its,c',r',e)),rfl,q _ (I.aS.fresh (aaq _)))
 rcases hq with hq| hq
 .let(its,r',pl,hz):=I.list hq;let hlen:=-r';let(o,ho,hc,n,hd):=pl.isList;show call_list_seq p (.inl rfl) ho hc hd (λh' c' kp e=>fin its r' hz h' c' kp e) (by simp only[List.size_toArray] <;> omega)
 .let(its,r',pl,hz):=I.tuple hq;let hlen:=-r';let(o,ho,hc,n,hd):=pl;show call_list_seq p (.inr rfl) ho hc hd (λh' c' kp e=>fin its r' hz h' c' kp e) (by simp only[List.size_toArray] <;> omega)
def tyV(K:fI)(T:String)(x:V)(H:Hp):Prop:=match x with
 | .str _=>T="str"
 | .int _=>T="int"
 | .ref p=>(T="list"/\∃xs,h7 K H p xs)\/(T="tuple"/\∃o,K.lookup p=!o/\o.cls= .type "tuple"/\o.dict=none)\/
   (T="dict"/\((∃Κ,H p=!(.dK Κ))\/∃Κ,H p=!(.dT Κ)))\/(T="set"/\∃S n,H p=!(.set S n))
 | _=>False
def RX{H:Hp}(I:Inv X η σ H s)(r:aH x v)(ty:tyV X.K T x H):
  s.TypeIs v T/\∀a,v= .ref a->∃ob,s.heap.get? a=!ob/\ob.dict=none:=by
 cases x with
 | str z=>
  let(t,rfl):=r;cases(show T="str" from ty);show(typeIs_str s z t,λ_ e=>nomatch e)
 | int i=>
  let(t,rfl):=r;cases(show T="int" from ty);show(typeIs_int s i t,λ_ e=>nomatch e)
 | ref p=>
  cases r;rcases ty with ⟨rfl,xs,hq⟩| ⟨rfl,o,hk,hc,hd⟩| ⟨rfl,hk⟩| ⟨rfl,S,n,hk⟩
  .let(its,_,pl,_):=I.list hq;show(pl.isList.typeIs,λa e=>?_);cases e;let(o,n,e,c,hd,_):=pl;show(o,e,hd)
  .show((o,I.pU p o hk,hc),λa e=>?_);cases e;show(o,I.pU _ o hk,hd)
  .let z:∃o,s.heap.get? p=!o/\o.ExactDict:=by
    rcases hk with ⟨Κ,hk⟩| ⟨Κ,hk⟩
    .let(_,_,_,_,o,_,_,e,ex,_):=I.aS p _ hk;show(o,e,ex)
    .let(_,_,_,_,o,_,_,e,ex,_):=I.aS p _ hk;show(o,e,ex)
   let(o,e,ex):=z;show((o,e,ex.1),λa e2=>?_);cases e2;show(o,e,ex.2.1)
  .let(o,_,_,_,e,ex,_):=I.aS p _ hk;show((o,e,ex.1),λa e2=>?_);cases e2;show(o,e,ex.2.1)
 | _=>show False.elim ty
def tBM(K:fI)(T:String)(r:V->List V->Hp->VK->Prop)(to:TE)(t:TA):TE:=λσ H Q=>to σ H λx H1=>tyV K T x H1/\t σ H1 λxs H2=>r x xs H2 Q
set_option tactic.hygienic true
variable{o e:Expr}{es:List Expr}{to:TE}{t:TA}{name:Str}{apos df:Pos}{T id:String}{r:V->List V->Hp->VK->Prop}
def VJ(pa:PlainAttrs T)(slot:Slot T name id)(hty:typeOf (.builtin id)=pure (.type "method_descriptor"))(hm:MtR X id r)(ho:PE X o to)(ha:PA X (e::es) t)
  (Na:attributeBase o name X.env (eval o X.env)=eval o X.env|>1)
  (R8:((backTo df (starEach (e::es) X.env)).all (λx=> ! x.1)&&(backToKw df (keywordEach [] X.env)).all (λx=>x.1.isSome)
   &&decide (-(e::es)+-([]:List Keyword)+(if ([]:List Keyword).isEmpty then 0 else 1) < 30))=true|>1)
  (K8:(apos.endLine==df.line)=true|>1) (hs:starEach (e::es) X.env=(false, eval e X.env)::starEach es X.env|>1) (El:(backTo df (starEach es X.env)).any (·.1)=false|>1):
  PE X (.Call (.Attribute o name apos) (e::es) [] df) (tBM X.K T r to t):=by
 intro η s σ H Q I h;show wpAny_Call_method_late Na R8 K8 rfl (bG (ho η s σ H _ I h) λv s1 xz=>?_);let(x,H1,I1,r1,ty,q1):=xz;let(h1,h2):=RX I1 r1 ty;show(T,id,pa,slot,hty,h1,h2,?_);let hA:=ha df η s1 σ H1 _ I1 q1;rw[hs]at hA⊢;show Calls.callWith_builtin (by change(false|| (backTo df (starEach es X.env)).any (·.1))=false;rw[El] <;> rfl) (Calls.evalArgs_plain ?_);show bG hA λus s2 (vs,H2,I2,r2,q2)=>hm η s2 σ H2 x vs v us Q I2 r1 r2 q2
end
def MtM(X:Cx)(id:String)(r:V->List V->Hp->VK->Prop):Prop:=
 ∀(η:List (Addr×Obj)) (s:Shared) (σ:St) (H:Hp) (x:V) (xs:List V) (v:Value) (us:List Value) (Q:VK),Inv X η σ H s->aH x v->aC xs us->r x xs H Q->
  wpAny (model X.prog X.w) X.A (call (.builtin id) (v::us)) (EP X η σ Q) X.xe s
def aC.one:∀{x:V} {us:List Value},aC [x] us->∃u,us=[u]/\aH x u
 | _,_,.cons r .nil=>(_,rfl,r)
def aC.rep(h:aC xs us):∀k:Nat,aC (List.replicate k xs).flatten (List.replicate k us).flatten
 | 0=>.nil
 | k+1=>by rw[acb,acb,acu,acu];show aC.append h (aC.rep h k)
def yh(its:List Value):∀(k:Nat) (Μ:List Value),
  List.foldl (λx1 x2=>x1++x2) Μ.toArray (List.replicate k its.toArray)=(Μ++(List.replicate k its).flatten).toArray
 | 0,Μ=>by simp
 | k+1,Μ=>by
  let e:Μ.toArray++its.toArray=(Μ++its).toArray:=by simp
  let e2:(Μ++its)++(List.replicate k its).flatten=Μ++(List.replicate (k+1) its).flatten:=by rw[acb,acu,abv]
  rw[<-e2,<-yh its k (Μ++its),<-e,acb,acy]
section
variable{σ:St}{H:Hp}{l b:Addr}{xs ys zs:List V}
def Inv.abD{its':List Value}{f:Array Value->Array Value}{t':Nat}(I:Inv X η σ H s)(hH:H l=!(.lst xs))
  (e:s.heap.get? l=some {cls:=.type "list",data:=.seq its.toArray n}) (hf:f its.toArray=its'.toArray) (hv:aC ys its') (hz:-ys<=sizeLine):
  Inv X η σ (upd H l (.lst ys)) {s with heap:=s.heap.update l (Obj.mapSeq f),toks:=t'}:=by
 let q:=PySem.IsL.update e f;rw[hf]at q;show I.write (x:=l) (e:=l) (by rw[hH];show trivial) (.inl rfl) (λb' u hb hu=>(Heap.get?_update_other s.heap (Obj.mapSeq f) (Ne.symm hb)).trans hu) (_,q) ?_;show(hz,its',_,hv,q)
def Inv.R7{t':Nat}(I:Inv X η σ H s)(hv:aC ys its)(hz:-ys<=sizeLine):
  Inv X η σ (upd H s.heap.objs.size (.lst ys)) {s with heap:=s.heap.push {cls:=.type "list",data:=.seq its.toArray},toks:=t'}:=
 I.laid (λ_ _ q=>aat _ q) (aaq _) (hz,its,0,hv,abz _ rfl)
def Inv.fresh(I:Inv X η σ H s):H s.heap.objs.size=none:=I.aS.fresh (aaq _)
def Inv.NP(I:Inv X η σ H s)(hH:H l=!(.lst xs)):-xs<=sizeLine/\∃(its:List Value) (n:Nat),aC xs its/\-xs=-its/\s.heap.get? l=some {cls:=.type "list",data:=.seq its.toArray n}:=by let(z,its,n,r,e):=I.aS l _ hH;show(z,its,n,r,-r,e)
def K7(h:n<=sizeLine):Builtin.List.listTooLong n=false:=by unfold Builtin.List.listTooLong;show aa6 ()
end
section
def FD:V->List V->Hp->VK->Prop:=λx vs H Q=>∃l xs y,x= .ref l/\vs=[y]/\H l=!(.lst xs)/\-xs < sizeLine/\Q .bc (upd H l (.lst (xs++[y])))
def wZ:MtM X "list.append" FD:=by intro η s σ H x vs v us Q I rx rv h;let(l,xs,y,rfl,rfl,hH,hz,q):=h;cases rx;let(u,rfl,ru):=rv.one;let(z,its,n,r,hl,e):=I.NP hH;show call_meets F.slot_list_append (_,e,rfl) F.entry_list_append (F.args_list_append_2 _ _) (PySem.list_append l its.toArray n u (by rw[aa5];omega)) (e,?_);show(.bc,_,I.abD (its':=its++[u]) hH e (by simp) (r.append (.cons ru .nil)) ?_,rfl,q);rw[aak,List.length_singleton];omega
def Tv:R2:=λx y H Q=>∃l b xs zs,x= .ref l/\y= .ref b/\H l=!(.lst xs)/\H b=!(.lst zs)/\-xs+-zs<=sizeLine/\∀p,H p=none->Q (.ref p) (upd H p (.lst (xs++zs)))
def J1:jM X (binaryOp .Add) Tv:=by
 intro η s σ H x y v u Q I rx ry h;let(l,b,xs,zs,rfl,rfl,hH,hB,hz,q):=h;cases rx;cases ry;let(z,its,n,r,hl,e):=I.NP hH;let(z2,LK,n2,r2,HS,e2):=I.NP hB;show PySem.P.add_list e e2 ?_ (by rw[aa5,aa5];omega);let ea:its.toArray++LK.toArray=(its++LK).toArray:=by simp
 rw[ea];show(.ref _,_,I.R7 (t':=s.toks) (r.append r2) (by rw[aak];omega),rfl,q _ I.fresh)
def R9:R2:=λx y H Q=>∃l k xs,x= .ref l/\y= .int k/\H l=!(.lst xs)/\ - (2 ^ 63)<=k/\k < 2 ^ 63/\-xs * k.toNat<=sizeLine/\
 ∀p,H p=none->Q (.ref p) (upd H p (.lst (List.replicate k.toNat xs).flatten))
def PX{α:Type}(xs:List α)(k:Nat):-(List.replicate k xs).flatten=k * -xs:=by
 induction k with
 | zero=>simp
 | succ k ih=>rw[acb,acu,aak,ih,Nat.succ_mul,Nat.add_comm]
def Ly:jM X (binaryOp .Mult) R9:=by
 intro η s σ H x y v u Q I rx ry h;let(l,k,xs,rfl,rfl,hH,h1,h2,hz,q):=h;cases rx;let(t,rfl):=ry;let(z,its,n,r,hl,e):=I.NP hH;let hlen:its.toArray.size * k.toNat<=sizeLine:=by rw[aa5,<-hl];show hz
 let aaH:¬its.toArray.size * k.toNat > (2 ^ 63 - 1) / 8:=by
  have:(sizeLine:Nat)<=(2 ^ 63 - 1) / 8:=@_
  omega
 let OS:¬(! Builtin.List.listFitsIndex k)=true:=by rw[fitsIndex_both h1 h2];show aa8
 let UG:¬Builtin.List.listTooLong (its.toArray.size * k.toNat)=true:=by rw[K7 hlen];show aa8
 let abP:List.foldl (λx1 x2=>x1++x2) #[] (List.replicate (if its.toArray.isEmpty=true then 0 else k.toNat) its.toArray)=(List.replicate k.toNat its).flatten.toArray:=by
  let f0:∀m:Nat,List.foldl (λx1 x2=>x1++x2) #[] (List.replicate m its.toArray)=(List.replicate m its).flatten.toArray:=λm=>by have:=yh its m [];rw[abx]at this;show this
  rw[f0];cases its with
  | nil=>simp
  | cons a r'=>rw[if_neg (by simp)]
 show wpAny_binaryOp_repeat_ref (T:="list") (U:="int") @_ (_,e,rfl) (λs'=>typeIs_int s' k t) noFill_list_mul F.fills_int_mul F.slot_int_rmul repeat_list F.slot_int_index.lookup
  (call_meets F.slot_int_rmul (typeIs_int s k t) F.entry_int_rmul (F.args_int_rmul_2 _ _) (int___rmul___int_list k t l its.toArray n)
   (e,rfl,(_,e,rfl),call_meets F.slot_list_mul (_,e,rfl) F.entry_list_mul (F.args_list_mul_2 _ _) (AutoListH.list___mul___list_int_3 l its.toArray n k t OS aaH UG) (e,?_)))
 rw[abP];show(.ref _,_,I.R7 (t':=s.toks) (r.rep k.toNat) (by rw[PX,Nat.mul_comm];show hz),rfl,q _ I.fresh)
end
end L2
namespace Att
open PySem PySem.W PySem.Calls PyProof.Rows
def sx:∀(ns:List Int) (vs:List Value),WellAll P h vs (ns.map WData.int)->IntsAre vs ns:=by
 intro ns
 induction ns with
 | nil=>
  intro vs w;rw[adw]at w;cases w;show .nil
 | cons n ns ih=>
  intro vs w;rw[aa1]at w;cases w with
  | cons a b=>
   cases a;show .cons _ _ (ih _ b)
def Ja{l:OpenLaw}{n:Nat}(hn:l.most=!n)
  (Ow:l.row.toRowW.claim.pre args=true) (ZI:WellAll P h vals args):
  ∃a vs ns,vals=[Value.ref a]/\args=[WData.list (ns.map WData.int)]/\h.get? a=some {cls:=.type "list",data:=.seq vs.toArray}/\IntsAre vs ns/\-ns<=n:=by
 let hsh:WShape.hasAll [] args [.list .int]=true:=(pre_splitW Ow).1;let hc:l.pre.holds [] {args:=args}=true:=(pre_splitW Ow).2;let(d,r,rfl,h1,h2):=hasAllW_cons hsh;obtain rfl:=hasAllW_nil h2;let(xs,rfl,h3):=hasW_list h1;let(ns,rfl):=items_int h3;let hlen:-ns<=n:=by
  unfold OpenLaw.pre at hc;let h4:(WTm.not (.lt (.lit (.int (n:Int))) (.len (.arg 0)))).holds [] {args:=[.list (ns.map .int)]}=true:=by let h4:=(holds_andW hc).1;rw[hn]at h4;show h4
  let h5:=condW_of h4 (w_not (w_lt w_lit (w_len_list (w_arg rfl))));rw[aae]at h5;show Nat.le_of_not_lt λq=>?_;let q':(n:Int) < ((-ns:Nat):Int):=()
  first
   | (rw[aa2 q']at h5;show abe h5 @_)
   | (simp at h5;omega)
 cases ZI with
 | cons w1 w2=>
  cases w2;cases w1 with
  | list ho sC=>show(_,_,ns,rfl,rfl,ho,sx ns _ sC,hlen)
def HB(l:OpenLaw)(args:List WData):l.row.toRowW.claim.post args (.bool true) args=true:=
 postW_of (r:=l.row.toRowW) (X:=(true==true))
  (show WShape.has [] (.bool true) .bool=true by first| rfl| decide| simp[WShape.has,WShape.arms,WShape.armsAll])
  (show(WTm.eq .res (.lit (.bool true))).value [] {args:=args,res:=!(.bool true),after:=args}=!(.bool (true==true)) from w_eq_bool (w_res rfl) w_lit) rfl
def A9{l:OpenLaw}{n:Nat}{q:Program}{YP:World->Heap->Prop}{d:DefRec}
  (hn:l.most=!n) (VU:d.params.defaults=[])
  (call:∀(w:World) (s₀ s₁:Shared) (mg mb:Str->Option Value) (fa:Addr) (o:Obj) (pm cd doc:Value) (a:Addr) (vs:List Value) (ns:List Int),
   Ground q loose [] XP w s₀ mg mb s₁.heap->YP w s₁.heap->
   s₁.heap.get? fa=!o->o.data= .func (docDef d.name d.params d.body d.scope pm cd doc)->s₁.heap.CodeRec cd d.name->mg d.name=!(.ref fa)->
   s₁.heap.get? a=some {cls:=.type "list",data:=.seq vs.toArray}->IntsAre vs ns->-ns<=n->s₁.gens= #[]->
   codeAny (model l.prog w) callerA (.call (.ref fa) ([.ref a],[])) (λr s'=>r= .ok (.ret (.bool true))/\OldK s₁.heap s'.heap/\s'.os=s₁.os/\AllBare s'.gens) s₁):
  WalkO q loose XP YP l.row.toRowW d [] (λf vs=>PySem.call f vs):=by
 intro w s₀ s₁ mg mb G Y fa o pm cd doc dV kV ho hd D1 hD NW hg args vals as Ow ad3 hrd ZI hlo;obtain rfl:dV= .none:=Dflts.none hD VU;obtain rfl:kV= .none:=Dflts.noKw hD;let(a,vs,ns,rfl,rfl,So,hints,hlen):=Ja hn Ow ZI;show enter_call (codeAny_mono (call w s₀ s₁ mg mb fa o pm cd doc a vs ns G Y ho (fd_plain hd) D1 NW So hints hlen hg) λr s' hq=>?_);let(rfl,h2,h3,h4):=hq;show(.inl (.bool true,.bool true,[],rfl,λ_=>rfl,.bool true,HB l _,λ_=>(List.Pairwise.nil,λ_ hm=>(nomatch hm))),h2,h3,h4)
end Att
namespace L2
open PySem PySem.Spec PyProof.Rows
set_option tactic.hygienic false
def xG:∀{vs:List Value} {ns:List Int},IntsAre vs ns->aC (ns.map V.int) vs
 | _,_,.nil=>.nil
 | _,_,.cons n t h=>.cons (t,rfl) (xG h)
def RV(H:Hp):Prop:=∀b,H b=none\/∃o xs,H b=!(.xD o (.lst xs))
def MP{K:fI}{k:Nat}{x:Str}{s₁:Shared}{vs:List Value}
  (KX:K.In s₁.heap) (hns:s₁.heap.Ns mainGlobals mg) (hb:s₁.heap.Ns builtinsNs mb) (hbb:∀x:Str,x≠"__name__"->mb x=bootBuiltins x) (ZZ:s₁.heap.NoLimit) (hg:s₁.gens= #[])
  (ha:s₁.heap.get? a=some {cls:=.type "list",data:=.seq vs.toArray}) (hi:IntsAre vs ns) (hl:-ns<=sizeLine) (hr:bI k callerA)
  (F:∀base:Heap,K.In base->base.Ns mainGlobals mg->ao P w K mg base CX k fa fd [x] sp) (VG:∀(s:Shared) (u:Value),BindsTo s fd ([u],[]) [(x, u)])
  (QX:∀H:Hp,RV H->h7 K H a (ns.map V.int)->sp [.ref a] H (λv _=>v= .bl true) λ_ _ _=>False)
  (Y4:∀H e s',CX [] H s₁ (λ_ _ _=>False) e s'->False):
  codeAny (model P w) callerA (.call (.ref fa) ([.ref a],[])) (λr s'=>r= .ok (.ret (.bool true))/\OldK s₁.heap s'.heap/\s'.os=s₁.os/\AllBare s'.gens) s₁:=by
 let rv:=xG hi;let YC:=-hi
 let core:∀H:Hp,RV H->h7 K H a (ns.map V.int)->mB P w H s₁.heap->(∀b,H b≠none->b=a)->(H a≠none->K.lookup a=none)->
   codeAny (model P w) callerA (.call (.ref fa) ([.ref a],[])) (λr s'=>r= .ok (.ret (.bool true))/\OldK s₁.heap s'.heap/\s'.os=s₁.os/\AllBare s'.gens) s₁:=by
  intro H hO hS aS hA hK;let GA:∀{b:Addr} {o:Obj},s₁.heap.get? b=!o->H b=none->(zT s₁.heap H).get? b=!o:=λe n=>LC e n;let Xq:∀{b:Addr} {o:Obj} {es:Array DictEntry} {ep:Nat},s₁.heap.get? b=!o->o.data= .dict es ep->H b=none:=λ{b o es ep} e d=>by
   cases q:H b with
   | none=>rfl
   | some u=>
    let e':b=a:=hA b (by rw[q];simp);subst e';rw[ha]at e;cases e;let d':Data.seq vs.toArray _=Data.dict es ep:=d;cases d'
  let XQ:∀{b:Addr} {m:Str->Option Value},s₁.heap.Ns b m->(zT s₁.heap H).Ns b m:=λ{b m} (o,es,ep,e,d,r)=>(o,es,ep,GA e (Xq e d),d,r)
  let hKb:K.In (zT s₁.heap H):=λb o e=>GA (KX b o e) (by
   cases q:H b with
   | none=>rfl
   | some u=>
    let e':b=a:=hA b (by rw[q];simp);subst e'
    rw[hK (by rw[q];simp)]at e;cases e)
  let hM:Mod K mg (zT s₁.heap H):=(hKb,XQ hns,(mb,XQ hb,hbb),let (mc,h1,h2):=ZZ;(mc,XQ h1,h2));let e0:EO P w K mg (zT s₁.heap H) callerA [] s₁ H:=(rfl,hM,λb o e=>NF e,Nat.le_of_eq (Iv _ _),trivial,λb hb=>absurd (show b∈([]:List Addr) from hb) (by simp),aS,.of_eq hg);show codeAny_mono ((F _ hKb (XQ hns)).run callerA [] s₁ H ([.ref a],[]) [.ref a] [.ref a] _ _ hr e0 (VG s₁ (.ref a)) (.cons rfl .nil) (QX H hO hS)) λr s' h=>?_;cases r with
  | error e=>show(Y4 H e s' h).elim
  | ok fl=>
   cases fl with
   | next=>show False.elim h
   | brk=>show False.elim h
   | cont=>show False.elim h
   | ret u=>
    let(v,H',os,bare,un,aao,r',q):=h;let q':v= .bl true:=q;subst q';obtain rfl:u=Value.bool true:=r';show(rfl,OldK.of_keep λb o e=>?_,os,bare);cases q:H b with
    | none=>show un.keep b o e q (by intro z;show absurd (show b∈([]:List Addr) from z) (by simp)) (by simp)
    | some u=>
     rcases hO b with z| ⟨ob,xs,z⟩
     .rw[q]at z;cases z
     .let z2:=un.rA b ob _ z;let(e1,_):=aS b _ z;let(e2,_):=aao b _ z2;rw[e]at e1;cases e1;show e2
 cases hk:K.lookup a with
 | some o=>
  let e:=KX a o hk;rw[ha]at e;cases e;show core (λ_=>none) (λ_=>.inl rfl) (.inr (_,vs.toArray,_,hk,rfl,rfl,rfl,by rw[List.size_toArray,YC];show hl,by simpa using rv)) (λb u z=>by let z':(none:Option HO)=!u:=z;cases z') (λb z=>absurd rfl z) λz=>absurd rfl z
 | none=>
  show core (λb=>if b=a then !(.xD {cls:=.type "list",data:=.seq vs.toArray} (.lst (ns.map V.int))) else none) (λb=>?_) (.inl (.inr ({cls:=.type "list",data:=.seq vs.toArray},aa0 rfl))) (λb u z=>?_) (λb z=>?_) λ_=>hk
  .by_cases hb:b=a
   .show .inr (_,_,aa0 hb)
   .show .inl (aa3 hb)
  .by_cases hb:b=a
   .let z':=(aa0 hb).symm.trans z;cases z';subst hb;show(ha,by rw[aae];show hl,vs,_,rv,ha)
   .let z':=(aa3 hb).symm.trans z;cases z'
  .by_cases hb:b=a
   .show hb
   .show abe (aa3 hb) z
def Av{l:PySem.W.OpenLaw}{n k:Nat}{q:Program}{YP:World->Heap->Prop}{d:DefRec}{K:Params->fI}{CX:World->BR}{sp:World->Sp}{x:Str}
  (hn:l.most=!n) (Ut:n<=sizeLine) (VU:d.params.defaults=[]) (hr:bI k callerA)
  (hY:∀(w:World) (h:Heap),YP w h->(K w.params).In h)
  (F:∀(w:World) (mg:Str->Option Value) (fa:Addr) (h:Heap),(K w.params).In h->h.Ns mainGlobals mg->mg d.name=!(.ref fa)->
   ∃fd:FuncData,(∀(s:Shared) (u:Value),BindsTo s fd ([u],[]) [(x, u)])/\
    ∀base:Heap,(K w.params).In base->base.Ns mainGlobals mg->ao l.prog w (K w.params) mg base (CX w) k fa fd [x] (sp w))
  (QX:∀(w:World) (H:Hp) (a:Addr) (ns:List Int),-ns<=n->RV H->h7 (K w.params) H a (ns.map V.int)->sp w [.ref a] H (λv _=>v= .bl true) λ_ _ _=>False)
  (Y4:∀(w:World) (H:Hp) (s:Shared) (e:Value) (s':Shared),CX w [] H s (λ_ _ _=>False) e s'->False):
  PySem.W.WalkO q loose XP YP l.row.toRowW d [] (λf vs=>PySem.call f vs):=by
 show Att.A9 hn VU λw s₀ s₁ mg mb fa o pm cd doc a vs ns G Y ho hd D1 NW So hints hlen hg=>?_;let KX:=hY w _ Y;let(fd,hb,hF):=F w mg fa _ KX G.T.g NW;show MP KX G.T.g G.T.b G.T.builtins G.T.nolimit hg So hints (aaF hlen Ut) hr hF hb (λH hO hS=>QX w H a ns hlen hO hS) λH e s'=>Y4 w H s₁ e s'
end L2
/- THE ZC NN (shape;LID, My.* are VQ):
  My.Adr:a structure of Pk addresses aa7 abn WD names (classes, Hf);My.Txt K t:a structure (Prop) of Pk equations sH K;
  My.Dk:{K} {implicit addresses ..} (e1:nsIn K mainGlobals "law"=!(!(.ref f))) (e2:K.lookup f=!(oc,od,.func (fnOf "law" "law" params body scope dV kV doc pm an aQ ct),sl)) (e3:codeIn K aQ "law"=true) .. :∃t,My.Txt K t
set_option maxRecDepth 100000 in
set_option maxHeartbeats 0 in
def PySem.Challenge.cw_LID_holds : PySem.Challenge.rw_LID.Holds := by
 w_on;o_law;k_head;(case hw=>w_witness2)
 k_fill
 show L2.Av (l:=PySem.Challenge.rw_LID) (n:=63) (k:=40) (x:="script") (CX:=fun w=>..) (sp:=fun _=>My.TC) rfl @_ rfl (rfl,@_,@_) (fun w h Y=>PySem.W.kIn_of Y) ?F ?S ?C
 case F=>
  intro w mg fa h KX G NW;let T:∃t,My.Txt (L2.ZA KX) t:=by
   dsimp only[L2.ZA]
   refine' My.Dk ?e1 ?e2 ?e3 ..
   (case e1=>PySem.W.k_is)
   (case e2=>PySem.W.k_is)
   ..
  let(t,T):=T;let e0:=NW.symm.trans (PySem.W.mg_of KX G T.law);cases e0;show(_,λs u=>.of_eq rfl,λbase kb nb=>My.EY T kb nb)
 case S=>exactλw H a ns hl hO hS=>..
 case C=>show ..
(Pk tactic k_is has no namespace:write k_is) -/
namespace L2
open PySem PySem.Spec PyProof.Rows
variable{P:Program}{w:World}{mg:Str->Option Value}{base:Heap}{qual:Str}{st:Stmt}{f x:Addr}{fd:FuncData}{ps N xs ys:List Str}{A:Around}{s:Shared}{env:Env}{outer:List Env}{X:Cx}{η:List (Addr×Obj)}{scope:Scope}{ag:List Nat}
noncomputable def gs(s:Stmt):Arguments:=match s with
 | .FunctionDef _ a _ _ _ _ _ _ _ _=>a
 | _=>{posonlyargs:=[],args:=[],vararg:=none,kwonlyargs:=[],kw_defaults:=[],kwarg:=none,defaults:=[]}
def dY(s:Stmt):List Stmt:=match s with
 | .FunctionDef _ _ b _ _ _ _ _ _ _=>b
 | _=>[]
noncomputable def τ(s:Stmt):Scope:=match s with
 | .FunctionDef _ _ _ _ _ _ sc _ _ _=>sc
 | _=>{kind:=.function,names:=[],isGenerator:=false,isCoroutine:=false}
abbrev XH:BR:=λ_ _ _ _ _ _=>False
abbrev E0:XK:=λ_ _ _=>False
structure cz(K:fI)(x qual:Str)(st:Stmt)(f:Addr)(fd:FuncData):Prop where
 ex:∃(oc:Value) (od:Option Addr) (kV doc pm:Value) (an:Option Addr) (aQ ct:Value) (B4:Array (Option Value)),
  fd=PySem.W.fnOf x qual (gs st) (dY st) (τ st) .none kV doc pm an aQ ct/\K.lookup f=!(oc,od,.func fd,B4)/\PySem.W.codeIn K aQ qual=true
 kp:PySem.W.keepIn K (.ref f)=true
section
variable{K:fI}
def cz.binds{x:Str}(F:cz K x qual st f fd)
  (h:∀(kV doc pm:Value) (an:Option Addr) (aQ ct:Value) (us:List Value),-us=-ps->bindArgs (PySem.W.fnOf x qual (gs st) (dY st) (τ st) .none kV doc pm an aQ ct) (us,[])=pure (ps.zip us)):i5 K fd ps []:=by
 let(oc,od,kV,doc,pm,an,aQ,ct,B4,rfl,lk,D1):=F.ex;show .all (h kV doc pm an aQ ct)
def LV{x:Str}{oc:Value}{od:Option Addr}{B4:Array (Option Value)}{kV:Value}(l:K.lookup f=!(oc,od,.func (PySem.W.fnOf x qual (gs st) (dY st) (τ st) .none kV doc pm an aQ ct),B4))
  (c:PySem.W.codeIn K aQ qual=true) (k:PySem.W.keepIn K (.ref f)=true):cz K x qual st f (PySem.W.fnOf x qual (gs st) (dY st) (τ st) .none kV doc pm an aQ ct):=((oc,od,kV,doc,pm,an,aQ,ct,B4,rfl,l,c),k)
end
def Gu{k:Nat}(hr:bI k A):A.units+1 < cLine:=abE (Nat.add_le_add_left (by decide:1<=64) _) hr.units
def HR{A B:Prop}(h:B):if false=true then A else B:=by rw[aa3 aa8];show h
def Hr{A B:Prop}(h:A):if true=true then A else B:=by rw[aa0 rfl];show h
def eU(H H':Hp):Prop:=∀b o,H b=!o->H' b=!o
def eU.refl(H:Hp):eU H H:=λ_ _ h=>h
def eU.trans{H:Hp}(a:eU H H1)(b:eU H1 H2):eU H H2:=λc o h=>b c o (a c o h)
def eU.free{H:Hp}(e:eU H H')(h:H' l=Option.none):H l=Option.none:=by
 cases q:H l with
 | none=>rfl
 | some o=>
  rw[e l o q]at h;cases h
def eU.seq{K:fI}{H:Hp}{xs:List V}(e:eU H H')(h:h7 K H a xs):h7 K H' a xs:=by
 rcases h with (h| ⟨o,h⟩)| h
 .show .inl (.inl (e _ _ h))
 .show .inl (.inr (o,e _ _ h))
 .show .inr h
section
def Pz(B:Heap)(l:List Env)(x:Addr)(o:Obj)(fl:Value)(h:Heap):Prop:=
 B.StaysIn h/\B.get? x=none/\h.FunFrames B l/\∃(vs:Array Value) (T:Addr) (oT:Obj) (ts:Array Value),h.get? x=some {o with data:=.fields vs}/\vs[2]? =some .none/\vs[1]? =!(.ref T)/\
  B.get? T=none/\T≠x/\h.get? T=!oT/\oT.data= .fields ts/\ts[3]? =!fl
section
variable{M:Model}{E:Value->Shared->Prop}{B:Heap}{l:List Env}{L:Addr}{o:Obj}{vs:Array Value}{Q:Unit->Shared->Prop}
set_option tactic.hygienic false
def tK{h h':Heap}{oT:Obj}(hT:h.get? T=!oT)(hd:oT.data= .fields ts)(k:∀b,b≠T->h'.get? b=h.get? b):h.UpToSlots h':=λb ob e hn=>
 (ob.slots,(k b λz=>by rw[z,hT]at e;cases e;show hn _ hd).trans e)
def xP{h:Heap}(hl:h.FunFrames B l)(u:h.UpToSlots h'):h'.FunFrames B l:=hl.of_keeps λb ob e hn=>by let(sl,q):=u b ob e hn;show(_,q,rfl)
def LD{head:Value}(hfr:A.frames=!(env::outer))(hf:env.frame=!L)(hB:B.StaysIn s.heap)(hn:B.get? x=none)(hl:s.heap.FunFrames B (env::outer))(hx:s.heap.get? x=some {o with data:=.fields vs})(h1:1 < vs.size)(h2:vs[2]? =some .none)
  (h:∀h',Pz B (env::outer) x o (rawInt L) h'->s.heap.UpToSlots h'->Q Unit.unit {s with heap:=h'}):
  wpAny M A (do let  a<-frameOf env;let  pl<-entryPlaceOf L Yc;let  n<-EntryCells.newEntry head a .none (rawInt L) .none pl;setField (.ref x) 1 n) Q E s:=by
 show aaw (wpAny_frameOf_fun hfr hl hf λg1 S1=>aaw (wpAny_entryPlaceOf λpl f_=>?_));let nx:x∉(env::outer).filterMap (·.frame):=λz=>by let(_,ob,e,d):=hl.mem z;rw[hx]at e;cases e;show d _ rfl
 let hx1:g1.get? x=some {o with data:=.fields vs}:=(S1.2.1 x nx).trans hx;unfold EntryCells.newEntry newFields;show aaw (wpAny_newObj_type ?_ (f_.sizeOk5 _ _ _ _ _));let hx2:=aat (h:=g1) {cls:=.type "traceback",dict:=none,data:=.fields ([head,.ref L,.none,rawInt L,.none]++(if pl.isEmpty then List.replicate 6 Value.none else pl)).toArray} hx1;show wpAny_setField hx2 rfl h1 (h _ ?_ ?_)
 .let up1:∀b ob,b≠x->g1.get? b=!ob->((g1.push {cls:=.type "traceback",dict:=none,data:=.fields ([head,.ref L,.none,rawInt L,.none]++(if pl.isEmpty then List.replicate 6 Value.none else pl)).toArray}).update x (Obj.mapFields (·.setIfInBounds 1 (Value.ref g1.objs.size)))).get? b=!ob:=λb ob nb e=>
   (Heap.get?_update_other _ _ (Ne.symm nb)).trans (aat _ e)
  let neT:g1.objs.size≠x:=adu (aaV hx1)
  show(λb ob e=>up1 b ob (λz=>by rw[z,hn]at e;cases e) ((S1.2.1 b λz=>by rw[(hl.mem z).1]at e;cases e).trans (hB b ob e)),hn,hl.of_keeps λb ob e d=>?_,vs.setIfInBounds 1 (.ref g1.objs.size),g1.objs.size,_,_,Heap.get?_update_self _ hx2 rfl,by rw[Array.getElem?_setIfInBounds_ne @_];show h2,by simp[h1],?_,neT,
   (Heap.get?_update_other _ _ (Ne.symm neT)).trans (abz g1 rfl),rfl,?_)
  .let(sl,q):=S1.2.2 b ob e;show(_,up1 b _ (λz=>by rw[z,hx]at e;cases e;show d _ rfl) q,rfl)
  .cases q:B.get? g1.objs.size with
   | none=>rfl
   | some ob=>
    have:=aaV (hB _ _ q);rw[<-S1.1]at this;show abe this (acn _)
  .first
    | (simp;done)
    | (rcases f_ with rfl| ⟨_,_,_,_,_,_,_,rfl⟩ <;> simp)
 .intro b ob e d;let(sl,q):=S1.2.2 b ob e;show(sl,?_);rw[Heap.get?_update_other _ _ (λz:x=b=>by rw[<-z,hx]at e;cases e;show d _ rfl)];show aat _ q
def W2(hfr:A.frames=!(env::outer))(hf:env.frame=!L)(R:Pz B (env::outer) x o .none s.heap)
  (h:∀h',Pz B (env::outer) x o (rawInt L) h'->s.heap.UpToSlots h'->Q Unit.unit {s with heap:=h'}):wpAny M A (noteFrame (.ref x) env) Q E s:=by
 let(hB,hn,hl,vs,T,oT,ts,hx,h2,h1,nT,X_,hT,dT,h3):=R;unfold noteFrame;simp only[hf];show aaw (wpAny_field hx rfl h1 ?_);rw[if_pos (show(Value.ref T != Value.none)=true by simp)];show aaw (wpAny_field hT dT h3 ?_);rw[if_neg (show¬((Value.none==rawInt L)=true) by simp[rawInt])];show aaw (wpAny_setField hT dT (ac3.mp h3).1 ?_);let Ia:∀b,b≠T->(s.heap.update T (Obj.mapFields (·.setIfInBounds 3 Value.none))).get? b=s.heap.get? b:=λb nb=>Heap.get?_update_other _ _ (Ne.symm nb);let u:=tK hT dT Ia;show LD hfr hf (λb ob e=>(Ia b λz=>by rw[z,nT]at e;cases e).trans (hB b ob e)) hn (xP hl u) ((Ia x (Ne.symm X_)).trans hx) (ac3.mp h1).1 h2 λh' F' u'=>h h' F' (u.trans u')
def OI(R:Pz B l x o fl s.heap)(h:∀h',Pz B l x o .none h'->s.heap.UpToSlots h'->Q Unit.unit {s with heap:=h'}):wpAny M A (setFlight (.ref x) none) Q E s:=by let(hB,hn,hl,vs,T,oT,ts,hx,h2,h1,nT,X_,hT,dT,h3):=R;unfold setFlight;show aaw (wpAny_field hx rfl h1 ?_);rw[if_pos (show(Value.ref T != Value.none)=true by simp)];let z3:=(ac3.mp h3).1;let Ia:∀b,b≠T->(s.heap.update T (Obj.mapFields (·.setIfInBounds 3 ((none:Option Addr).elim Value.none λf=>rawInt f)))).get? b=s.heap.get? b:=λb nb=>Heap.get?_update_other _ _ (Ne.symm nb);let u:=tK hT dT Ia;show wpAny_setField hT dT z3 (h _ (λb ob e=>(Ia b λz=>by rw[z,nT]at e;cases e).trans (hB b ob e),hn,xP hl u,vs,T,_,_,(Ia x (Ne.symm X_)).trans hx,h2,h1,nT,X_,Heap.get?_update_self _ hT (Obj.isFreed_of_fields (Obj.data_mapFields dT _)),Obj.data_mapFields dT _,by simp[z3]) u)
def TF(R:Pz B (env::outer) x o fl h):Pz B outer x o fl h:=by let(hB,hn,(_,_,hl),r):=R;show(hB,hn,hl,r)
end
structure X'(P:Program)(w:World)(l:List Env)(H H':Hp)(h h' B:Heap)(x:Addr)(o:Obj):Prop where
 un:Un (sG l) [] H H' h h'
 ok:mB P w H' B
 U4:Pz B l x o .none h'
 C5:∀b u,h.get? b=!u->H b=none->b∉sG l->B.get? b=!u
 VY:∀b u,h.get? b=!u->b∉sG l->∃u',B.get? b=!u'
variable{l:List Env}{H H':Hp}{h h' XM B:Heap}{o:Obj}
end
def bO(P:Program)(w:World):BR:=λouter H s E e s'=>
 ∃x o H' B,e= .ref x/\s'.os=s.os/\AllBare s'.gens/\X' P w outer H H' s.heap s'.heap B x o/\E o.cls o.dict H'
section
variable{σ:St}{H H':Hp}{XM B:Heap}{ox:Obj}
def X'.leave(I:Inv X η σ H s)(hex:X.ex=[])(OJ:∀b∈sG X.outer,b∈sG X.stack)(ok:mB X.prog X.w H' B)(f:Pz B X.outer x ox .none XM)(nx0:X.s₀.heap.get? x=none)
  (C5:∀b o,b≠x->s.heap.get? b=!o->H b=none->b∉sG X.stack->B.get? b=!o)
  (VY:∀b o,b≠x->s.heap.get? b=!o->b∉sG X.stack->∃o',B.get? b=!o')
  (sl:∀b o,s.heap.get? b=!o->b∈sG X.stack->∃sl,XM.get? b=some {o with slots:=sl})
  (free:∀b o,s.heap.get? b=!o->H b=none->H' b=none)
  (sj:∀b xs,H b=!(.tup xs)->H' b=!(.tup xs)) (rA:∀b o u,H b=!(.xD o u)->H' b=!(.xD o u))
  (sD:∀b ps,H b=!(.NQ ps)->∃more,H' b=!(.NQ (ps++more))):X' X.prog X.w X.outer X.H₀ H' X.s₀.heap XM B x ox:=by
 let nX:∀b o,X.s₀.heap.get? b=!o->b≠x:=λb o e z=>by rw[z,nx0]at e;cases e
 let mD:∀b:Addr,b∉X.ex:=λb z=>by rw[hex]at z;cases z
 let nS:∀b o,X.s₀.heap.get? b=!o->b∉sG X.outer->b∉sG X.stack:=λb o e hb z=>
  (abg.mp (I.yB b z)).elim (λq=>abF (aaW (aaV e) I.ok.above) q) hb
 show((λb o e n hb _=>?_,λb o e n hb _=>?_,λb o e n _=>?_,λb o e _=>?_,λb xs e=>sj b xs (I.base.sj b xs e),λb o u e=>rA b o u (I.base.rA b o u e),λb ps e=>?_),ok,f,λb o e n hb=>?_,λb o e hb=>?_)
 .show f.1 b o (C5 b o (nX b o e) (I.base.keep b o e n hb (mD b)) (I.base.free b o e n (mD b)) (nS b o e hb))
 .let(s1,e1):=I.base.slot b o e n hb (mD b);let(s2,e2):=sl b _ e1 (OJ b hb);show(s2,e2)
 .let(o',e1):=I.base.there b o e (mD b);show free b o' e1 (I.base.free b o e n (mD b))
 .let(o',e1):=I.base.there b o e (mD b);by_cases hb:b∈sG X.stack
  .let(s2,e2):=sl b _ e1 hb;show(_,e2)
  .let(o2,q):=VY b o' (nX b o e) e1 hb;show(o2,f.1 _ _ q)
 .let(m1,e1):=I.base.sD b ps e;let(m2,e2):=sD b _ e1;show(m1++m2,by rw[e2,Array.append_assoc])
 .show C5 b o (nX b o e) (I.base.keep b o e n hb (mD b)) (I.base.free b o e n (mD b)) (nS b o e hb)
 .let(o',e1):=I.base.there b o e (mD b);show VY b o' (nX b o e) e1 (nS b o e hb)
end
def cM(CX:BR)(X:Cx)(R:St->XK):Prop:=∀(η:List (Addr×Obj)) (σ:St) (H:Hp) (s:Shared) (e:Value) (s':Shared),Inv X η σ H s->CX X.stack H s (R σ) e s'->X.xe e s'
section
variable{K:fI}{cd:Value}{s₀:Shared}{H₀:Hp}{E:XK}
def OL:∀b∈sG outer,b∈sG (env::outer):=λb hb=>by let(en,he,hf):=adk.mp hb;show adk.mpr (en,aaf _ he,hf)
def ν:cM (bO P w) (v9 (bO P w) P w K mg base N qual scope f cd A outer s₀ H₀ E) (λ_=>E):=by
 intro η σ H s e s' I hx;let(x,o,H',B,rfl,os,bare,F,hE):=hx;change wpAny _ _ (do noteFrame (.ref x) _;setFlight (.ref x) none) _ _ s';show aaw (W2 (B:=B) I.ok.frames rfl F.U4 λh4 f4 u4=>OI f4 λh5 f5 u5=>?_);show(x,o,H',B,rfl,os.trans I.os,bare,X'.leave I rfl OL F.ok (TF f5) ?_ (λb o _=>F.C5 b o) (λb o _=>F.VY b o) (λb o q hb=>?_) (λb o q n=>F.un.free b o q n (by simp)) F.un.sj F.un.rA F.un.sD,hE)
 .change s₀.heap.get? x=none;cases q:s₀.heap.get? x with
  | none=>rfl
  | some u=>
   let(u',e1):=I.base.there x u q nofun;by_cases hb:x∈sG (v9 (bO P w) P w K mg base N qual scope f cd A outer s₀ H₀ E).stack
   .let(vs,_,_,_,hxx,_):=F.U4.2.2.2;let(_,o',Hl,hd):=F.U4.2.2.1.mem hb;rw[hxx]at Hl;cases Hl;show abe rfl (hd _)
   .let(u2,e2):=F.VY x u' e1 hb;rw[F.U4.2.1]at e2;cases e2
 .let(sl,e1):=F.un.slot b o q (I.yJ b hb) hb (by simp);let(_,o',Hl,hd):=F.U4.2.2.1.mem hb;rw[e1]at Hl;cases Hl;let(Yi,e2):=(u4.trans u5) b _ e1 hd;show(Yi,e2)
end
def S8(sp:Sp)(pT:List V)(R:St->XK)(t:TA):TE:=λσ H Q=>t σ H λvs H1=>sp (vs++pT) H1 Q (R σ)
section
variable{CX:BR}{k:Nat}{sp:Sp}{pT:List V}{ds:List Value}{R:St->XK}{x:Str}{p pos:Pos}{e:Expr}{es:List Expr}{t:TA}
def yu{H:Hp}(F:ao X.prog X.w X.K X.mg X.base CX k f fd ps sp)(hr:bI k X.A)(hb:i5 X.K fd ps ds)(hd:aC pT ds)(hx:cM CX X R)
  (I:Inv X η σ H s) (r:aC vs us) (h:sp (vs++pT) H Q (R σ)):wpAny (model X.prog X.w) X.A (call (.ref f) us) (EP X η σ Q) X.xe s:=by
 let r2:aC (vs++pT) (us++ds):=r.append hd;let hl:-(us++ds)=-ps:=by rw[<--r2];show F.len _ _ _ _ h
 show wpAny_call (codeAny_mono (F.run X.A X.stack s H (us,[]) (us++ds) (vs++pT) Q (R σ) hr I.TY (hb s us I.pU hl) r2 h) λr s' hq=>?_);cases r with
 | error e=>show hx η σ H s e s' I hq
 | ok fl=>
  cases fl with
  | ret u=>show I.after hq
  | next=>show False.elim hq
  | brk=>show False.elim hq
  | cont=>show False.elim hq
def CO(F:ao X.prog X.w X.K X.mg X.base CX k f fd ps sp)(hr:bI k X.A)(hg:Gl X x)(hm:X.mg x=!(.ref f))(hk:PySem.W.keepIn X.K (.ref f)=true)(hb:i5 X.K fd ps ds)(hd:aC pT ds)(hx:cM CX X R)
  (ha:PA X (e::es) t) (mw:(x==("__debug__":Str))=false|>2) (he:starEach (e::es) X.env=(false, eval e X.env)::starEach es X.env|>1) (f_:(backTo pos (starEach es X.env)).any (·.1)=false|>1):
  PE X (.Call (.Name x p) (e::es) [] pos) (S8 sp pT R t):=by
 intro η s σ H Q I h;show wpAny_Call_Name_kw (oX I hg hm ?_ mw);show PySem.W.callWith_K (h₀:=X.base) I.ok.mod.T' hk (bG (ha pos η s σ H _ I h) fun us s1 (vs,H1,I1,r,q)=>(I1.pU,?_)) he f_;show yu F hr hb hd hx I1 r q
end
noncomputable def mT(env:Env):List (Str×NameKind)->List (Str×Addr)->List (Str×Addr)
 | [],Μ=>Μ
 | p::r,Μ=>mT env r (if p.2== .free then (p.1, (env.cells.lookup p.1).getD 0)::Μ else Μ)
def uU(h:∀p∈scope.names,p.2= .free->(env.cells.lookup p.1).isSome=true):closureFor scope env=pure (mT env scope.names []):=by
 let key:∀(l:List (Str×NameKind)) (Μ:List (Str×Addr)),(∀p∈l,p.2= .free->(env.cells.lookup p.1).isSome=true)->
   (forIn l Μ (λ(p:Str×NameKind) (r:List (Str×Addr))=>(if p.2== .free then (do let  c<-cellOf env p.1;pure (ForInStep.yield ((p.1, c)::r))) else pure (ForInStep.yield r):Sem (ForInStep (List (Str×Addr))))))=(pure (mT env l Μ):Sem (List (Str×Addr))):=by
  intro l
  induction l with
  | nil=>intro Μ _;rfl
  | cons p r ih=>
   intro Μ hp;rw[List.forIn_cons];let ih':=λa=>ih a λq hq=>hp q (aaf _ hq);let(n,k):=p;by_cases hk:k= .free
   .subst hk;let hs:=hp (n, .free) aah rfl;cases hl:env.cells.lookup n with
    | none=>rw[show env.cells.lookup (n, NameKind.free).1=none from hl]at hs;cases hs
    | some c=>
     let e1:mT env ((n, .free)::r) Μ=mT env r ((n, c)::Μ):=by change mT env r (if (NameKind.free==NameKind.free)=true then (n, (env.cells.lookup n).getD 0)::Μ else Μ)=_;rw[aa0 @_,hl];rfl
     let e2:cellOf env n=pure c:=by unfold cellOf;rw[hl]
     rw[e1];let e3:(NameKind.free==NameKind.free)=true:=@_
     simp only[e3,if_true,e2,pure_bind];show ih' _
   .let hb:(k==NameKind.free)=false:=by simpa using hk
    let e1:mT env ((n, k)::r) Μ=mT env r Μ:=by change mT env r (if (k==NameKind.free)=true then (n, (env.cells.lookup n).getD 0)::Μ else Μ)=_;rw[hb,aa3 @_]
    rw[e1];simp only[hb,Bool.false_eq_true,if_false,pure_bind];show ih' _
 have:=key scope.names [] h;unfold closureFor
 first
  | show this
  | (simp only[bind_pure];show this)
  | (rw[bind_pure];show this)
def xg{env:Env}{c:Addr}:∀(l:List (Str×NameKind)) (Μ:List (Str×Addr)),(∀p∈l,p.2= .free->(env.cells.lookup p.1).isSome=true)->
  (Μ.lookup y=!c->env.cells.lookup y=!c)->(mT env l Μ).lookup y=!c->env.cells.lookup y=!c
 | [],Μ,_,ha,h=>ha h
 | (n, k)::r,Μ,hp,ha,h=>by
  show xg r _ (λq hq=>hp q (aaf _ hq)) (λe=>?_) h;split at e
  .rename_i hk;rw[acg]at e;cases q:(y==n) with
   | true=>
    rw[q]at e;let e':(env.cells.lookup n).getD 0=c:=aaC e;let hn:y=n:=by simpa using q
    subst hn;let hs:=hp (y, k) List.mem_cons_self (by simpa using hk);cases z:env.cells.lookup y with
    | none=>rw[show env.cells.lookup (y, k).1=none from z]at hs;cases hs
    | some d=>rw[z]at e';rw[<-e'];rfl
   | false=>rw[q]at e;show ha e
  .show ha e
def vB{env:Env}{y:Str}:∀(l:List (Str×NameKind)) (Μ:List (Str×Addr)),((y, NameKind.free)∈l\/(Μ.lookup y).isSome=true)->((mT env l Μ).lookup y).isSome=true
 | [],Μ,h=>by
  rcases h with h| h
  .cases h
  .show h
 | (n, k)::r,Μ,h=>by
  show vB r _ ?_;by_cases hy:y=n
  .subst hy;by_cases hk:k= .free
   .subst hk;right;change(List.lookup y (if (NameKind.free==NameKind.free)=true then (y, (env.cells.lookup y).getD 0)::Μ else Μ)).isSome=true;rw[aa0 @_,acg,beq_self_eq_true];rfl
   .rcases h with h| h
    .rcases abg.mp h with z| z
     .show abe (Prod.mk.inj z).2.symm hk
     .show .inl z
    .right;rw[if_neg (by simpa using hk)];show h
  .rcases h with h| h
   .rcases abg.mp h with z| z
    .show abe (Prod.mk.inj z).1 hy
    .show .inl z
   .right;split
    .rw[List.lookup_cons,show(y==n)=false by simpa using hy];show h
    .show h
set_option tactic.hygienic false
noncomputable def Cx.comp(X:Cx)(Nc:List Str)(scope:Scope)(C:Addr)(s:Shared)(H:Hp)(fp:List Addr):Cx:={X with
 N:=Nc
 s₀:=s
 H₀:=H
 env:=compEnvC scope (mT X.env scope.names []) C X.env
 outer:=X.stack
 ex:=fp
 fn:=λ_=>false
 pn:=[]
 xe:=λ_ _=>False}
noncomputable def Δ.of{P:List Str}{sc:Scope}(h:(sc.kind, sc.isCoroutine,sc.isGenerator)=(.function, false,false))(h2:N.Nodup/\N.take (-P)=P/\(∀x∈P,sc.names.lookup x=some .local\/sc.names.lookup x=some .cell)/\(∀y∈sc.names,y.2≠ .free):=by decide+kernel):Δ N P sc:=by let(a,b,c,d):=h2;show(abq (·.1) h,abq (·.2.1) h,abq (·.2.2) h,a,b,c,d)
structure aJ(X:Cx)(scope:Scope)(xs ys:List Str)(ag:List Nat):Prop where
 kind:scope.kind= .function
 MM:∀p∈scope.names,p.2≠ .cell
 names:∀p∈scope.names,p.2= .local->scope.names.lookup p.1=some .local
 own:∀x∈xs,scope.names.lookup x=some .local
 free:∀p∈scope.names,p.2= .free->X.env.scope.names.lookup p.1=some .cell
 nd:(xs++ys).Nodup
 cap:∀q∈ys.zip ag,X.N[q.2]? =!q.1/\X.env.scope.names.lookup q.1=some .cell/\scope.names.lookup q.1=some .free
 len:-ys=-ag
noncomputable def aJ.of(_:Δ N ps sc)(hN:X.N=N)(hs:X.env.scope=sc)(k:scope.kind= .function)(h:(∀p∈scope.names,p.2≠ .cell)/\(∀p∈scope.names,p.2= .local->scope.names.lookup p.1=some .local)/\(∀x∈xs,scope.names.lookup x=some .local)/\(∀p∈scope.names,p.2= .free->sc.names.lookup p.1=some .cell)/\(xs++ys).Nodup/\(∀q∈ys.zip ag,N[q.2]? =!q.1/\sc.names.lookup q.1=some .cell/\scope.names.lookup q.1=some .free)/\-ys=-ag:=by decide+kernel):aJ X scope xs ys ag:=by subst hN hs;let(a,b,c,d,e,f,g):=h;show(k,a,b,c,d,e,f,g)
def KQ{env:Env}{y:Str}:∀{l:List (Str×NameKind)},(∀p∈l,p.2≠ .cell)->
  ((l.map fun (n, k)=>if (k==NameKind.free&&env.scope.kind== .function&&env.kindOf n==some .cell) then (n, NameKind.cell) else (n, k)).lookup y=some .cell\/
   (l.map fun (n, k)=>if (k==NameKind.free&&env.scope.kind== .function&&env.kindOf n==some .cell) then (n, NameKind.cell) else (n, k)).lookup y=some .free)->(y, NameKind.free)∈l
 | [],_,h=>by rcases h with h| h <;> cases h
 | (n, k)::r,hc,h=>by
  let ih:=@KQ env y r (λp hp=>hc p (aaf _ hp));rw[aa1]at h;by_cases q:(k==NameKind.free&&env.scope.kind== .function&&env.kindOf n==some .cell)=true
  .let hk:k= .free:=by rw[aaQ,aaQ]at q;simpa using q.1.1
   subst hk;by_cases hy:y=n
   .subst hy;show aah
   .show aaf _ (ih ?_);let hb:(y==n)=false:=by simpa using hy
    simp only[q,if_true,List.lookup_cons,hb]at h;show h
  .by_cases hy:y=n
   .subst hy;let hb:(y==y)=true:=by simp
    simp only[q,Bool.false_eq_true,if_false,List.lookup_cons,hb]at h;rcases h with h| h
    .show abe (aaC h) (hc (y, k) aah)
    .rw[<-aaC h];show aah
   .show aaf _ (ih ?_);let hb:(y==n)=false:=by simpa using hy
    simp only[q,Bool.false_eq_true,if_false,List.lookup_cons,hb]at h;show h
def Br{env:Env}{y:Str}(hk:env.scope.kind= .function)(hy:env.kindOf y=some .cell):∀{l:List (Str×NameKind)},l.lookup y=some .free->
  (l.map fun (n, k)=>if (k==NameKind.free&&env.scope.kind== .function&&env.kindOf n==some .cell) then (n, NameKind.cell) else (n, k)).lookup y=some .cell
 | [],h=>by cases h
 | (n, k)::r,h=>by
  let ih:=@Br env y hk hy r;rw[aa1];rw[acg]at h;by_cases e:y=n
  .subst e;let hb:(y==y)=true:=by simp
   rw[hb]at h;have:k= .free:=aaC h;subst this;let q:(NameKind.free==NameKind.free&&env.scope.kind== .function&&env.kindOf y==some .cell)=true:=by rw[hk,hy];rfl
   simp only[q,if_true,List.lookup_cons,hb]
  .let hb:(y==n)=false:=by simpa using e
   rw[hb]at h;by_cases q:(k==NameKind.free&&env.scope.kind== .function&&env.kindOf n==some .cell)=true
   .simp only[q,if_true,List.lookup_cons,hb];show ih h
   .simp only[q,Bool.false_eq_true,if_false,List.lookup_cons,hb];show ih h
def aJ.has(S:aJ X scope xs ys ag)(ok:X.Ok):∀p∈scope.names,p.2= .free->(X.env.cells.lookup p.1).isSome=true:=λp hp hf=>by let(c,e):=ok.has p.1 (.inl (S.free p hp hf));rw[e];rfl
def Kj{α β:Type}:∀{xs:List α} {ys:List β} {j:Nat} {x:α} {y:β},xs[j]? =!x->ys[j]? =!y->(x, y)∈xs.zip ys
 | x::xs,y::ys,0,_,_,h1,h2=>by cases h1;cases h2;show aah
 | x::xs,y::ys,j+1,_,_,h1,h2=>aaf _ (Kj (xs:=xs) (ys:=ys) (j:=j) h1 h2)
 | [],_,_,_,_,h1,_=>by simp at h1
 | _::_,[],_,_,_,_,h2=>by simp at h2
def q5(ag:List Nat)(σ:St):St:=ag.map λi=>(σ[i]?).join
def yi(n:Nat)(gg:TG):Prop:=∀v (os cs:St) H (Q:St->Hp->Prop),-os=n->gg v (os++cs) H Q->gg v (os++cs) H λσ' H'=>(∃XG:St,-XG=n/\σ'=XG++cs)/\Q σ' H'
def EW(J:It)(n:Nat)(gg:TG)(tc:TT)(te:TE)(cs:St)(Q:VK)(H1:Hp)(D:Addr):Prop:=
 ∃W:Nat->Nat->List V->Hp->Prop,(∃m,W 0 m [] (upd H1 D (.lst [])))/\∀i m ys H2,W i m ys H2->H2 D=!(.lst ys)/\
  ((J.stop i H2/\Q (.ref D) H2)\/(J.go i H2/\∀x H3,J.V8 i H2 x H3->∀os:St,-os=n->gg x (os++cs) H3 λσ' H3'=>tc σ' H3' λb H4=>match b with
   | true=>te σ' H4 λy H5=>H5 D=!(.lst ys)/\-ys < sizeLine/\∃m',m' < m/\W (i+1) m' (ys++[y]) (upd H5 D (.lst (ys++[y])))
   | false=>∃m',m' < m/\W (i+1) m' ys H4))
def K2(wi:TI)(n:Nat)(gg:TG)(tc:TT)(te:TE)(ag:List Nat):TE:=λσ H Q=>wi σ H λJ H1=>∀D,H1 D=none->EW J n gg tc te (q5 ag σ) Q H1 D
noncomputable def ZM(cs:List Expr)(env:Env):Sem Bool:=match cs with
 | []=>pure true
 | c::_=>isTrue c env (eval c env)
def X1(X:Cx)(cs:List Expr)(t:TT):Prop:=
 (cs=[]\/∃c,cs=[c])/\∀(η:List (Addr×Obj)) (s:Shared) (σ:St) (H:Hp) (Q:Bool->Hp->Prop),Inv X η σ H s->t σ H Q->wpAny (model X.prog X.w) X.A (ZM cs X.env) (TP X η σ Q) X.xe s
def wU{target iter:Expr}{cs:List Expr}{scope:Scope}{env:Env}(h:cs=[]\/∃c,cs=[c]):
  compTurn (.ListComp elt [(target,iter,cs,0)] scope pos) 0 it Μ env=(standAt iter.pos >>= λ_=>pyNext it >>= λr=>match r with
   | none=>pure (.done .next)
   | some v=>letOwnedTupleGo target it v >>= λ_=>assign target env v >>= λ_=>ZM cs env >>= λok=>
    (if ok=true then (eval elt env >>= λx=>call (.builtin "list.append") [Μ,x] >>= λ_=>pure Unit.unit) >>= λ_=>again (.compLoop (.ListComp elt [(target,iter,cs,0)] scope pos) 0 it Μ env)
     else again (.compLoop (.ListComp elt [(target,iter,cs,0)] scope pos) 0 it Μ env))):=by
 rcases h with rfl| ⟨c,rfl⟩ <;> (unfold compTurn ZM;dsimp only[List.getElem?_cons_zero,List.getElem?_cons_succ,List.getElem?_nil];simp only[List.forIn_cons,List.forIn_nil,bind_assoc,pure_bind,if_true];rfl)
set_option tactic.hygienic true
section
variable{elt iter tg:Expr}{cs:List Expr}{pos:Pos}{wi:TI}{gg:TG}{tc:TT}{te:TE}
set_option tactic.hygienic false
def xN(S:aJ X scope xs ys ag)(hc:X.calm=true)(hg:∀C s H fp,PG (Cx.comp X (xs++ys) scope C s H fp) tg gg)(hk:yi (-xs) gg)(ht:∀C s H fp,X1 (Cx.comp X (xs++ys) scope C s H fp) cs tc)(he:∀C s H fp,PE (Cx.comp X (xs++ys) scope C s H fp) elt te)
       {fp:List Addr}    {PQ:Value->Addr->Result->Shared->Prop} (I:Inv X η σ H2 s2) (T:Turn X.prog X.w X.K tg J fp it tn) (t0:tn 0 s2.heap) (f2:∀b∈fp,tG X η H2 b)
  (h:∀D,H2 D=none->EW J (-xs) gg tc te (q5 ag σ) Q H2 D)
  (hPQ:∀D C s' H',Inv X η σ H' s'->Q (.ref D) H'->(∃m,s'.heap.Ns C m)->H' C=none->X.s₀.heap.objs.size<=C->C≠X.env.locals->(∀z c,X.env.cells.lookup z=!c->c≠C)->(∀p∈X.pn++η,p.1≠C)->PQ (.ref D) C (.ok .next) s'):
  wpAny (model X.prog X.w) X.A (newList []) (λΜ s3=>wpAny (model X.prog X.w) X.A (newFunctionEnv scope X.env.globals (mT X.env scope.names []) [] X.env.qual none .none (!X.env)) (λXo s4=>
   codeAny (model X.prog X.w) X.A (.compStart (.ListComp elt [(tg,iter,cs,0)] scope pos) 0 (.ref it) Μ {Xo with scope:=relabel scope X.env}) (PQ Μ Xo.locals) s4) X.xe s3) X.xe s2:=by
 let hD:H2 s2.heap.objs.size=none:=I.fresh;let(W,(m0,w0),step):=h _ hD;show wpAny_newObj_type ?_;let I3:Inv X η σ (upd H2 s2.heap.objs.size (.lst [])) {s2 with heap:=s2.heap.push {cls:=.type "list",data:=.seq ([]:List Value).toArray}}:=Inv.R7 (t':=s2.toks) I (ys:=[]) (its:=[]) .nil (acR _);generalize XY:upd H2 s2.heap.objs.size (.lst [])=H3 at I3 w0;generalize hs3:({s2 with heap:=s2.heap.push {cls:=.type "list",data:=.seq ([]:List Value).toArray}}:Shared)=s3 at I3;let Zf:∀b∈fp,H3 b=none:=λb hb=>by let(o,e,_):=T.obj _ _ t0 b hb;rw[<-XY,Ρ (abF (aaV e))];show(f2 b hb).1
 let t3:tn 0 s3.heap:=T.keep _ _ _ t0 λb hb o e=>by rw[<-hs3];show aat _ e
 show wpAny_newFunctionEnv S.MM (λy hy=>nomatch hy) (λh4 ns4 sb4=>?_) S.kind;let hC:H3 s3.heap.objs.size=none:=I3.fresh
 let kp:∀b o,s3.heap.get? b=!o->h4.get? b=!o:=λb o e=>
  (sb4.2 b (abF (aaV e))).trans (aat _ e)
 generalize hs4:({s3 with heap:=h4,toks:=s3.toks+-([]:List (Str×Value))}:Shared)=s4;let e4:s4.heap=h4:=by rw[<-hs4]
 let Ka:∀z c,X.env.cells.lookup z=!c->c≠s3.heap.objs.size:=λz c e q=>by let(v,w):=I3.cell z c e;show acn _ (q▸w.lt)
 let wW:∀z c,(mT X.env scope.names []).lookup z=!c->X.env.cells.lookup z=!c:=λz c e=>xg scope.names [] (S.has I.ok) nofun e;let Lne:s3.heap.objs.size≠X.env.locals:=adu I3.lt;let ok:(Cx.comp X (xs++ys) scope s3.heap.objs.size s3 H3 fp).Ok:=by
  show(I3.ok.mod,S.kind,I3.ok.glob,I3.ok.blt,aaq _,λz z' c e1 e2=>I3.ok.inj z z' c (wW z c e1) (wW z' c e2),λz hz=>?_,λz c hz=>(by cases hz),I3.ok.hd,I3.ok.frames,.inl rfl,λb hb=>(?_,λz c e=>?_),I3.bs,?_,λb o e hb=>?_,λb hb hf=>?_,I3.stack,I3.yJ)
  .have:=vB (env:=X.env) scope.names [] (.inl (KQ S.MM hz));show aci.mp this
  .let(o,e,_):=T.obj _ _ t3 b hb;show abF (aaV e)
  .show(f2 b hb).2.2.2.2.1 z c (wW z c e)
  .show aaF I3.ok.v7 I3.sz
  .let(_,_,_,hy,_):=f2 b hb;let e0:=(I3.ok.bs b o e).1;rcases hy with hy| hy
   .show I3.ok.Sh b o e hy
   .show abe (aaW (aaV e0) hy) (acn _)
  .let(_,hl,hfs,_):=f2 b hb;show(abg.mp (I3.yB b hf)).elim hl hfs
 let hlen:-((List.replicate (-xs) (none:Option V))++q5 ag σ)=-(xs++ys):=by rw[aak,aak,abT,S.len];unfold q5;rw[aae]
 let I4:Inv X η σ H3 s4:=by rw[<-hs4];show I3.kept kp
 let Ic:Inv (Cx.comp X (xs++ys) scope s3.heap.objs.size s3 H3 fp) [] ((List.replicate (-xs) (none:Option V))++q5 ag σ) H3 s4:=by
  show(ok,by rw[<-hs4];rfl,I4.bare,Un.kept (by rw[e4];show kp),(_,by rw[e4];show ns4,λi z v e1 e2 e3=>?_),λz c e=>I4.cell z c (wW z c e),hC,λz c e=>I4.rZ z c (wW z c e),(λp hp=>nomatch hp),I4.aS,hlen);let e1:(xs++ys)[i]? =!z:=e1;by_cases hi:i < -xs
  .rw[aaD (by rw[abT];show hi),acS,aa0 hi]at e2;cases e2
  .obtain⟨j,rfl⟩:∃j,i=-xs+j:=(i - -xs,());let e1:ys[j]? =!z:=by rw[aay (),Nat.add_sub_cancel_left]at e1;show e1
   let e2:(q5 ag σ)[j]? =!(!v):=by rw[aay (by rw[abT];omega),abT,Nat.add_sub_cancel_left]at e2;show e2
   unfold q5 at e2;rw[aas]at e2;cases hi:ag[j]? with
   | none=>rw[hi]at e2;cases e2
   | some i=>
    rw[hi]at e2;let e2:(σ[i]?).join=!v:=aaC e2;let e2:σ[i]? =!(!v):=by
     cases q:σ[i]? with
     | none=>rw[q]at e2;cases e2
     | some o=>rw[q]at e2;show abq some e2
    let(c1,c2,c3):=S.cap (z, i) (Kj e1 hi);let c4:=Br (env:=X.env) I.ok.kind c2 c3;let c3:(z, NameKind.free)∈scope.names:=PySem.mem_of_lookup c3;let(m,hn,hl):=I4.loc;let(u,r,lk):=hl i z v c1 e2 (.inr (.inl c2));show(u,r,.inr (.inl c4,?_));rcases lk with ⟨k,_⟩| ⟨_,c,tI,z'⟩
    .show abe ((show X.env.scope.names.lookup z=some .local from k).symm.trans c2) @_
    .let(d,hd):=aci.mp (vB (env:=X.env) scope.names [] (.inl c3));have:=wW z d hd;rw[tI]at this;cases this;show(c,hd,z')
 let loop:codeAny (model X.prog X.w) X.A (.compLoop (.ListComp elt [(tg,iter,cs,0)] scope pos) 0 (.ref it) (.ref s2.heap.objs.size) (compEnvC scope (mT X.env scope.names []) s3.heap.objs.size X.env)) (PQ (.ref s2.heap.objs.size) s3.heap.objs.size) s4:=by
  let ZN:∀{H':Hp},(∀b∈fp,H' b=none)->∀b∈fp,tG (Cx.comp X (xs++ys) scope s3.heap.objs.size s3 H3 fp) [] H' b:=λhn b hb=>
   (hn b hb,(ok.exf b hb).1,ok.TK b hb,.inl hb,(ok.exf b hb).2,(λp hp=>nomatch hp))
  show codeAny_loop rfl (λn s'=>∃(i:Nat) (zs:List V) (os:St) (H':Hp),-os=-xs/\Inv (Cx.comp X (xs++ys) scope s3.heap.objs.size s3 H3 fp) [] (os++q5 ag σ) H' s'/\tn i s'.heap/\(∀b∈fp,H' b=none)/\W i n zs H') (λn s5 z=>?_) m0 (0,[],List.replicate (-xs) none,H3,by rw[abT],Ic,T.keep _ _ _ t3 (λb hb o e=>by rw[e4];show kp b o e),Zf,w0);let(i,zs,os,H5,l5,I5,t5,XJ,w5):=z;change wpAny _ _ ((compTurn _ 0 (.ref it) _ _).onRaise _) _ _ s5;show wpAny_noted ?_;rw[wU (ht s3.heap.objs.size s3 H3 fp).1];show aaw (wpAny_standAt (aaw ?_));obtain⟨L9,stop| go⟩:=step i n zs H5 w5
  .let(stop,q):=stop;show bG (T.done (Cx.comp X (xs++ys) scope s3.heap.objs.size s3 H3 fp) rfl rfl rfl hc i [] s5 _ H5 _ I5 (ZN XJ) t5 stop) λr s6 xz=>?_;let(hr,I6):=xz;subst hr;show abt (hPQ _ _ s6 H5 ?_ q ?_ I6.free ?_ Lne Ka λp hp z=>?_)
   .show I3.Xj I6.os I6.base I6.aS I6.bare λb hb=>?_;let(_,g1,_,g3,g4,g5):=f2 b hb;show(g3,g1,g4,g5)
   .let(m,hn,_):=I6.loc;show(m,hn)
   .show I3.sz
   .show abF (aaV (I3.pin p hp).1) z
  .let(go,turn):=go;show bG (T.item (Cx.comp X (xs++ys) scope s3.heap.objs.size s3 H3 fp) rfl rfl rfl hc i [] s5 _ H5 _ I5 (ZN XJ) t5 go) λr s6 xz=>?_;let(u,hr,h6):=xz;subst hr;show aaw (bG h6 λ_ s7 xz=>?_);let(y,H7,I7,r7,y7,t7,fr7):=xz;let I7':=I7.pinned (ZN fr7) (T.obj _ _ t7);show aaw (acV (hg _ _ _ _ _ s7 _ H7 y u _ I7' r7 (hk y os _ H7 _ l5 (turn y _ y7 os l5))) (λ_ s8 z8=>?_) λ_ _ f=>f.elim);let(σ8,H8,I8,(os8,l8,e8),q8):=z8;subst e8;show aaw (acV ((ht _ _ _ _).2 _ s8 _ _ _ I8 q8) (λb s9 z9=>?_) λ_ _ f=>f.elim);let(H9,I9,q9):=z9;cases b with
   | false=>
    let(m9,hm9,w9):=q9;show abt (rfl,m9,hm9,i+1,zs,os8,_,l8,I9.lQ,T.keep _ _ _ t7 λb hb o e=>(I9.pin (b, o) (aaJ _ (aaJ _ (fZ hb e)))).1,λb hb=>?_,w9);let(o,e,_):=T.obj _ _ t7 b hb;show(I9.pin (b, o) (aaJ _ (aaJ _ (fZ hb e)))).2.1
   | true=>
    show aaw (aaw (acV (he _ _ _ _ _ s9 _ _ _ I9 q9) (λu10 s10 z10=>?_) λ_ _ f=>f.elim));let(v10,H10,I10,r10,a10,l10,m10,ZR,w10):=z10;show aaw (acV (wZ (X:=Cx.comp X (xs++ys) scope s3.heap.objs.size s3 H3 fp) _ s10 _ H10 (.ref s2.heap.objs.size) [v10] _ [u10] (λ_ H'=>H'=upd H10 s2.heap.objs.size (.lst (zs++[v10]))) I10 rfl (.cons r10 .nil) (_,zs,v10,rfl,rfl,a10,l10,rfl)) (λ_ s11 z11=>?_) λ_ _ f=>f.elim);let(_,H11,I11,_,e11):=z11;subst e11;show abt (abt (rfl,m10,ZR,i+1,zs++[v10],os8,_,l8,I11.lQ,T.keep _ _ _ t7 λb hb o e=>(I11.pin (b, o) (aaJ _ (aaJ _ (fZ hb e)))).1,λb hb=>?_,w10));let(o,e,_):=T.obj _ _ t7 b hb;show(I11.pin (b, o) (aaJ _ (aaJ _ (fZ hb e)))).2.1
 show codeAny_compStart_list loop (T.self X.A 0 _ _ _ (T.keep _ _ _ t3 (λb hb o e=>by rw[e4];show kp b o e)) loop)
def CJ(S:aJ X scope xs ys ag)(hc:X.calm=true)(hi:PI X tg iter wi)(hg:∀C s H fp,PG (Cx.comp X (xs++ys) scope C s H fp) tg gg)(hk:yi (-xs) gg)(ht:∀C s H fp,X1 (Cx.comp X (xs++ys) scope C s H fp) cs tc)(he:∀C s H fp,PE (Cx.comp X (xs++ys) scope C s H fp) elt te)(hs:(∀x,foldedSetIterable iter X.env x=pure x)|>3):
  PE X (.ListComp elt [(tg,iter,cs,0)] scope pos) (K2 wi (-xs) gg tc te ag):=by
 intro η s σ H Q I h;rw[eval_ListComp];show wpAny_comprehension_free (use:=none) rfl hs (uU (S.has I.ok)) S.kind S.names (bG (hi η s σ H _ I h) λv s1 h1=>bG h1 λX8 s2 h2=>?_);let(it,fp,tn,J,H2,rfl,I2,T,t0,f2,q):=h2;show xN S hc hg hk ht he (Q:=Q) I2 T t0 f2 q λD C s' H' I' q' n' hC hz hL Rc hp=>?_;let(m,n'):=n';show(m,n',λh' sb=>(.ref D,H',I'.turned (it:=C) (t':=s'.toks) (λb o hb e=>(sb.2 b hb).trans e) hC hL (.inr hz) Rc hp,rfl,q'))
def Bs{i:Nat}{AR:Pos}(hN:X.N.Nodup)(Ux:X.N[i]? =!y)(hy:Loc X.env.scope y)(S:aJ X scope xs ys ag)(hc:X.calm=true)(hi:PI X tg iter wi)(hg:∀C s H fp,PG (Cx.comp X (xs++ys) scope C s H fp) tg gg)(hk:yi (-xs) gg)(ht:∀C s H fp,X1 (Cx.comp X (xs++ys) scope C s H fp) cs tc)(he:∀C s H fp,PE (Cx.comp X (xs++ys) scope C s H fp) elt te)
  (WE:swapsWith (.ListComp elt [(tg,iter,cs,0)] scope pos) (!(.Name y py)) AR.line X.env=pure true) (hs:∀x,foldedSetIterable iter X.env x=pure x)
  (hf:X.fn y=true\/X.env.scope.names.lookup y=some .local):
  PS X (.Assign [.Name y py] (.ListComp elt [(tg,iter,cs,0)] scope pos) AR) (λD σ H=>K2 wi (-xs) gg tc te ag σ H λv H1=>D.nx (σ.set i (!v)) H1):=by
 intro η s σ H D I h;rw[exec_Assign_Name_used _ _ _ _ WE];show aaw (wpAny_standAt (aaw ?_));change wpAny _ _ (do let  _<-comprehension (.ListComp elt [(tg,iter,cs,0)] scope pos) scope X.env _ (newList []) false (eval iter X.env) (!(assign (.Name y py) X.env))) _ _ s;show aaw (acV (wpAny_comprehension_free (use:=!(assign (.Name y py) X.env)) (Q:=λ_ s'=>SP X η D .next s') rfl hs (uU (S.has I.ok)) S.kind S.names (bG (hi η s σ H _ I h) λv s1 h1=>bG h1 λX8 s2 h2=>?_)) (λ_ s' hq=>abt (abt hq)) λ_ _ e=>e);let(it,fp,tn,J,H2,rfl,I2,T,t0,f2,q):=h2;show xN S hc hg hk ht he (Q:=λv H1=>D.nx (σ.set i (!v)) H1) I2 T t0 f2 q λDl C s' H' I' q' n' hC hz hL Rc hp=>?_;let(m,n'):=n';change wpAny _ _ (assign (.Name y py) X.env (.ref Dl)) _ _ s';show wpAny_assign_Name (x_ I' hN Ux hy (v:=.ref Dl) rfl (λs3 I3 Zv=>?_) hf);let(a,Zv,ha):=Zv;let hCa:C≠a:=by
  rcases ha with rfl| ha
  .show hL
  .show(Rc _ _ ha).symm
 show(m,n'.sameBut Zv hCa,λh' sb=>(_,H',I3.turned (it:=C) (t':=s3.toks) (λb o hb e=>(sb.2 b hb).trans e) hC hL (.inr hz) Rc hp,q'))
end
section
variable{K:fI}
def cz.okX{x:Str}{k:Nat}{sp:Sp}(F:cz K x qual st f fd)(S:Δ N ps (τ st))(len:∀vs H Q E,sp vs H Q E->-vs=-ps)
  (tM:∀(aQ:Value) (A:Around) (outer:List Env) (s:Shared) (H:Hp) (vs:List V) (Q:VK) (E:XK),bI k (A.deeper (envOfC qual (τ st) s.heap.objs.size f aQ))->sp vs H Q E->
   ∃t,Jx (v9 (bO P w) P w K mg base N qual (τ st) f aQ A outer s H E) (dY st) t/\t {nx:=λ_ H'=>Q .bc H',rt:=Q} (start N vs) H):ao P w K mg base (bO P w) (k+1) f fd ps sp:=by
 let(oc,od,kV,doc,pm,an,aQ,ct,B4,rfl,lk,D1):=F.ex;show Qi lk D1 S len λA outer s H vs Q E hr QX=>tM aQ A outer s H vs Q E hr QX
end
def gF:cM (bO P w) X (λ_=>E0):=by intro η σ H s e s' _ hx;let(_,_,_,_,_,_,_,_,hE):=hx;show hE.elim
def log2_lt{n:Nat}{k:Nat}(h:n < 2 ^ k)(hk:0 < k):n.log2 < k:=by
 by_cases h0:n=0
 .rw[h0,show Nat.log2 0=0 from rfl];show hk
 .show(Nat.log2_lt h0).mpr h
def fJ(i:Int):Prop:=i.natAbs < 2 ^ 8000
def Jd(hi:fJ i)(hj:fJ j):IntMulOk i j:=by
 let b:∀{i:Int},fJ i->Builtin.Int.intBits i<=8000:=λ{i} h=>by
  unfold Builtin.Int.intBits;split
  .show acR _
  .have:=log2_lt (k:=8000) h @_;omega
 let b1:=b hi;let b2:=b hj;let h3:Builtin.Int.intTooBig (Builtin.Int.intBits i+Builtin.Int.intBits j)=false:=by
  unfold Builtin.Int.intTooBig;show aa6 ?_;have:(bitsLine:Int)=134217728:=@_
  omega
 unfold IntMulOk;rw[h3,Bool.and_false];show aa8
section
def Py:jM X (binaryOp .Mult) (rI (λi j=>fJ i/\fJ j) λi j=>.int (i * j)):=Yr λ_ _ _ _ _ _ _ hc q=>mul_int q (Jd hc.1 hc.2)
def BI:jM X (binaryOp .FloorDiv) (rI (λ_ j=>j≠0/\fJ j) λi j=>.int (i.fdiv j)):=Yr λ_ _ _ _ _ _ _ hc q=>
 floordiv_int hc.1 q (.inl (PyProof.noPylong_of_log2 (aaW (log2_lt (k:=8000) hc.2 @_) @_)))
end
noncomputable def Mc:V->Option Value
 | .ty T=>!(.type T)
 | .ref C=>!(.ref C)
 | _=>none
def Pe{t:Value}(r:aH c u)(h:Mc c=!t):u=t:=by
 cases c with
 | ty T=>cases r;show aaC h
 | ref C=>cases r;show aaC h
 | _=>cases h
section
def rR:eD X (.builtin "isinstance") (λxs H Q=>∃x c t t' b,xs=[x,c]/\lx X.K H x t/\Mc c=!t'/\PySem.W.kitOne X.K t t'=!b/\Q (.bl b) H):=by intro η s σ H xs us Q I r h;let(x,c,t,t',b,rfl,ty,hc,hk,q):=h;let(u,u',rfl,r1,r2):=QZ r;cases Pe r2 hc;show Ik I r1 ty hk λtk=>(.bl b,H,I.tok tk,rfl,q)
end
noncomputable def oI:List V->List V->Bool
 | [],[]=>true
 | x::xs,y::ys=>pW x y&&oI xs ys
 | _,_=>false
def n9:∀(xs ys:List V) (e:Nat->Bool),(∀j x y,xs[j]? =!x->ys[j]? =!y->e j=pW x y)->((List.range (min (-xs) (-ys))).all e&&-xs==-ys)=oI xs ys
 | [],[],e,_=>rfl
 | [],_::_,e,_=>by simp[oI]
 | _::_,[],e,_=>by simp[oI]
 | x::xs,y::ys,e,h=>by
  let ih:=n9 xs ys (λj=>e (j+1)) λj x y h1 h2=>h (j+1) x y h1 h2;let h0:e 0=pW x y:=h 0 x y rfl rfl;change _=(pW x y&&oI xs ys);rw[<-ih,<-h0];let e1:min (-(x::xs)) (-(y::ys))=min (-xs) (-ys)+1:=by simp only[List.length_cons];omega
  rw[e1,acq,acT,List.all_map];let e2:(-(x::xs)==-(y::ys))=(-xs==-ys):=by simp only[List.length_cons];rw[Bool.eq_iff_iff];simp
  rw[e2,Bool.and_assoc];rfl
def Wd(K:fI):R2:=λx y H Q=>∃a b xs ys,x= .ref a/\y= .ref b/\pH K H a xs/\pH K H b ys/\xs.all eE=true/\ys.all eE=true/\Q (.bl (oI xs ys)) H
def Vc(K:fI):R2:=λx y H Q=>∃a b xs ys,x= .ref a/\y= .ref b/\pH K H a xs/\pH K H b ys/\xs.all eE=true/\ys.all eE=true/\Q (.bl (! oI xs ys)) H
def oK:∀{xs:List V} {j:Nat} {x:V},xs.all eE=true->xs[j]? =!x->eE x=true
 | _::_,0,_,h,e=>by rw[acT,aaQ]at h;cases e;show h.1
 | _::_,j+1,_,h,e=>by rw[acT,aaQ]at h;show oK h.2 e
section
def SD(hu:X.A.units < cLine):jM X (compareOp .NotEq) (Vc X.K):=by
 intro η s σ H x y v u Q I rx ry h;let(a,b,xs,ys,rfl,rfl,h1,h2,f1,f2,q):=h;cases rx;cases ry;let(i1,v1,t1,_):=I.tuple h1;let(i2,v2,t2,_):=I.tuple h2;let l1:=-v1;let l2:=-v2;show SeqAt.RcNeAt.tuples (e:=λj=>match xs[j]?, ys[j]? with| some x,!y=>pW x y| _,_=>true) (show s.heap.IsTuple a i1.toArray from t1) (show s.heap.IsTuple b i2.toArray from t2) hu (λj h1 h2=>?_) _ _ _ _ ?_
 .let b1:j < -i1:=by simpa using h1
  let b2:j < -i2:=by simpa using h2
  let e1:xs[j]? =!(xs[j]'()):=aaa _;let e2:ys[j]? =!(ys[j]'()):=aaa _;let(u1,g1,r1):=v1.get e1;let(u2,g2,r2):=v2.get e2;rw[aaa b1]at g1;rw[aaa b2]at g2;let w1:i1.toArray[j]=u1:=by simpa using Option.some.inj g1
  let w2:i2.toArray[j]=u2:=by simpa using Option.some.inj g2
  rw[w1,w2];simp only[e1,e2];show vb r1 r2 (oK f1 e1) (oK f2 e2)
 .rw[List.size_toArray,List.size_toArray,<-l1,<-l2,n9 xs ys _ (λj x y h1 h2=>by simp only[h1,h2])];show(.bl (! oI xs ys),H,I,rfl,q)
def K5(hu:X.A.units < cLine):jM X (compareOp .Eq) (Wd X.K):=by
 intro η s σ H x y v u Q I rx ry h;let(a,b,xs,ys,rfl,rfl,h1,h2,f1,f2,q):=h;cases rx;cases ry;let(i1,v1,t1,_):=I.tuple h1;let(i2,v2,t2,_):=I.tuple h2;let l1:=-v1;let l2:=-v2;show SeqAt.eq_tupleAt (e:=λj=>match xs[j]?, ys[j]? with| some x,!y=>pW x y| _,_=>true) (show s.heap.IsTuple a i1.toArray from t1) (show s.heap.IsTuple b i2.toArray from t2) hu (λj h1 h2=>?_) ?_
 .let b1:j < -i1:=by simpa using h1
  let b2:j < -i2:=by simpa using h2
  let e1:xs[j]? =!(xs[j]'()):=aaa _;let e2:ys[j]? =!(ys[j]'()):=aaa _;let(u1,g1,r1):=v1.get e1;let(u2,g2,r2):=v2.get e2;rw[aaa b1]at g1;rw[aaa b2]at g2;let w1:i1.toArray[j]=u1:=by simpa using Option.some.inj g1
  let w2:i2.toArray[j]=u2:=by simpa using Option.some.inj g2
  rw[w1,w2];simp only[e1,e2];show vb r1 r2 (oK f1 e1) (oK f2 e2)
 .rw[List.size_toArray,List.size_toArray,<-l1,<-l2,n9 xs ys _ (λj x y h1 h2=>by simp only[h1,h2])];show(.bl (oI xs ys),H,I,rfl,q)
end
def Jt(bs:List Bool):(List.range (-bs)).any (λi=>bs.getD i false)=bs.any id:=by
 induction bs with
 | nil=>rfl
 | cons b bs ih=>
  rw[aaN,acq,acU,List.any_map,acU,<-ih];rfl
def AA:∀{bs:List Bool} {us:List Value},aC (bs.map V.bl) us->us=bs.map Value.bool
 | [],_,r=>by cases r;rfl
 | b::bs,_,r=>by
  cases r with
  | cons h t=>
   cases h;rw[AA t];rfl
def By{bs:List Bool}:TruthOf prog w A (λi v=>(bs.map Value.bool).toArray[i]? =!v) (λi=>bs.getD i false):=by
 intro i v s Q E h q;let h':(bs.map Value.bool)[i]? =!v:=by simpa using h
 rw[aas]at h';cases e:bs[i]? with
 | none=>rw[e]at h';cases h'
 | some b=>
  rw[e]at h';cases h';let q':Q b s:=by
   let eb:bs.getD i false=b:=by rw[aab,e];rfl
   show eb▸q
  show wpAny_truthy_bool q'
def Xk(K:fI):List V->Hp->VK->Prop:=λxs H Q=>∃(p:Addr) (bs:List Bool),xs=[.ref p]/\h7 K H p (bs.map V.bl)/\Q (.bl (bs.any id)) H
section
def KL (hc : X.calm = true) : eD X (.builtin "any") (Xk X.K) :=by
  intro η s σ H xs us Q I r h;obtain⟨p,bs,rfl,hq,q⟩ :=h;obtain⟨u,rfl,r1⟩ :=lS r;cases r1;obtain⟨its,rv,pl,hz⟩ :=I.list hq;let Th :=AA rv;subst Th;show call_any_walk (wpAny_pyIter_list pl.isList ?_);let lp : p < s.heap.objs.size :=by obtain⟨o,e,_⟩ :=pl.isList;show aaV e
  show(s.heap.objs.size,_,_,_,_,_,λi =>bs.getD i false,rfl,Walks.list (show X.A.in1.handled = none from I.ok.hd hc) s.heap.objs.size p (abF lp) (bs.map Value.bool).toArray,((_,abz _ rfl,rfl,rfl),pl.isList.at λo e =>aat _ e),By,λh' tk hk =>?_);show(.bl (bs.any id),H,I.kept λb o e =>hk b o (λz =>by have : b = s.heap.objs.size :=(by simpa using z);show Nat.lt_irrefl _ (this ▸ Heap.lt_size e)) (Heap.get?_push_of_some _ e),?_,q);rw[aa5,aae,Jt];rfl
end
end L2
namespace PySem
open Sem (wp)
end PySem
namespace PySem.W
open PySem PySem.Builtin PySem.Builtin.ObjectAttr
end PySem.W
namespace PySem
open Sem (wp)
end PySem
namespace L2
open PySem PySem.Spec PyProof.Rows
def xO(a C:Addr)(od:Option Addr):HO:=.ext λh=>∃ob vs,h.get? a=!ob/\ob.cls= .ref C/\ob.dict=od/\ob.data= .fields vs
inductive Dt where
 | bc
 | bl (b:Bool)
 | int (i:Int)
 | str (x:Str)
 | tup (xs:List Dt)
 | lst (xs:List Dt)
 | obj (C:Addr) (ns:List Str) (xs:List Dt)
 | loc (k:Nat)
 | ref (a:Addr)
 | ty (n:String)
 | i_ (ns:List Int)
 | kt (xs:List Dt)
 | exc (C:Addr) (ns:List Str) (xs:List Dt)
 | Ub (x C:Addr) (od:Option Addr) (ns:List Str) (xs:List Dt)
inductive MO where
 | lst (xs:List Dt)
 | ins (C:Addr) (ns:List Str) (xs:List Dt)
 | c_ (ks:List Key) (xs:List Dt)
 | raw (u:Addr->HO)
abbrev Ms:=List MO
abbrev En:=List (Option Dt)
mutual
def Den(K:fI)(G:Hp)(L:List Addr):Dt->V->Prop
 | .bc,v=>v= .bc
 | .bl b,v=>v= .bl b
 | .int i,v=>v= .int i
 | .str x,v=>v= .str x
 | .tup ds,v=>∃a vs,v= .ref a/\G a=!(.tup vs)/\Τ K G L ds vs
 | .lst ds,v=>∃a vs,v= .ref a/\G a=!(.lst vs)/\Τ K G L ds vs
 | .obj C ns ds,v=>∃a dx vs,v= .ref a/\G a=!(.ins C dx (ns.zip vs))/\-ns=-ds/\Τ K G L ds vs
 | .loc k,v=>∃a,v= .ref a/\L[k]? =!a
 | .ref a,v=>v= .ref a
 | .ty n,v=>v= .ty n
 | .i_ ns,v=>∃a,v= .ref a/\h7 K G a (ns.map V.int)
 | .kt ds,v=>∃a vs,v= .ref a/\pH K G a vs/\Τ K G L ds vs
 | .exc C ns ds,v=>∃a od vs,v= .ref a/\G a=!(xO a C od)/\((ns=[]/\od=none)\/∃dx,od=!dx/\G dx=!(.xd (ns.zip vs)))/\-ns=-ds/\Τ K G L ds vs
 | .Ub x _ od ns ds,v=>∃vs,v= .ref x/\((ns=[]/\od=none)\/∃dx,od=!dx/\G dx=!(.xd (ns.zip vs)))/\-ns=-ds/\Τ K G L ds vs
def Τ(K:fI)(G:Hp)(L:List Addr):List Dt->List V->Prop
 | [],vs=>vs=[]
 | d::ds,vs=>∃v r,vs=v::r/\Den K G L d v/\Τ K G L ds r
end
def Pre(L L':List Addr):Prop:=∃t,L'=L++t
def Pre.refl(L:List Addr):Pre L L:=([],by simp)
def Pre.trans(h:Pre a b)(h':Pre b c):Pre a c:=by let(t,rfl):=h;let(u,rfl):=h';show(t++u,by simp)
def Pre.get(h:Pre a b){k:Nat}{x:Addr}(e:a[k]? =!x):b[k]? =!x:=by let(t,rfl):=h;let hk:k < -a:=(aai.mp e).1;rw[aaD hk];show e
def eU.rd{H:Hp}(e:eU H H')(h:Rd H a u):Rd H' a u:=by
 rcases h with h| ⟨o,h⟩
 .show .inl (e _ _ h)
 .show .inr (o,e _ _ h)
def eU.Wg{K:fI}{H:Hp}(e:eU H H')(h:pH K H a xs):pH K H' a xs:=by
 rcases h with h| h
 .show .inl (e.rd h)
 .show .inr h
section
variable{K:fI}{G G':Hp}{L L':List Addr}
mutual
def Den.mono(g:eU G G')(l:Pre L L'):∀(d:Dt) (v:V),Den K G L d v->Den K G' L' d v
 | .bc,_,h=>h
 | .bl _,_,h=>h
 | .int _,_,h=>h
 | .str _,_,h=>h
 | .tup ds,_,(a,vs,e,h1,h2)=>(a,vs,e,g _ _ h1,Τ.mono g l ds vs h2)
 | .lst ds,_,(a,vs,e,h1,h2)=>(a,vs,e,g _ _ h1,Τ.mono g l ds vs h2)
 | .obj C ns ds,_,(a,dx,vs,e,h1,hn,h2)=>(a,dx,vs,e,g _ _ h1,hn,Τ.mono g l ds vs h2)
 | .loc k,_,(a,e,h1)=>(a,e,l.get h1)
 | .ref _,_,h=>h
 | .ty _,_,h=>h
 | .i_ _,_,(a,e,h1)=>(a,e,g.seq h1)
 | .kt ds,_,(a,vs,e,h1,h2)=>(a,vs,e,g.Wg h1,Τ.mono g l ds vs h2)
 | .exc _ _ ds,_,(a,od,vs,e,h1,h2,h3,h4)=>(a,od,vs,e,g _ _ h1,h2.imp (λz=>z) (λ(dx,z1,z2)=>(dx,z1,g _ _ z2)),h3,Τ.mono g l ds vs h4)
 | .Ub _ _ _ _ ds,_,(vs,e,h2,h3,h4)=>(vs,e,h2.imp (λz=>z) (λ(dx,z1,z2)=>(dx,z1,g _ _ z2)),h3,Τ.mono g l ds vs h4)
def Τ.mono(g:eU G G')(l:Pre L L'):∀(ds:List Dt) (vs:List V),Τ K G L ds vs->Τ K G' L' ds vs
 | [],_,h=>h
 | d::ds,_,(v,r,e,h1,h2)=>(v,r,e,Den.mono g l d v h1,Τ.mono g l ds r h2)
end
def Τ.pair:∀{ds:List Dt} {vs:List V},Τ K G L ds vs->Paired (Den K G L) ds vs
 | [],_,h=>by let h:_=_:=h;subst h;show .nil
 | d::ds,_,(v,r,e,h1,h2)=>by subst e;show .cons h1 (Τ.pair h2)
def Τ.of:∀{ds:List Dt} {vs:List V},Paired (Den K G L) ds vs->Τ K G L ds vs
 | _,_,.nil=>rfl
 | _,_,.cons h t=>(_,_,rfl,h,Τ.of t)
end
section
variable{α β:Type}{F:α->β->Prop}
def FA:∀{xs:List α} {us:List β} {i:Nat} {x:α},Paired F xs us->xs[i]? =!x->∃u,us[i]? =!u/\F x u
 | _,_,_,_,.nil,e=>by simp at e
 | _,_,0,_,.cons r _,e=>by simp at e;subst e;show(_,rfl,r)
 | _,_,i+1,x,.cons _ t,e=>by let(u,h1,h2):=FA (i:=i) (x:=x) t (by simpa using e);show(u,by simpa using h1,h2)
def Gj(r:F x u):∀{xs:List α} {us:List β} (i:Nat),Paired F xs us->Paired F (xs.set i x) (us.set i u)
 | _,_,_,.nil=>.nil
 | _,_,0,.cons _ t=>.cons r t
 | _,_,i+1,.cons q t=>.cons q (Gj r i t)
def zi:∀{xs ys:List α} {us ws:List β},Paired F xs us->Paired F ys ws->Paired F (xs++ys) (us++ws)
 | _,_,_,_,.nil,s=>s
 | _,_,_,_,.cons r t,s=>.cons r (zi t s)
def vQ:∀{xs:List α} {us:List β} (n:Nat),Paired F xs us->Paired F (xs.take n) (us.take n)
 | _,_,0,_=>.nil
 | _,_,_+1,.nil=>.nil
 | _,_,n+1,.cons r t=>.cons r (vQ n t)
def tL:∀{xs:List α} {us:List β} (n:Nat),Paired F xs us->Paired F (xs.drop n) (us.drop n)
 | _,_,0,r=>r
 | _,_,_+1,.nil=>.nil
 | _,_,n+1,.cons _ t=>tL n t
def zR(h:Paired F xs us):∀k:Nat,Paired F (List.replicate k xs).flatten (List.replicate k us).flatten
 | 0=>.nil
 | k+1=>by rw[acb,acb,acu,acu];show zi h (zR h k)
end
section
variable{K:fI}{G:Hp}{L:List Addr}
def Τ.length(h:Τ K G L ds vs):-ds=-vs:=Paired.length h.pair
def Τ.get{i:Nat}(h:Τ K G L ds vs)(e:ds[i]? =!d):∃v,vs[i]? =!v/\Den K G L d v:=FA h.pair e
def Τ.app(h:Τ K G L ds vs)(h':Τ K G L es us):Τ K G L (ds++es) (vs++us):=.of (zi h.pair h'.pair)
def jN:∀{ns:List Int},Τ K G L (ns.map Dt.int) (ns.map V.int)
 | []=>rfl
 | n::ns=>(_,_,rfl,rfl,jN)
def bD{d:Dt}(h:Τ K G L [d] vs):∃v,vs=[v]/\Den K G L d v:=by let(v,r,rfl,h1,h2):=h;let h2:r=[]:=h2;subst h2;show(v,rfl,h1)
def gJ{d e:Dt}(h:Τ K G L [d,e] vs):∃v u,vs=[v,u]/\Den K G L d v/\Den K G L e u:=by let(v,r,rfl,h1,h2):=h;let(u,rfl,h3):=bD h2;show(v,u,rfl,h1,h3)
end
def JD(K:fI)(G:Hp)(L:List Addr)(H:Hp)(a:Addr):MO->Prop
 | .lst ds=>∃vs,H a=!(.lst vs)/\Τ K G L ds vs
 | .ins C ns ds=>∃dx vs,H a=!(.ins C dx (ns.zip vs))/\-ns=-ds/\Τ K G L ds vs
 | .c_ ks ds=>∃vs,H a=!(.dK (ks.zip vs))/\-ks=-ds/\Τ K G L ds vs
 | .raw u=>H a=!(u a)
structure Rl(K:fI)(G:Hp)(L:List Addr)(M:Ms)(H:Hp):Prop where
 sub:eU G H
 len:-L=-M
 nd:L.Nodup
 fK:∀(k:Nat) (a:Addr) (m:MO),L[k]? =!a->M[k]? =!m->G a=none/\JD K G L H a m
structure Ex(G:Hp)(L:List Addr)(H:Hp)(G':Hp)(L':List Addr)(H':Hp):Prop where
 g:eU G G'
 l:Pre L L'
 fr:∀b,G b=none->H b≠none->G' b=none
 out:∀b o,H b=!o->b∉L->H' b=!o
 new:∀b∈L',b∈L\/H b=none
 Gf:∀b,H b≠none->H' b≠none
def Ex.refl(G:Hp)(L:List Addr)(H:Hp):Ex G L H G L H:=(.refl _,.refl _,λ_ h _=>h,λ_ _ h _=>h,λ_ h=>.inl h,λ_ h=>h)
def Ex.trans{H:Hp}(a:Ex G L H G1 L1 H1)(b:Ex G1 L1 H1 G2 L2 H2):Ex G L H G2 L2 H2 where
 g:=a.g.trans b.g
 l:=a.l.trans b.l
 fr:=λx h1 h2=>b.fr x (a.fr x h1 h2) (a.Gf x h2)
 out:=λx o h1 h2=>b.out x o (a.out x o h1 h2) λz=>(a.new x z).elim h2 λq=>by rw[h1]at q;cases q
 new:=λx h=>by
  rcases b.new x h with z| z
  .show a.new x z
  .right;cases q:H x with
   | none=>rfl
   | some o=>show absurd z (a.Gf x (by rw[q];simp))
 Gf:=λx h=>b.Gf x (a.Gf x h)
def JD.there{K:fI}{H:Hp}(h:JD K G L H a m):H a≠none:=by
 cases m with
 | lst ds=>let(vs,e,_):=h;rw[e];simp
 | ins C ns ds=>let(dx,vs,e,_):=h;rw[e];simp
 | c_ ks ds=>let(vs,e,_):=h;rw[e];simp
 | raw u=>let h:H a=!(u a):=h;rw[h];simp
def JD.mono{K:fI}{H H':Hp}(g:eU G G')(l:Pre L L')(e:H' a=H a)(h:JD K G L H a m):JD K G' L' H' a m:=by
 cases m with
 | lst ds=>let(vs,e1,h):=h;show(vs,e.trans e1,Τ.mono g l _ _ h)
 | ins C ns ds=>let(dx,vs,e1,h0,h):=h;show(dx,vs,e.trans e1,h0,Τ.mono g l _ _ h)
 | c_ ks ds=>let(vs,e1,h0,h):=h;show(vs,e.trans e1,h0,Τ.mono g l _ _ h)
 | raw u=>show e.trans h
section
variable{K:fI}{G:Hp}{L:List Addr}{M:Ms}{H:Hp}{p:Addr}{o:HO}
def Rl.zD(r:Rl K G L M H){a:Addr}(h:a∈L):∃(k:Nat) (m:MO),L[k]? =!a/\M[k]? =!m/\G a=none/\JD K G L H a m:=by
 let(k,hk,e):=ab2 h;let e1:L[k]? =!a:=by rw[aaa hk,e]
 let e2:M[k]? =!(M[k]'(by rw[<-r.len];show hk)):=aaa _;show(k,_,e1,e2,r.fK k a _ e1 e2)
def Rl.RQ(r:Rl K G L M H)(hp:H p=none):p∉L:=λz=>by let(k,m,_,_,_,h):=r.zD z;show h.there hp
def Rl.Pp(r:Rl K G L M H)(hp:H p=none):Rl K (upd G p o) L M (upd H p o) where
 sub:=λb u e=>by
  by_cases hb:b=p
  .subst hb;rw[av]at e⊢;show e
  .rw[Ρ hb]at e⊢;show r.sub b u e
 len:=r.len
 nd:=r.nd
 fK:=λk a m h1 h2=>by let(q1,q2):=r.fK k a m h1 h2;let hb:a≠p:=λz=>q2.there (by rw[z];show hp);show(by rw[Ρ hb];show q1,q2.mono (λb u e=>by rw[Ρ (λz=>by rw[z,r.sub.free hp]at e;cases e)];show e) (.refl _) (Ρ hb))
def Rl.Ud(r:Rl K G L M H)(hp:H p=none):Ex G L H (upd G p o) L (upd H p o) where
 g:=λb u e=>by rw[Ρ (λz=>by rw[z,r.sub.free hp]at e;cases e)];show e
 l:=.refl _
 fr:=λb h1 h2=>by rw[Ρ (λz=>h2 (by rw[z];show hp))];show h1
 out:=λb u h1 _=>by rw[Ρ (λz=>by rw[z,hp]at h1;cases h1)];show h1
 new:=λb h=>.inl h
 Gf:=λb h=>by rw[Ρ (λz=>h (by rw[z];show hp))];show h
def Rl.NH(r:Rl K G L M H)(hp:H p=none)(hm:JD K G (L++[p]) (upd H p o) p m):Rl K G (L++[p]) (M++[m]) (upd H p o) where
 sub:=λb u e=>by rw[Ρ (λz=>by rw[z,r.sub.free hp]at e;cases e)];show r.sub b u e
 len:=by rw[aak,aak,r.len];rfl
 nd:=List.nodup_append.mpr (r.nd,by simp,λa ha b hb=>by
  let e:b=p:=by simpa using hb
  rw[e];exactλz=>r.RQ hp (z▸ha))
 fK:=λk a m' h1 h2=>by
  by_cases hk:k < -L
  .rw[aaD hk]at h1;rw[aaD (by rw[<-r.len];show hk)]at h2;let(q1,q2):=r.fK k a m' h1 h2;show(q1,q2.mono (.refl _) ([p],rfl) (Ρ λz=>q2.there (by rw[z];show hp)))
  .let e:k=-L:=by have:=(aai.mp h1).1;rw[aak]at this;simp at this;omega
   rw[e,aay (aaq _)]at h1;rw[e,r.len,aay (aaq _)]at h2;simp at h1 h2;subst h1 h2;show(r.sub.free hp,hm)
def Rl.XI(r:Rl K G L M H)(hp:H p=none):Ex G L H G (L++[p]) (upd H p o) where
 g:=.refl _
 l:=([p],rfl)
 fr:=λb h1 _=>h1
 out:=λb u h1 _=>by rw[Ρ (λz=>by rw[z,hp]at h1;cases h1)];show h1
 new:=λb h=>by
  rcases abj.mp h with z| z
  .show .inl z
  .let e:b=p:=by simpa using z
   right;rw[e];show hp
 Gf:=λb h=>by rw[Ρ (λz=>h (by rw[z];show hp))];show h
def Rl.setM{k:Nat}(r:Rl K G L M H)(hk:L[k]? =!a)(hm:JD K G L (upd H a o) a m):Rl K G L (M.set k m) (upd H a o) where
 sub:=λb u e=>by let(k',m',e1,e2,q1,_):=r.zD (aap hk);rw[Ρ (λz=>by rw[z,q1]at e;cases e)];show r.sub b u e
 len:=by rw[abW];show r.len
 nd:=r.nd
 fK:=λk' a' m' h1 h2=>by
  by_cases e:k'=k
  .subst e;rw[hk]at h1;cases h1;let hl:k' < -M:=by rw[<-r.len];show(aai.mp hk).1
   rw[abc hl]at h2;cases h2;let(_,_,_,_,q1,_):=r.zD (aap hk);show(q1,hm)
  .rw[abi (λz=>e z.symm)]at h2;let(q1,q2):=r.fK k' a' m' h1 h2;let ne:a'≠a:=λz=>by subst z;show e ((List.getElem?_inj (aai.mp h1).1 r.nd).mp (h1.trans hk.symm))
   show(q1,q2.mono (.refl _) (.refl _) (Ρ ne))
def Rl.Hj{k:Nat}(r:Rl K G L M H)(hk:L[k]? =!a):Ex G L H G L (upd H a o) where
 g:=.refl _
 l:=.refl _
 fr:=λb h1 _=>h1
 out:=λb u h1 h2=>by rw[Ρ (λz=>h2 (by rw[z];show aap hk))];show h1
 new:=λb h=>.inl h
 Gf:=λb h=>by
  by_cases e:b=a
  .rw[e,av];simp
  .rw[Ρ e];show h
end
structure mP(K:fI)(G:Hp)(L:List Addr)(ρ:En)(σ:St):Prop where
 len:-ρ=-σ
 fK:∀(i:Nat) (d:Dt),ρ[i]? =!(!d)->∃v,σ[i]? =!(!v)/\Den K G L d v
section
variable{K:fI}{G G':Hp}{L L':List Addr}{H H':Hp}{ρ:En}{σ:St}
def mP.mono(h:mP K G L ρ σ)(e:Ex G L H G' L' H'):mP K G' L' ρ σ:=(h.len,λi d q=>let (v,a,b):=h.fK i d q;(v,a,Den.mono e.g e.l d v b))
def mP.set(h:mP K G L ρ σ)(i:Nat)(q:Den K G L d v):mP K G L (ρ.set i (!d)) (σ.set i (!v)):=by
 show(by rw[abW,abW];show h.len,λj d' e=>?_);by_cases hj:i=j
 .subst hj;let hl:i < -ρ:=by have:=(aai.mp e).1;rwa[abW]at this
  rw[abc hl]at e;cases e;show(v,abc (by rw[<-h.len];show hl),q)
 .rw[abi hj]at e;let(u,a,b):=h.fK j d' e;show(u,by rw[abi hj];show a,b)
end
abbrev DQ:=Dt->Ms->Prop
abbrev DX:=En->Addr->List (Str×Dt)->Ms->Prop
def Uy(K:fI)(G:Hp)(L:List Addr)(H:Hp)(fs:List (Str×Dt))(od:Option Addr):Prop:=
 (fs=[]/\od=none)\/fs≠[]/\∃dx vs,od=!dx/\G dx=!(.xd ((fs.map (·.1)).zip vs))/\Τ K G L (fs.map (·.2)) vs
def wg(K:fI)(G:Hp)(L:List Addr)(H:Hp)(R:St->XK)(x:DX):Prop:=
 ∀σ ρ C fs M' G' L' H' od,x ρ C fs M'->Ex G L H G' L' H'->Rl K G' L' M' H'->mP K G' L' ρ σ->Uy K G' L' H' fs od->R σ (.ref C) od H'
def wg.on{K:fI}{H:Hp}(h:wg K G L H R x)(e:Ex G L H G1 L1 H1):wg K G1 L1 H1 R x:=
 λσ ρ C fs M' G' L' H' od q e' r n y=>h σ ρ C fs M' G' L' H' od q (e.trans e') r n y
def mD:DX:=λ_ _ _ _=>False
def KJ{K:fI}{H:Hp}:wg K G L H R mD:=λ_ _ _ _ _ _ _ _ _ q=>q.elim
abbrev DE:=En->Ms->DQ->DX->Prop
abbrev DT:=En->Ms->(Bool->Ms->Prop)->DX->Prop
abbrev DA:=En->Ms->(List Dt->Ms->Prop)->DX->Prop
structure mH where
 nx:En->Ms->Prop
 rt:DQ
 bk:En->Ms->Prop:=λ_ _=>False
 ct:En->Ms->Prop:=λ_ _=>False
 x:DX:=mD
abbrev DS:=mH->En->Ms->Prop
inductive Fin(K:fI)(G0:Hp)(L0:List Addr)(H0:Hp)(q:DQ)(v:V)(H:Hp):Prop
 | mk (d:Dt) (G:Hp) (L:List Addr) (M:Ms) (e:Ex G0 L0 H0 G L H) (r:Rl K G L M H) (n:Den K G L d v) (h:q d M)
inductive wI(K:fI)(G0:Hp)(L0:List Addr)(H0:Hp)(q:Bool->Ms->Prop)(b:Bool)(H:Hp):Prop
 | mk (G:Hp) (L:List Addr) (M:Ms) (e:Ex G0 L0 H0 G L H) (r:Rl K G L M H) (h:q b M)
inductive PY(K:fI)(G0:Hp)(L0:List Addr)(H0:Hp)(q:List Dt->Ms->Prop)(vs:List V)(H:Hp):Prop
 | mk (ds:List Dt) (G:Hp) (L:List Addr) (M:Ms) (e:Ex G0 L0 H0 G L H) (r:Rl K G L M H) (n:Τ K G L ds vs) (h:q ds M)
inductive fH(K:fI)(G0:Hp)(L0:List Addr)(H0:Hp)(q:En->Ms->Prop)(σ:St)(H:Hp):Prop
 | mk (ρ:En) (G:Hp) (L:List Addr) (M:Ms) (e:Ex G0 L0 H0 G L H) (r:Rl K G L M H) (n:mP K G L ρ σ) (h:q ρ M)
def v_(K:fI)(G0:Hp)(L0:List Addr)(H0:Hp)(Dn:mH):AD:=(fH K G0 L0 H0 Dn.nx,Fin K G0 L0 H0 Dn.rt,fH K G0 L0 H0 Dn.bk,fH K G0 L0 H0 Dn.ct)
inductive zh(K:fI)(R:St->XK)(t:DE)(σ:St)(H:Hp)(Q:VK):Prop
 | mk (G:Hp) (L:List Addr) (ρ:En) (M:Ms) (q:DQ) (x:DX) (r:Rl K G L M H) (n:mP K G L ρ σ) (h:t ρ M q x) (hx:wg K G L H R x) (hQ:∀v H1,Fin K G L H q v H1->Q v H1)
inductive EG(K:fI)(R:St->XK)(t:DT)(σ:St)(H:Hp)(Q:Bool->Hp->Prop):Prop
 | mk (G:Hp) (L:List Addr) (ρ:En) (M:Ms) (q:Bool->Ms->Prop) (x:DX) (r:Rl K G L M H) (n:mP K G L ρ σ) (h:t ρ M q x) (hx:wg K G L H R x) (hQ:∀b H1,wI K G L H q b H1->Q b H1)
inductive Vx(K:fI)(R:St->XK)(t:DA)(σ:St)(H:Hp)(Q:List V->Hp->Prop):Prop
 | mk (G:Hp) (L:List Addr) (ρ:En) (M:Ms) (q:List Dt->Ms->Prop) (x:DX) (r:Rl K G L M H) (n:mP K G L ρ σ) (h:t ρ M q x) (hx:wg K G L H R x) (hQ:∀vs H1,PY K G L H q vs H1->Q vs H1)
structure Rp(A B:AD):Prop where
 nx:∀σ H,A.nx σ H->B.nx σ H
 rt:∀v H,A.rt v H->B.rt v H
 bk:∀σ H,A.bk σ H->B.bk σ H
 ct:∀σ H,A.ct σ H->B.ct σ H
inductive Vm(K:fI)(R:St->XK)(t:DS)(De:AD)(σ:St)(H:Hp):Prop
 | mk (G:Hp) (L:List Addr) (ρ:En) (M:Ms) (Dn:mH) (r:Rl K G L M H) (n:mP K G L ρ σ) (h:t Dn ρ M) (hx:wg K G L H R Dn.x) (hQ:Rp (v_ K G L H Dn) De)
def JE(X:Cx)(R:St->XK)(e:Expr)(t:DE):Prop:=PE X e (zh X.K R t)
def JT(X:Cx)(R:St->XK)(e:Expr)(t:DT):Prop:=PT X e (EG X.K R t)
def JW(X:Cx)(R:St->XK)(e:Expr)(t:DT):Prop:=PW X e (EG X.K R t)
def JA(X:Cx)(R:St->XK)(es:List Expr)(t:DA):Prop:=PA X es (Vx X.K R t)
def JS(X:Cx)(R:St->XK)(st:Stmt)(t:DS):Prop:=PS X st (Vm X.K R t)
def DZ(X:Cx)(R:St->XK)(st:List Stmt)(t:DS):Prop:=Jx X st (Vm X.K R t)
section
variable{K:fI}{G0:Hp}{L0:List Addr}{H0 G1:Hp}{L1:List Addr}{H1:Hp}
def Fin.back{q:DQ}(e:Ex G0 L0 H0 G1 L1 H1){H:Hp}(h:Fin K G1 L1 H1 q v H):Fin K G0 L0 H0 q v H:=let (d,G,L,M,a,b,c,f):=h;(d,G,L,M,e.trans a,b,c,f)
def fH.back{q:En->Ms->Prop}(e:Ex G0 L0 H0 G1 L1 H1){H:Hp}(h:fH K G1 L1 H1 q v H):fH K G0 L0 H0 q v H:=let (d,G,L,M,a,b,c,f):=h;(d,G,L,M,e.trans a,b,c,f)
def wI.back{q:Bool->Ms->Prop}(e:Ex G0 L0 H0 G1 L1 H1){H:Hp}(h:wI K G1 L1 H1 q v H):wI K G0 L0 H0 q v H:=let (G,L,M,a,b,f):=h;(G,L,M,e.trans a,b,f)
def v_.back(e:Ex G0 L0 H0 G1 L1 H1):Rp (v_ K G1 L1 H1 Dn) (v_ K G0 L0 H0 Dn):=(λ_ _ h=>fH.back e h,λ_ _ h=>Fin.back e h,λ_ _ h=>fH.back e h,λ_ _ h=>fH.back e h)
def SP.imp(e:Rp A B)(h:SP X η A f s):SP X η B f s:=by
 cases f with
 | next=>let(a,b,I,q):=h;show(a,b,I,e.nx _ _ q)
 | brk=>let(a,b,I,q):=h;show(a,b,I,e.bk _ _ q)
 | cont=>let(a,b,I,q):=h;show(a,b,I,e.ct _ _ q)
 | ret u=>let(v,a,b,I,r,q):=h;show(v,a,b,I,r,e.rt _ _ q)
end
section
variable{X:Cx}{R:St->XK}{e:Expr}
def JE.of{t:DE}(h:PE X e te)(hw:∀σ H G L ρ M q x,Rl X.K G L M H->mP X.K G L ρ σ->t ρ M q x->wg X.K G L H R x->te σ H (Fin X.K G L H q)):JE X R e t:=by intro η s σ H Q I ⟨G,L,ρ,M,q,x,r,n,ht,hx,hQ⟩;show bG (h η s σ H _ I (hw σ H G L ρ M q x r n ht hx)) λu s1 (v,H1,I1,rv,f)=>(v,H1,I1,rv,hQ v H1 f)
def JT.of{t:DT}(h:PT X e te)(hw:∀σ H G L ρ M q x,Rl X.K G L M H->mP X.K G L ρ σ->t ρ M q x->wg X.K G L H R x->te σ H (wI X.K G L H q)):JT X R e t:=by intro η s σ H Q I ⟨G,L,ρ,M,q,x,r,n,ht,hx,hQ⟩;show bG (h η s σ H _ I (hw σ H G L ρ M q x r n ht hx)) λu s1 (H1,I1,f)=>(H1,I1,hQ u H1 f)
def JW.of{t:DT}(h:PW X e te)(hw:∀σ H G L ρ M q x,Rl X.K G L M H->mP X.K G L ρ σ->t ρ M q x->wg X.K G L H R x->te σ H (wI X.K G L H q)):JW X R e t:=by intro wh η s σ H Q I ⟨G,L,ρ,M,q,x,r,n,ht,hx,hQ⟩;show bG (h wh η s σ H _ I (hw σ H G L ρ M q x r n ht hx)) λu s1 (H1,I1,f)=>(H1,I1,hQ u H1 f)
def JA.of{t:DA}(h:PA X es te)(hw:∀σ H G L ρ M q x,Rl X.K G L M H->mP X.K G L ρ σ->t ρ M q x->wg X.K G L H R x->te σ H (PY X.K G L H q)):JA X R es t:=by intro pos η s σ H Q I ⟨G,L,ρ,M,q,x,r,n,ht,hx,hQ⟩;show bG (h pos η s σ H _ I (hw σ H G L ρ M q x r n ht hx)) λu s1 (v,H1,I1,rv,f)=>(v,H1,I1,rv,hQ v H1 f)
def JS.of{st:Stmt}{t:DS}(h:PS X st te)(hw:∀σ H G L ρ M Dn,Rl X.K G L M H->mP X.K G L ρ σ->t Dn ρ M->wg X.K G L H R Dn.x->te (v_ X.K G L H Dn) σ H):JS X R st t:=by intro η s σ H De I ⟨G,L,ρ,M,Dn,r,n,ht,hx,hQ⟩;show bG (h η s σ H _ I (hw σ H G L ρ M Dn r n ht hx)) λu s1 f=>SP.imp hQ f
def DZ.of{st:List Stmt}{t:DS}(h:Jx X st te)(hw:∀σ H G L ρ M Dn,Rl X.K G L M H->mP X.K G L ρ σ->t Dn ρ M->wg X.K G L H R Dn.x->te (v_ X.K G L H Dn) σ H):DZ X R st t:=by intro η s σ H De I ⟨G,L,ρ,M,Dn,r,n,ht,hx,hQ⟩;show bG (h η s σ H _ I (hw σ H G L ρ M Dn r n ht hx)) λu s1 f=>SP.imp hQ f
end
def EZ(i:Nat):DE:=λρ M q _=>match ρ[i]? with
 | some (!d)=>q d M
 | _=>False
def dC(d:Dt):DE:=λ_ M q _=>q d M
def ju(f:Dt->Dt->Ms->DQ->Prop)(a b:DE):DE:=λρ M q x=>a ρ M (λd1 M1=>b ρ M1 (λd2 M2=>f d1 d2 M2 q) x) x
def XX(f:Dt->Ms->DQ->Prop)(a:DE):DE:=λρ M q x=>a ρ M (λd1 M1=>f d1 M1 q) x
def Ts:DA:=λ_ M q _=>q [] M
def Nd(a:DE)(r:DA):DA:=λρ M q x=>a ρ M (λd M1=>r ρ M1 (λds M2=>q (d::ds) M2) x) x
def C4(f:List Dt->Ms->DQ->Prop)(a:DA):DE:=λρ M q x=>a ρ M (λds M1=>f ds M1 q) x
def mO(K:fI)(r:R2)(f:Dt->Dt->Ms->DQ->Prop):Prop:=
 ∀G0 L0 H0 G L M H v1 v2 d1 d2 q,Ex G0 L0 H0 G L H->Rl K G L M H->Den K G L d1 v1->Den K G L d2 v2->f d1 d2 M q->r v1 v2 H (Fin K G0 L0 H0 q)
def UnD(K:fI)(r:V->Hp->VK->Prop)(f:Dt->Ms->DQ->Prop):Prop:=
 ∀G0 L0 H0 G L M H v1 d1 q,Ex G0 L0 H0 G L H->Rl K G L M H->Den K G L d1 v1->f d1 M q->r v1 H (Fin K G0 L0 H0 q)
def EC(K:fI)(r:List V->Hp->VK->Prop)(f:List Dt->Ms->DQ->Prop):Prop:=
 ∀G0 L0 H0 G L M H vs ds q,Ex G0 L0 H0 G L H->Rl K G L M H->Τ K G L ds vs->f ds M q->r vs H (Fin K G0 L0 H0 q)
section
variable{K:fI}{R:St->XK}{ta tb:DE}{tc:DA}{σ:St}{H G:Hp}{L:List Addr}{ρ:En}{M:Ms}{q:DQ}{x:DX}
def DP(od:mO K r f)(rl:Rl K G L M H)(n:mP K G L ρ σ)(h:ju f ta tb ρ M q x)(hx:wg K G L H R x):Xi r (zh K R ta) (zh K R tb) σ H (Fin K G L H q):=by show(G,L,ρ,M,_,x,rl,n,h,hx,λv H1 xz=>?_);let(d1,G1,L1,M1,e1,r1,n1,h1):=xz;show(G1,L1,ρ,M1,_,x,r1,n.mono e1,h1,hx.on e1,λv2 H2 xz=>?_);let(d2,G2,L2,M2,e2,r2,n2,h2):=xz;show od G L H G2 L2 M2 H2 v v2 d1 d2 q (e1.trans e2) r2 (Den.mono e2.g e2.l _ _ n1) n2 h2
def Vs(od:UnD K r f)(rl:Rl K G L M H)(n:mP K G L ρ σ)(h:XX f ta ρ M q x)(hx:wg K G L H R x):tUn r (zh K R ta) σ H (Fin K G L H q):=by show(G,L,ρ,M,_,x,rl,n,h,hx,λv H1 xz=>?_);let(d1,G1,L1,M1,e1,r1,n1,h1):=xz;show od G L H G1 L1 M1 H1 v d1 q e1 r1 n1 h1
def Qq(od:EC K r f)(rl:Rl K G L M H)(n:mP K G L ρ σ)(h:C4 f tc ρ M q x)(hx:wg K G L H R x):tCB r (Vx K R tc) σ H (Fin K G L H q):=by show(G,L,ρ,M,_,x,rl,n,h,hx,λv H1 xz=>?_);let(d1,G1,L1,M1,e1,r1,n1,h1):=xz;show od G L H G1 L1 M1 H1 v d1 q e1 r1 n1 h1
end
section
variable{X:Cx}{R:St->XK}{a b c:Expr}{ta tb:DE}{pos:Pos}
noncomputable def jv(i:Nat){pos:Pos}(hN:X.N[i]? =!x|>1)(hv:Vis X.env.scope x:=by first| exact Or.inl rfl| exact Or.inr (Or.inl rfl)| exact Or.inr (Or.inr rfl))(hd:(x==("__debug__":Str))=false|>2)
  (D1:(x==("__classdict__":Str))=false|>2):JE X R (.Name x pos) (EZ i):=.of (SI hN hv hd D1) λσ H G L ρ M q x r n h hx=>by
 unfold EZ at h;split at h
 .rename_i d e;let(v,e1,h1):=n.fK i d e;show(v,e1,d,G,L,M,.refl _ _ _,r,h1,h)
 .show h.elim
set_option tactic.hygienic false
def RI(h:PE X e (tC v))(hd:∀G L,Den X.K G L d v):JE X R e (dC d):=.of h λσ H G L ρ M q x r n h hx=>(d,G,L,M,.refl _ _ _,r,hd G L,h)
def ξ{i j pos}:JE X R (.Constant (.int i) j pos) (dC (.int i)):=RI Sj λ_ _=>rfl
def wL{b j pos}:JE X R (.Constant (.bool b) j pos) (dC (.bl b)):=RI VI λ_ _=>rfl
def Ie{j pos}:JE X R (.Constant .none j pos) (dC .bc):=RI S6 λ_ _=>rfl
def g8{x j pos}:JE X R (.Constant (.str x) j pos) (dC (.str x)):=RI Sb λ_ _=>rfl
def Ae(ho:jM X (binaryOp op) r)(od:mO X.K r f)(ja:JE X R a ta)(jb:JE X R b tb):JE X R (.BinOp a op b pos) (ju f ta tb):=
 .of (V' ho ja jb) λσ H G L ρ M q x r n h hx=>DP od r n h hx
def YI(ho:XW X (unaryOp op) r)(od:UnD X.K r f)(ja:JE X R a ta):JE X R (.UnaryOp op a pos) (XX f ta):=
 .of (Vn ho ja) λσ H G L ρ M q x r n h hx=>Vs od r n h hx
def pD(ho:jM X (compareOp op) r)(od:mO X.K r f)(ja:JE X R a ta)(jb:JE X R b tb)(hm:behindInMarks op b=false):JE X R (.Compare a [op] [b] pos) (ju f ta tb):=
 .of (N5 ho ja jb hm) λσ H G L ρ M q x r n h hx=>DP od r n h hx
def Wz(hr:Nw X r)(od:mO X.K r f)(ja:JE X R a ta)(jb:JE X R b tb)(hs:zu b):JE X R (.Subscript a b pos) (ju f ta tb):=
 .of (V5 hr ja jb hs) λσ H G L ρ M q x r n h hx=>DP od r n h hx
def dG{es:List Expr}{c j p}:starEach (.Constant c j p::es) env=(false, eval (.Constant c j p) env)::starEach es env:=rfl
def Qb{es:List Expr}{c p}:starEach (.Name c p::es) env=(false, eval (.Name c p) env)::starEach es env:=rfl
def bJ{es:List Expr}{a o b p}:starEach (.BinOp a o b p::es) env=(false, eval (.BinOp a o b p) env)::starEach es env:=rfl
def aX{es:List Expr}{a b c p}:starEach (.Call a b c p::es) env=(false, eval (.Call a b c p) env)::starEach es env:=rfl
def aw{es:List Expr}{a b p}:starEach (.Subscript a b p::es) env=(false, eval (.Subscript a b p) env)::starEach es env:=rfl
def GY{es:List Expr}{a b p}:starEach (.Tuple a b p::es) env=(false, eval (.Tuple a b p) env)::starEach es env:=rfl
def CH{es:List Expr}{a o b p}:starEach (.Compare a o b p::es) env=(false, eval (.Compare a o b p) env)::starEach es env:=rfl
def θ:JA X R [] Ts:=.of Rj λσ H G L ρ M q x r n h hx=>([],G,L,M,.refl _ _ _,r,rfl,h)
noncomputable def ι(ha:JE X R e te)(hr:JA X R es t)(hs:starEach (e::es) X.env=(false, eval e X.env)::starEach es X.env:=by first| exact dG| exact Qb| exact bJ| exact aX| exact aw| exact GY| exact CH| exact adv| rfl):JA X R (e::es) (Nd te t):=
 .of (NT ha hr hs) λσ H G L ρ M q x rl n h hx=>by show(G,L,ρ,M,_,x,rl,n,h,hx,λv H1 xz=>?_);let(d1,G1,L1,M1,e1,r1,n1,h1):=xz;show(G1,L1,ρ,M1,_,x,r1,n.mono e1,h1,hx.on e1,λv2 H2 xz=>?_);let(d2,G2,L2,M2,e2,r2,n2,h2):=xz;show(d1::d2,G2,L2,M2,e1.trans e2,r2,(_,_,rfl,Den.mono e2.g e2.l _ _ n1,n2),h2)
def Ν{c:Str}(ha:JE X R (.Name c p) te)(hr:JA X R es t):JA X R (.Name c p::es) (Nd te t):=ι ha hr Qb
def UQ(t:DA):DE:=λρ M q x=>t ρ M (λds M1=>-ds<=sizeLine/\q (.tup ds) M1) x
def Vd(t:DA):DE:=λρ M q x=>t ρ M (λds M1=>-ds<=sizeLine/\q (.lst ds) M1) x
def G6(t:DA):DE:=λρ M q x=>t ρ M (λds M1=>-ds<=sizeLine/\q (.loc (-M1)) (M1++[.lst ds])) x
def lX{K:fI}{H:Hp}{q:DQ}(e:Ex G0 L0 H0 G L H)(r:Rl K G L M H)(hp:H p=none)(hd:Den K (upd G p o) L d (.ref p))(h:q d M):Fin K G0 L0 H0 q (.ref p) (upd H p o):=
 (d,upd G p o,L,M,e.trans (r.Ud hp),r.Pp hp,hd,h)
def sT{K:fI}{H:Hp}(r:Rl K G L M H)(hp:H p=none)(h:Τ K G L ds vs):Den K (upd G p (.tup vs)) L (.tup ds) (.ref p):=
 (p,vs,rfl,av,Τ.mono (r.Ud hp).g (.refl _) _ _ h)
def sL{K:fI}{H:Hp}(r:Rl K G L M H)(hp:H p=none)(h:Τ K G L ds vs):Den K (upd G p (.lst vs)) L (.lst ds) (.ref p):=
 (p,vs,rfl,av,Τ.mono (r.Ud hp).g (.refl _) _ _ h)
def kD{K:fI}{H:Hp}{q:DQ}(e:Ex G0 L0 H0 G L H)(r:Rl K G L M H)(hp:H p=none)(hd:Τ K G L ds vs)(h:q (.loc (-M)) (M++[.lst ds])):Fin K G0 L0 H0 q (.ref p) (upd H p (.lst vs)):=
 (.loc (-M),G,L++[p],M++[.lst ds],e.trans (r.XI hp),r.NH (m:=.lst ds) hp (vs,av,Τ.mono (.refl _) ([p],rfl) _ _ hd),(p,rfl,by rw[<-r.len,List.getElem?_append_right (Nat.le_refl _)];simp),h)
set_option tactic.hygienic true
variable{es:List Expr}{t:DA}
def fe{x1}(h:JA X R es t):JE X R (.Tuple es x1 pos) (UQ t):=.of (Sd h) λσ H G L ρ M q x rl n h hx=>by show(G,L,ρ,M,_,x,rl,n,h,hx,fun v H1 (d1,G1,L1,M1,e1,r1,n1,h1)=>(by rw[<--n1];show h1.1,λp hp=>?_));show lX e1 r1 hp (sT r1 hp n1) h1.2
def kK(h:JA X R es t):JE X R (.List es pos) (Vd t):=.of (MG h) λσ H G L ρ M q x rl n h hx=>by show(G,L,ρ,M,_,x,rl,n,h,hx,fun v H1 (d1,G1,L1,M1,e1,r1,n1,h1)=>(by rw[<--n1];show h1.1,λp hp=>?_));show lX e1 r1 hp (sL r1 hp n1) h1.2
def i7(h:JA X R es t):JE X R (.List es pos) (G6 t):=.of (MG h) λσ H G L ρ M q x rl n h hx=>by show(G,L,ρ,M,_,x,rl,n,h,hx,fun v H1 (d1,G1,L1,M1,e1,r1,n1,h1)=>(by rw[<--n1];show h1.1,λp hp=>?_));show kD e1 r1 hp n1 h1.2
def kM(t:DE):DT:=λρ M q x=>t ρ M (λd M1=>match d with
 | .bl b=>q b M1
 | _=>False) x
def W6(t u:DT):DT:=λρ M q x=>t ρ M (λc M1=>(c=true->u ρ M1 q x)/\(c=false->q false M1)) x
def orT(t u:DT):DT:=λρ M q x=>t ρ M (λc M1=>(c=true->q true M1)/\(c=false->u ρ M1 q x)) x
def Wo(t:DT):DT:=λρ M q x=>t ρ M (λc M1=>q (! c) M1) x
def Ro{K:fI}{t:DE}{H:Hp}{q:Bool->Ms->Prop}(rl:Rl K G L M H)(n:mP K G L ρ σ)(h:kM t ρ M q x)(hx:wg K G L H R x):tB (zh K R t) σ H (wI K G L H q):=by
 show(G,L,ρ,M,_,x,rl,n,h,hx,λv H1 xz=>?_);let(d1,G1,L1,M1,e1,r1,n1,h1):=xz
 (try dsimp only at h1)
 split at h1
 .rename_i b;show(b,n1,G1,L1,M1,e1,r1,h1)
 .show h1.elim
def ba{t:DE}(h:JE X R e t)(he:(∀whole,isTrue e X.env whole=(do let  v<-whole;standAt e.pos;holding [v] (truthy v)))|>3):JT X R e (kM t):=
 .of (Sv h he) λσ H G L ρ M q x rl n h hx=>Ro rl n h hx
def fm(ho:jM X (compareOp op) r)(od:mO X.K r f)(ja:JE X R a ta)(jb:JE X R b tb)(hm:behindInMarks op b=false):JT X R (.Compare a [op] [b] pos) (kM (ju f ta tb)):=
 .of (NS ho ja jb hm) λσ H G L ρ M q x rl n h hx=>by
  let h:ju f ta tb ρ M (λd M1=>match d with| .bl b=>q b M1| _=>False) x:=h;show(G,L,ρ,M,_,x,rl,n,h,hx,λv H1 xz=>?_);let(d1,G1,L1,M1,e1,r1,n1,h1):=xz;show(G1,L1,ρ,M1,_,x,r1,n.mono e1,h1,hx.on e1,λv2 H2 xz=>?_);let(d2,G2,L2,M2,e2,r2,n2,h2):=xz;have:=od G L H G2 L2 M2 H2 v v2 d1 d2 _ (e1.trans e2) r2 (Den.mono e2.g e2.l _ _ n1) n2 h2;let e:(λx H'=>∃k,x=V.bl k/\wI X.K G L H q k H')=Fin X.K G L H (λd M1=>match d with| .bl b=>q b M1| _=>False):=by
   funext y H'
   apply propext;constructor
   .rintro⟨k,rfl,G3,L3,M3,e3,r3,h3⟩;show(.bl k,G3,L3,M3,e3,r3,rfl,h3)
   .rintro⟨d,G3,L3,M3,e3,r3,n3,h3⟩;split at h3
    .rename_i k;show(k,n3,G3,L3,M3,e3,r3,h3)
    .show h3.elim
  rw[e];show this
def JW.jt{t:DT}(h:JW X R e t):JT X R e t:=h _
variable{t1 t2:DT}{rest:List Expr}
def sR(ha:JT X R a t1):JW X R (.BoolOp .And [a] pos) t1:=pw_and1 ha
def fk(ha:JT X R a t1):JW X R (.BoolOp .Or [a] pos) t1:=pw_or1 ha
def yp(ha:JT X R a t1)(hb:JW X R (.BoolOp .And (b::rest) pos) t2):JW X R (.BoolOp .And (a::b::rest) pos) (W6 t1 t2):=.of (pw_and ha hb) λσ H G L ρ M q x rl n h hx=>by
 show(G,L,ρ,M,_,x,rl,n,h,hx,λc H1 xz=>?_);let(G1,L1,M1,e1,r1,h1):=xz;cases c with
 | true=>show Hr (G1,L1,ρ,M1,_,x,r1,n.mono e1,h1.1 rfl,hx.on e1,λb H2 f=>wI.back e1 f)
 | false=>show HR (G1,L1,M1,e1,r1,h1.2 rfl)
def e_(ha:JT X R a t1)(hb:JW X R (.BoolOp .Or (b::rest) pos) t2):JW X R (.BoolOp .Or (a::b::rest) pos) (orT t1 t2):=.of (pw_or ha hb) λσ H G L ρ M q x rl n h hx=>by
 show(G,L,ρ,M,_,x,rl,n,h,hx,λc H1 xz=>?_);let(G1,L1,M1,e1,r1,h1):=xz;cases c with
 | true=>show Hr (G1,L1,M1,e1,r1,h1.1 rfl)
 | false=>show HR (G1,L1,ρ,M1,_,x,r1,n.mono e1,h1.2 rfl,hx.on e1,λb H2 f=>wI.back e1 f)
def cG(ha:JT X R a t1):JT X R (.UnaryOp .Not a pos) (Wo t1):=.of (TN ha) λσ H G L ρ M q x rl n h hx=>
 (G,L,ρ,M,_,x,rl,n,h,hx,λ_ _ (G,L,M,e,r,h)=>(G,L,M,e,r,h))
def Va(t u:DE):DE:=λρ M q x=>t ρ M (λd M1=>match d with
 | .bl c=>(c=true->u ρ M1 q x)/\(c=false->q (.bl false) M1)
 | _=>False) x
def Vf(t:DE):DE:=λρ M q x=>t ρ M (λd M1=>match d with
 | .bl c=>q (.bl (! c)) M1
 | _=>False) x
def dIf(t:DT)(u v:DE):DE:=λρ M q x=>t ρ M (λc M1=>(c=true->u ρ M1 q x)/\(c=false->v ρ M1 q x)) x
def kz{op}{t:DE}(h:JE X R a t):JE X R (.BoolOp op [a] pos) t:=Q2 h
def gU(ha:JE X R a ta)(hb:JE X R (.BoolOp .And (b::rest) pos) tb):JE X R (.BoolOp .And (a::b::rest) pos) (Va ta tb):=.of (Rq ha hb) λσ H G L ρ M q x rl n h hx=>by
 show(G,L,ρ,M,_,x,rl,n,h,hx,λv H1 xz=>?_);let(d1,G1,L1,M1,e1,r1,n1,h1):=xz
 (try dsimp only at h1)
 split at h1
 .rename_i c;show(c,n1,?_);cases c with
  | true=>show Hr (G1,L1,ρ,M1,_,x,r1,n.mono e1,h1.1 rfl,hx.on e1,λb H2 f=>Fin.back e1 f)
  | false=>show HR (.bl false,G1,L1,M1,e1,r1,rfl,h1.2 rfl)
 .show h1.elim
def SW(ha:JE X R a ta):JE X R (.UnaryOp .Not a pos) (Vf ta):=.of (T3 ha) λσ H G L ρ M q x rl n h hx=>by
 show(G,L,ρ,M,_,x,rl,n,h,hx,λv H1 xz=>?_);let(d1,G1,L1,M1,e1,r1,n1,h1):=xz
 (try dsimp only at h1)
 split at h1
 .rename_i c;show(c,n1,.bl (! c),G1,L1,M1,e1,r1,rfl,h1)
 .show h1.elim
def xo{c:Expr}(hc:JT X R c t1)(ha:JE X R a ta)(hb:JE X R b tb):JE X R (.IfExp c a b pos) (dIf t1 ta tb):=.of (Mq hc ha hb) λσ H G L ρ M q x rl n h hx=>by
 show(G,L,ρ,M,_,x,rl,n,h,hx,λc H1 xz=>?_);let(G1,L1,M1,e1,r1,h1):=xz;cases c with
 | true=>show Hr (G1,L1,ρ,M1,_,x,r1,n.mono e1,h1.1 rfl,hx.on e1,λb H2 f=>Fin.back e1 f)
 | false=>show HR (G1,L1,ρ,M1,_,x,r1,n.mono e1,h1.2 rfl,hx.on e1,λb H2 f=>Fin.back e1 f)
end
def Qf:DS:=λDn ρ M=>Dn.nx ρ M
def UW(t u:DS):DS:=λDn ρ M=>t {Dn with nx:=u Dn} ρ M
def sIf(c:DT)(t u:DS):DS:=λDn ρ M=>c ρ M (λb M1=>(b=true->t Dn ρ M1)/\(b=false->u Dn ρ M1)) Dn.x
def WR(t:DE):DS:=λDn ρ M=>t ρ M Dn.rt Dn.x
def OP(i:Nat)(t:DE):DS:=λDn ρ M=>t ρ M (λd M1=>Dn.nx (ρ.set i (!d)) M1) Dn.x
def KH(t:DE):DS:=λDn ρ M=>t ρ M (λ_ M1=>Dn.nx ρ M1) Dn.x
def ZQ(t:DS):DS:=λDn ρ M=>∃J:En->Ms->Prop,t {Dn with nx:=J} ρ M/\∀ρ' M',J ρ' M'->Dn.nx ρ' M'
section
variable{X:Cx}{R:St->XK}{st:Stmt}{rest:List Stmt}{t u:DS}{e:Expr}{te:DE}{pos:Pos}
def Ι:DZ X R [] Qf:=.of OX λσ H G L ρ M Dn rl n h hx=>(ρ,G,L,M,.refl _ _ _,rl,n,h)
def μ(h1:JS X R st t):DZ X R [st] t:=NJ h1
def ζ(h1:JS X R st t)(h2:DZ X R rest u):DZ X R (st::rest) (UW t u):=.of (MJ h1 h2) λσ H G L ρ M Dn rl n h hx=>by show(G,L,ρ,M,_,rl,n,h,hx,(λσ1 H1 xz=>?_,λ_ _ f=>f,λ_ _ f=>f,λ_ _ f=>f));let(ρ1,G1,L1,M1,e1,r1,n1,h1):=xz;show(G1,L1,ρ1,M1,Dn,r1,n1,h1,hx.on e1,v_.back e1)
def sf:JS X R (.Continue pos) (λDn ρ M=>Dn.ct ρ M):=.of Bl λσ H G L ρ M Dn rl n h hx=>(ρ,G,L,M,.refl _ _ _,rl,n,h)
def ψ(he:JE X R e te):JS X R (.Return (!e) pos) (WR te):=.of (S9 he) λσ H G L ρ M Dn rl n h hx=>(G,L,ρ,M,_,_,rl,n,h,hx,λ_ _ f=>f)
def eI(he:JE X R e te)(hs:swapsWith e none pos.line X.env=pure false|>1):JS X R (.Expr e pos) (KH te):=.of (OA he hs) λσ H G L ρ M Dn rl n h hx=>by show(G,L,ρ,M,_,_,rl,n,h,hx,λv H1 (d1,G1,L1,M1,e1,r1,n1,h1)=>(ρ,G1,L1,M1,e1,r1,n.mono e1,h1))
def ah(hc:JT X R c tc)(ha:DZ X R a t)(hb:DZ X R b u):JS X R (.If c a b pos) (sIf tc t u):=.of (U9 hc ha hb) λσ H G L ρ M Dn rl n h hx=>by
 show(G,L,ρ,M,_,_,rl,n,h,hx,λc H1 xz=>?_);let(G1,L1,M1,e1,r1,h1):=xz;cases c with
 | true=>show Hr (G1,L1,ρ,M1,Dn,r1,n.mono e1,h1.1 rfl,hx.on e1,v_.back e1)
 | false=>show HR (G1,L1,ρ,M1,Dn,r1,n.mono e1,h1.2 rfl,hx.on e1,v_.back e1)
noncomputable def χ(i:Nat)(hN:X.N.Nodup)(he:JE X R e te)(hi:X.N[i]? =!x|>1)(hx:Loc X.env.scope x:=by first| exact .inl rfl| exact .inr rfl)(hs:swapsWith e (!(.Name x pos')) pos.line X.env=pure false|>1)(hf:X.fn x=true\/X.env.scope.names.lookup x=some .local:=by first| exact .inl rfl| exact .inr rfl| assumption):
  JS X R (.Assign [.Name x pos'] e pos) (OP i te):=.of (Q3 hN hi hx he hs hf) λσ H G L ρ M Dn rl n h hx=>by
 show(G,L,ρ,M,_,_,rl,n,h,hx,λv H1 (d1,G1,L1,M1,e1,r1,n1,h1)=>(_,G1,L1,M1,e1,r1,(n.mono e1).set i n1,h1))
def ip(h:JS X R st t):JS X R st (ZQ t):=.of h λσ H G L ρ M Dn rl n h hx=>by let(J,h1,h2):=h;show(G,L,ρ,M,_,rl,n,h1,hx,(λσ1 H1 (ρ1,G1,L1,M1,e1,r1,n1,h1)=>(ρ1,G1,L1,M1,e1,r1,n1,h2 _ _ h1),λ_ _ f=>f,λ_ _ f=>f,λ_ _ f=>f))
end
abbrev DXF:=Addr->List (Str×Dt)->Ms->Prop
abbrev DF:=List Dt->Ms->DQ->DXF->Prop
inductive b8(K:fI)(T:DF)(vs:List V)(H:Hp)(Q:VK)(E:XK):Prop
 | mk (G:Hp) (L:List Addr) (ds:List Dt) (M:Ms) (q:DQ) (x:DXF) (r:Rl K G L M H) (n:Τ K G L ds vs) (h:T ds M q x) (hQ:∀v H1,Fin K G L H q v H1->Q v H1) (hE:∀C fs M1 G1 L1 H1 od,x C fs M1->Ex G L H G1 L1 H1->Rl K G1 L1 M1 H1->Uy K G1 L1 H1 fs od->E (.ref C) od H1)
noncomputable def lO(N:List Str)(ds:List Dt):En:=ds.map some++List.replicate (-N - -ds) none
def BL{K:fI}(h:Τ K G L ds vs):mP K G L (lO N ds) (start N vs):=by
 let hl:=-h;show(by unfold lO start;simp[hl],λi d e=>?_);unfold lO at e;unfold start;by_cases hi:i < -ds
 .rw[List.getElem?_append_left (by simpa using hi),List.getElem?_map]at e;rw[List.getElem?_append_left (by simpa [<-hl] using hi),List.getElem?_map];cases q:ds[i]? with
  | none=>rw[q]at e;cases e
  | some d'=>
   rw[q]at e;cases e;let(v,e1,h1):=h.get q;show(v,by rw[e1];rfl,h1)
 .rw[List.getElem?_append_right (by simpa using Nat.le_of_not_lt hi),List.getElem?_replicate]at e;split at e <;> cases e
section
variable{P:Program}{w:World}{K:fI}{mg:Str->Option Value}{base:Heap}
def cz.de{st:Stmt}{k:Nat}{T:DF}(F:cz K x qual st f fd)(S:Δ N ps (τ st))(len:∀ds M q x,T ds M q x->-ds=-ps)
  (tM:∀(aQ:Value) (A:Around) (outer:List Env) (s:Shared) (H:Hp) (E:XK),bI k (A.deeper (envOfC qual (τ st) s.heap.objs.size f aQ))->
   ∃t,DZ (v9 (bO P w) P w K mg base N qual (τ st) f aQ A outer s H E) (λ_=>E) (dY st) t/\∀ds M q x,T ds M q x->t {nx:=λ_ M'=>q .bc M',rt:=q,x:=λ_=>x} (lO N ds) M):
  ao P w K mg base (bO P w) (k+1) f fd ps (b8 K T):=by
 show F.okX S (λvs H Q E h=>?_) (λaQ A outer s H vs Q E hr h=>?_)
 .let(G,L,ds,M,q,x,rl,n,hT,_):=h;rw[<--n];show len _ _ _ _ hT
 .let(t,j,ht):=tM aQ A outer s H E hr;let(G,L,ds,M,q,x,rl,n,hT,hQ,hE):=h;show(_,j,G,L,lO N ds,M,_,rl,BL n,ht ds M q x hT,λσ ρ C fs M' G' L' H' od hx e r _ y=>hE C fs M' G' L' H' od hx e r y,(λσ' H' (ρ',G',L',M',e,r,_,h)=>hQ _ _ (.bc,G',L',M',e,r,rfl,h),λv H' f=>hQ v H' f,λ_ _ (_,_,_,_,_,_,_,h)=>h.elim,λ_ _ (_,_,_,_,_,_,_,h)=>h.elim))
structure aq(P:Program)(w:World)(K:fI)(mg:Str->Option Value)(base:Heap)(k:Nat)(x:Str)(ps:List Str)(T:DF)(f:Addr)(fd:FuncData):Prop where
 ok:ao P w K mg base (bO P w) k f fd ps (b8 K T)
 b:i5 K fd ps []
 m:mg x=!(.ref f)
 kp:PySem.W.keepIn K (.ref f)=true
end
def Qy(T:DF)(t:DA):DE:=λρ M q x=>t ρ M (λds M1=>T ds M1 q (λC fs M'=>x ρ C fs M')) x
section
variable{X:Cx}{R:St->XK}{T:DF}{k k':Nat}{f:Addr}{fd:FuncData}{ps:List Str}{x:Str}{p pos:Pos}{e:Expr}{es:List Expr}{t:DA}
def Φ(C:aq X.prog X.w X.K X.mg X.base k x ps T f fd)(hr:bI k' X.A)(hx:cM (bO X.prog X.w) X R)(ha:JA X R (e::es) t)(hk:k<=k'|>2)(hg:Gl X x|>1)(mw:(x==("__debug__":Str))=false|>2)
  (he:starEach (e::es) X.env=(false, eval e X.env)::starEach es X.env|>1) (f_:(backTo pos (starEach es X.env)).any (·.1)=false|>1):JE X R (.Call (.Name x p) (e::es) [] pos) (Qy T t):=
 .of (CO C.ok (hr.mono hk) hg C.m C.kp C.b .nil hx ha mw he f_) λσ H G L ρ M q x rl n h hx=>by show(G,L,ρ,M,_,x,rl,n,h,hx,λvs H1 xz=>?_);let(ds,G1,L1,M1,e1,r1,n1,h1):=xz;change b8 X.K T (vs++[]) H1 _ _;rw[abw];show(G1,L1,ds,M1,q,_,r1,n1,h1,λv H' f=>Fin.back e1 f,λC fs M' G' L' H' od hq e' r' y=>hx σ ρ C fs M' G' L' H' od hq (e1.trans e') r' (n.mono (e1.trans e')) y)
end
structure Yl(K:fI)(J:It)(xs:List Dt)(G0:Hp)(L0:List Addr):Prop where
 go:∀(i:Nat) G L M H (d:Dt),eU G0 G->Pre L0 L->Rl K G L M H->xs[i]? =!d->J.go i H/\∀v H',J.V8 i H v H'->∃G',Ex G L H G' L H'/\Rl K G' L M H'/\Den K G' L d v
 stop:∀(i:Nat) G L M H,eU G0 G->Pre L0 L->Rl K G L M H->-xs<=i->J.stop i H
inductive Vy(K:fI)(G0:Hp)(L0:List Addr)(H0:Hp)(q:List Dt->Ms->Prop)(J:It)(H:Hp):Prop
 | mk (xs:List Dt) (G:Hp) (L:List Addr) (M:Ms) (e:Ex G0 L0 H0 G L H) (r:Rl K G L M H) (y:Yl K J xs G L) (h:q xs M)
inductive Z6(K:fI)(R:St->XK)(t:DA)(σ:St)(H:Hp)(Q:It->Hp->Prop):Prop
 | mk (G:Hp) (L:List Addr) (ρ:En) (M:Ms) (q:List Dt->Ms->Prop) (x:DX) (r:Rl K G L M H) (n:mP K G L ρ σ) (h:t ρ M q x) (hx:wg K G L H R x) (hQ:∀J H1,Vy K G L H q J H1->Q J H1)
def JI(X:Cx)(R:St->XK)(tg iter:Expr)(t:DA):Prop:=PI X tg iter (Z6 X.K R t)
def ND.imp{R R':It->Hp->Prop}(hR:∀J H,R J H->R' J H)(h:ND X η σ tg R v s):ND X η σ tg R' v s:=by let(it,fp,tn,J,H',a,b,c,d,e,f):=h;show(it,fp,tn,J,H',a,b,c,d,e,hR J H' f)
def FP{K:fI}(h:∀G':Hp,eU G G'->h7 K G' a vs)(n:Τ K G L ds vs):Yl K (XR K a) ds G L where
 go:=λi G1 L1 M1 H1 d g l r e=>by
  let(v,e1,n1):=n.get e;let hs:=h H1 (g.trans r.sub)
  show((vs,v,hs,e1),fun v' H' (eH,y)=>by
   subst eH;let e2:=y vs hs;rw[e1]at e2;cases e2
   show(G1,.refl _ _ _,r,Den.mono g l _ _ n1))
 stop:=λi G1 L1 M1 H1 g l r e=>(vs,h H1 (g.trans r.sub),by rw[<--n];show e)
def Nh{K:fI}(h:∀G':Hp,eU G G'->pH K G' a vs)(n:Τ K G L ds vs):Yl K (Itt K a) ds G L where
 go:=λi G1 L1 M1 H1 d g l r e=>by
  let(v,e1,n1):=n.get e;let hs:=h H1 (g.trans r.sub)
  show((vs,v,hs,e1),fun v' H' (eH,y)=>by
   subst eH;let e2:=y vs hs;rw[e1]at e2;cases e2
   show(G1,.refl _ _ _,r,Den.mono g l _ _ n1))
 stop:=λi G1 L1 M1 H1 g l r e=>(vs,h H1 (g.trans r.sub),by rw[<--n];show e)
def dJ(lo:Int)(n:Nat):List Dt:=(List.range n).map λk:Nat=>Dt.int (lo+(k:Int))
def Nk{K:fI}{lo:Int}:Yl K (Xz lo n) (dJ lo n) G L where
 go :=λi G1 L1 M1 H1 d g l r e=>by
  unfold dJ at e;rw[aas]at e;let hi:i < n:=by
   cases q:(List.range n)[i]? with
   | none=>rw[q]at e;cases e
   | some j=>
    have:=(aai.mp q).1;rwa[abJ]at this
  rw[abB hi]at e;cases e;show(hi,λv' H' (eH,y)=>by subst eH y;show(G1,.refl _ _ _,r,rfl))
 stop:=λi G1 L1 M1 H1 g l r e=>by change n<=i;unfold dJ at e;simpa using e
section
variable{X:Cx}{R:St->XK}{tg iter:Expr}
def JI.of{t:DA}(h:PI X tg iter wi)(hw:∀σ H G L ρ M q x,Rl X.K G L M H->mP X.K G L ρ σ->t ρ M q x->wg X.K G L H R x->wi σ H (Vy X.K G L H q)):JI X R tg iter t:=by intro η s σ H Q I ⟨G,L,ρ,M,q,x,r,n,ht,hx,hQ⟩;show bG (h η s σ H _ I (hw σ H G L ρ M q x r n ht hx)) λu s1 f=>bG f λu2 s2 f2=>ND.imp hQ f2
def UO(t:DA):DA:=λρ M q x=>t ρ M (λds M1=>match ds with
 | [.int j]=>(- (2 ^ 62)<=j/\j < 2 ^ 62)/\q (dJ 0 j.toNat) M1
 | _=>False) x
def bZ{a:Expr}(hm:X.mg "range"=none)(ha:JA X R [a] t)(hg:Gl X "range"|>1)(hs:starEach [a] X.env=[(false, eval a X.env)]|>1):JI X R tg (.Call (.Name "range" p) [a] [] pos) (UO t):=
 .of (IY hg hm ha hs) λσ H G L ρ M q x rl n h hx=>by
  show(G,L,ρ,M,_,x,rl,n,h,hx,λvs H1 xz=>?_);let(ds,G1,L1,M1,e1,r1,n1,h1):=xz
  (try dsimp only at h1)
  split at h1
  .rename_i j;let(v,rfl,n2):=bD n1;let n2:v= .int j:=n2;subst n2;show(j,rfl,h1.1.1,h1.1.2,_,G1,L1,M1,e1,r1,Nk,h1.2)
  .show h1.elim
def ED(t:DA):DA:=λρ M q x=>t ρ M (λds M1=>match ds with
 | [.int i,.int j]=>(- (2 ^ 62)<=i/\i < 2 ^ 62/\ - (2 ^ 62)<=j/\j < 2 ^ 62)/\q (dJ i (j - i).toNat) M1
 | _=>False) x
def x5{a b:Expr}(hm:X.mg "range"=none)(ha:JA X R [a,b] t)(hg:Gl X "range"|>1)(hs:starEach [a,b] X.env=[(false, eval a X.env),(false, eval b X.env)]|>1)(RN:starEach [b] X.env=[(false, eval b X.env)]|>1):
  JI X R tg (.Call (.Name "range" p) [a,b] [] pos) (ED t):=
 .of (ID hg hm ha hs RN) λσ H G L ρ M q x rl n h hx=>by
  show(G,L,ρ,M,_,x,rl,n,h,hx,λvs H1 xz=>?_);let(ds,G1,L1,M1,e1,r1,n1,h1):=xz
  (try dsimp only at h1)
  split at h1
  .rename_i i j;let(v,u,rfl,n3,n2):=gJ n1;let n3:v= .int i:=n3;let n2:u= .int j:=n2;subst n3 n2;show(i,j,rfl,h1.1,_,G1,L1,M1,e1,r1,Nk,h1.2)
  .show h1.elim
end
def GD(K:fI)(gg:TG)(g:Dt->En->(En->Prop)->Prop):Prop:=
 ∀G L M H d v ρ σ (k:En->Prop) (Q:St->Hp->Prop),Rl K G L M H->Den K G L d v->mP K G L ρ σ->g d ρ k->(∀ρ' σ',mP K G L ρ' σ'->k ρ'->Q σ' H)->gg v σ H Q
def gN(i:Nat):Dt->En->(En->Prop)->Prop:=λd ρ k=>k (ρ.set i (!d))
def aB{K:fI}:GD K (jE i) (gN i):=λG L M H d v ρ σ k Q rl n en h hQ=>hQ _ _ (en.set i n) h
def g2(i j:Nat):Dt->En->(En->Prop)->Prop:=λd ρ k=>match d with
 | .tup [a,b]=>k ((ρ.set i (!a)).set j (!b))
 | _=>False
def qL{K:fI}:GD K (MY K 2 (oY (jE i) (oY (jE j) JR))) (g2 i j):=λG L M H d v ρ σ k Q rl n en h hQ=>by
 unfold g2 at h;split at h
 .rename_i a b;let(p,vs,rfl,e,n):=n;let(v1,v2,rfl,n1,n2):=gJ n;show(p,_,rfl,.inl (.inl (rl.sub _ _ e)),rfl,v1,_,rfl,v2,_,rfl,rfl,hQ _ _ ((en.set i n1).set j n2) h)
 .show h.elim
def yj(g:Dt->En->(En->Prop)->Prop)(tb:DS)(Dn:mH):List Dt->En->Ms->Prop
 | [],ρ,M=>Dn.nx ρ M
 | x::xs,ρ,M=>g x ρ λρ'=>tb {Dn with nx:=yj g tb Dn xs,ct:=yj g tb Dn xs,bk:=Dn.nx} ρ' M
def WW(ti:DA)(g:Dt->En->(En->Prop)->Prop)(tb:DS):DS:=λDn ρ M=>ti ρ M (λxs M1=>yj g tb Dn xs ρ M1) Dn.x
section
variable{X:Cx}{R:St->XK}{tg iter:Expr}{body:List Stmt}{ti:DA}{gg:TG}{g:Dt->En->(En->Prop)->Prop}{tb:DS}{pos:Pos}
noncomputable def gT(hi:JI X R tg iter ti)(hg:PG X tg gg)(gd:GD X.K gg g)(hb:DZ X R body tb)(hp:PassesOwn (model X.prog X.w) X.A X.env X.xe:=by first| exact PassesOwn.never| exact PassesOwn.leaving)(hc:X.calm=true|>1)(hs:(∀x,foldedSetIterable iter X.env x=pure x)|>3):
  JS X R (.For tg iter body [] pos) (WW ti g tb):=.of (DJ hp hc hi hg hb hs) λσ H G L ρ M Dn rl n h hx=>by
 show(G,L,ρ,M,_,_,rl,n,h,hx,λJ H1 xz=>?_);let(xs,G1,L1,M1,e1,r1,y,h1):=xz;show(λi m σ' H'=>m+i=-xs/\fH X.K G1 L1 H1 (λρ' M'=>yj g tb Dn (xs.drop i) ρ' M') σ' H',(-xs,rfl,ρ,G1,L1,M1,.refl _ _ _,r1,n.mono e1,by rw[adt];show h1),?_);rintro i m σ' H' ⟨hm,ρ',G',L',M',e',r',n',h'⟩;by_cases hi:i < -xs
 .right;let hd:xs[i]? =!xs[i]:=aaa hi;let(go,yl):=y.go i G' L' M' H' _ e'.g e'.l r' hd;rw[acf hi]at h';show(go,fH X.K G1 L1 H1 (λρ' M'=>yj g tb Dn (xs.drop (i+1)) ρ' M'),λσ2 H2 f=>(m - 1,(),(),f),λv H2 hy=>?_);let(G2,e2,r2,n2):=yl v H2 hy;show gd G2 L' M' H2 _ v ρ' σ' _ _ r2 n2 (n'.mono e2) h' λρ3 σ3 n3 h3=>?_;show(G2,L',ρ3,M',_,r2,n3,h3,hx.on (e1.trans (e'.trans e2)),(λ_ _ f=>fH.back (e'.trans e2) f,λ_ _ f=>Fin.back (e1.trans (e'.trans e2)) f,λ_ _ f=>fH.back (e1.trans (e'.trans e2)) f,λ_ _ f=>fH.back (e'.trans e2) f))
 .left;show(y.stop i G' L' M' H' e'.g e'.l r' (),ρ',G',L',M',e1.trans e',r',n',?_);rw[acW ()]at h';show h'
end
set_option tactic.hygienic false
abbrev DK:=En->Ms->(List Dt->(Ms->Prop)->Ms->Prop)->DX->Prop
structure QN(K:fI)(J:It)(xs:List Dt)(ok:Ms->Prop)(G0:Hp)(L0:List Addr):Prop where
 go:∀(i:Nat) G L M H (d:Dt),eU G0 G->Pre L0 L->Rl K G L M H->ok M->xs[i]? =!d->J.go i H/\∀v H',J.V8 i H v H'->∃G',Ex G L H G' L H'/\Rl K G' L M H'/\Den K G' L d v
 stop:∀(i:Nat) G L M H,eU G0 G->Pre L0 L->Rl K G L M H->ok M->-xs<=i->J.stop i H
inductive aaZ(K:fI)(G0:Hp)(L0:List Addr)(H0:Hp)(q:List Dt->(Ms->Prop)->Ms->Prop)(J:It)(H:Hp):Prop
 | mk (xs:List Dt) (ok:Ms->Prop) (G:Hp) (L:List Addr) (M:Ms) (e:Ex G0 L0 H0 G L H) (r:Rl K G L M H) (y:QN K J xs ok G L) (h:q xs ok M)
inductive ZS(K:fI)(R:St->XK)(t:DK)(σ:St)(H:Hp)(Q:It->Hp->Prop):Prop
 | mk (G:Hp) (L:List Addr) (ρ:En) (M:Ms) (q:List Dt->(Ms->Prop)->Ms->Prop) (x:DX) (r:Rl K G L M H) (n:mP K G L ρ σ) (h:t ρ M q x) (hx:wg K G L H R x) (hQ:∀J H1,aaZ K G L H q J H1->Q J H1)
def JK(X:Cx)(R:St->XK)(tg iter:Expr)(t:DK):Prop:=PI X tg iter (ZS X.K R t)
def kOf(t:DA):DK:=λρ M q x=>t ρ M (λxs M1=>q xs (λ_=>True) M1) x
def Qe(h:JI X R tg iter t):JK X R tg iter (kOf t):=by intro η s σ H Q I ⟨G,L,ρ,M,q,x,r,n,ht,hx,hQ⟩;show h η s σ H Q I (G,L,ρ,M,_,x,r,n,ht,hx,λJ H1 (xs,G1,L1,M1,e1,r1,y,hq)=>hQ J H1 (xs,_,G1,L1,M1,e1,r1,(λi G L M H d g l r _ e=>y.go i G L M H d g l r e,λi G L M H g l r _ e=>y.stop i G L M H g l r e),hq))
def qe(ag:List Nat)(ρ:En):En:=ag.map λi=>(ρ[i]?).join
def jS(g:Dt->En->(En->Prop)->Prop)(tc:DT)(te:DE)(ρ0:En)(ok:Ms->Prop):List Dt->List Dt->Ms->(List Dt->Ms->Prop)->Prop
 | [],Μ,M,k=>ok M/\k Μ M
 | x::xs,Μ,M,k=>ok M/\g x ρ0 λρ'=>tc ρ' M (λb M1=>match b with
  | true=>te ρ' M1 (λd M2=>jS g tc te ρ0 ok xs (Μ++[d]) M2 k) mD
  | false=>jS g tc te ρ0 ok xs Μ M1 k) mD
def zz(n:Nat)(ti:DK)(g:Dt->En->(En->Prop)->Prop)(tc:DT)(te:DE)(ag:List Nat):DE:=λρ M q x=>ti ρ M (λxs ok M1=>-xs<=sizeLine/\jS g tc te (List.replicate n none++qe ag ρ) ok xs [] M1 (λys M2=>q (.lst ys) M2)) x
def N3{K:fI}{os:St}{n:Nat}(h:mP K G L ρ σ)(ag:List Nat)(hl:-os=n):mP K G L (List.replicate n none++qe ag ρ) (os++q5 ag σ):=by
 let lc:-(qe ag ρ)=-(q5 ag σ):=by unfold qe q5;simp
 show(by rw[aak,aak,abT,hl,lc],λi d' e=>?_);by_cases hi:i < n
 .rw[aaD (by rw[abT];show hi),acS,aa0 hi]at e;cases e
 .rw[aay (by rw[abT];omega),abT]at e;rw[aay (),hl];unfold qe at e;unfold q5;rw[aas]at e⊢;cases q:ag[i - n]? with
  | none=>rw[q]at e;cases e
  | some j=>
   rw[q]at e;let e:(ρ[j]?).join=!d':=aaC e;let e:ρ[j]? =!(!d'):=by
    cases z:ρ[j]? with
    | none=>rw[z]at e;cases e
    | some o=>rw[z]at e;show abq some e
   let(v,hv,dn):=h.fK j d' e;show(v,by change (!((σ[j]?).join))=_;rw[hv];rfl,dn)
def uE{K:fI}{g:Dt->En->(En->Prop)->Prop}{M1:Ms}{ok:Ms->Prop}{Q:VK}{k:List Dt->Ms->Prop}(gd:GD K gg g)(r1:Rl K G1 L1 M1 H1)(n:mP K G1 L1 ρ σ)(y:QN K J xs ok G1 L1)(hD:H1 Dl=none)(hz:-xs<=sizeLine)
  (h:jS g tc te (List.replicate nn none++qe ag ρ) ok xs [] M1 k)
  (fin:∀G2 L2 M2 H2 ds vs,Ex G1 L1 H1 G2 L2 H2->Rl K G2 L2 M2 H2->G2 Dl=none->Dl∉L2->H2 Dl=!(.lst vs)->Τ K G2 L2 ds vs->k ds M2->Q (.ref Dl) H2):
  EW J nn gg (EG K (λ_=>E0) tc) (zh K (λ_=>E0) te) (q5 ag σ) Q H1 Dl:=by
 show⟨λi m ys H2=>m+i=-xs/\H2 Dl=!(.lst ys)/\∃Μ G2 L2 M2,Ex G1 L1 H1 G2 L2 H2/\Rl K G2 L2 M2 H2/\G2 Dl=none/\Dl∉L2/\Τ K G2 L2 Μ ys/\-Μ<=i/\jS g tc te (List.replicate nn none++qe ag ρ) ok (xs.drop i) Μ M2 k,(-xs,rfl,av,[],G1,L1,M1,?_),?_⟩
 .let gn:G1 Dl=none:=r1.sub.free hD;show((.refl _,.refl _,λ_ h _=>h,λb u h1 _=>by rw[Ρ (λz=>by rw[z,hD]at h1;cases h1)];show h1,λ_ h=>.inl h,λb h=>by rw[Ρ (λz=>h (by rw[z];show hD))];show h),(λb u e=>by rw[Ρ (λz=>by rw[z,gn]at e;cases e)];show r1.sub b u e,r1.len,r1.nd,λi a m h1 h2=>?_),gn,r1.RQ hD,rfl,aaq _,by rw[adt];show h);let(q1,q2):=r1.fK i a m h1 h2;show(q1,q2.mono (.refl _) (.refl _) (Ρ λz=>q2.there (by rw[z];show hD)))
 .rintro i m ys H2 ⟨hm,L9,Μ,G2,L2,M2,e2,r2,g2,l2,n2,la,h2⟩;show(L9,?_);let ne1:∀{b:Addr} {u:HO},H1 b=!u->b≠Dl:=λe z=>by rw[z,hD]at e;cases e
  by_cases hi:i < -xs
  .right;let hd:xs[i]? =!xs[i]:=aaa hi;rw[acf hi]at h2;let(aS,h2):=h2;let(go,yl):=y.go i G2 L2 M2 H2 _ e2.g e2.l r2 aS hd;show(go,λv H3 hy os hos=>?_);let(G3,e3,r3,n3):=yl v H3 hy;let h3:H3 Dl=!(.lst ys):=e3.out _ _ L9 l2;let g3:G3 Dl=none:=e3.fr _ g2 (by rw[L9];simp);show gd G3 L2 M2 H3 _ v _ _ _ _ r3 n3 (N3 ((n.mono e2).mono e3) ag hos) h2 λρ' σ' n' h'=>?_;show(G3,L2,ρ',M2,_,mD,r3,n',h',KJ,λb H4 xz=>?_);let(G4,L4,M4,e4,r4,h4):=xz;let Yk:H4 Dl=!(.lst ys):=e4.out _ _ h3 l2;let g4:G4 Dl=none:=e4.fr _ g3 (by rw[h3];simp);let l4:Dl∉L4:=λz=>(e4.new _ z).elim l2 λq=>by rw[h3]at q;cases q
   let XT:=e3.trans e4;cases b with
   | false=>
    show(m - 1,(),(),Yk,Μ,G4,L4,M4,e2.trans XT,r4,g4,l4,Τ.mono XT.g XT.l _ _ n2,(),h4)
   | true=>
    show(G4,L4,ρ',M4,_,mD,r4,n'.mono e4,h4,KJ,λv5 H5 xz=>?_);let(d5,G5,L5,M5,e5,r5,n5,h5):=xz;let h5':H5 Dl=!(.lst ys):=e5.out _ _ Yk l4;let g5:G5 Dl=none:=e5.fr _ g4 (by rw[Yk];simp);let l5:Dl∉L5:=λz=>(e5.new _ z).elim l4 λq=>by rw[Yk]at q;cases q
    let e35:=XT.trans e5;let acE:-ys=-Μ:=by rw[<--n2]
    show(h5',(),m - 1,(),(),av,Μ++[d5],G5,L5,M5,?_,?_,g5,l5,(Τ.mono e35.g e35.l _ _ n2).app (_,_,rfl,n5,rfl),by rw[aak];change -Μ+1<=i+1;omega,h5)
    .let T9:=e2.trans e35
     show(T9.g,T9.l,T9.fr,λb u h1 h2=>by rw[Ρ (ne1 h1)];show T9.out b u h1 h2,T9.new,λb h=>by
      by_cases hb:b=Dl
      .rw[hb,av];simp
      .rw[Ρ hb];show T9.Gf b h)
    .show(λb u e=>by rw[Ρ (λz=>by rw[z,g5]at e;cases e)];show r5.sub b u e,r5.len,r5.nd,λi a m h1 h2=>?_);let(q1,q2):=r5.fK i a m h1 h2;show(q1,q2.mono (.refl _) (.refl _) (Ρ λz=>l5 (by rw[<-z];show aap h1)))
  .left;rw[acW ()]at h2;show(y.stop i G2 L2 M2 H2 e2.g e2.l r2 h2.1 (),fin G2 L2 M2 H2 Μ ys e2 r2 g2 l2 L9 n2 h2.2)
set_option tactic.hygienic true
section
variable{K:fI}{G1:Hp}{L1:List Addr}{H1 G:Hp}{L:List Addr}{M:Ms}{H:Hp}{p:Addr}{ds:List Dt}{vs:List V}{q:DQ}
def GG(e:Ex G1 L1 H1 G L H)(r:Rl K G L M H)(QE:H1 p=none)(hg:G p=none)(hl:p∉L)(h:H p=!(.lst vs))(n:Τ K G L ds vs)(k:q (.lst ds) M):Fin K G1 L1 H1 q (.ref p) H:=by
 let g1:eU G (upd G p (.lst vs)):=λb u e=>by rw[Ρ (λz=>by rw[z,hg]at e;cases e)];show e
 show(.lst ds,upd G p (.lst vs),L,M,(e.g.trans g1,e.l,λb h1 h2=>?_,e.out,e.new,e.Gf),(λb u e=>?_,r.len,r.nd,λk a m h1 h2=>?_),(p,vs,rfl,av,Τ.mono g1 (.refl _) _ _ n),k)
 .rw[Ρ (λz=>h2 (by rw[z];show QE))];show e.fr b h1 h2
 .by_cases hb:b=p
  .rw[hb,av]at e;rw[hb];cases e;show h
  .rw[Ρ hb]at e;show r.sub b u e
 .let(q1,q2):=r.fK k a m h1 h2;let hb:a≠p:=λz=>hl (by rw[<-z];show aap h1);show(by rw[Ρ hb];show q1,q2.mono g1 (.refl _) rfl)
def Oa(e:Ex G1 L1 H1 G L H)(r:Rl K G L M H)(QE:H1 p=none)(hg:G p=none)(hl:p∉L)(h:H p=!(.lst vs))(n:Τ K G L ds vs)(k:q (.loc (-M)) (M++[.lst ds])):Fin K G1 L1 H1 q (.ref p) H:=by
 show(.loc (-M),G,L++[p],M++[.lst ds],(e.g,e.l.trans ([p],rfl),e.fr,e.out,λb hb=>?_,e.Gf),(r.sub,by rw[List.length_append,List.length_append,r.len];rfl,List.nodup_append.mpr (r.nd,by simp,λa ha b hb=>?_),λk a m h1 h2=>?_),(p,rfl,by rw[<-r.len,List.getElem?_append_right (Nat.le_refl _)];simp),k)
 .rcases abj.mp hb with z| z
  .show e.new b z
  .let e:b=p:=by simpa using z
   right;rw[e];show QE
 .let e:b=p:=by simpa using hb
  rw[e];exactλz=>hl (z▸ha)
 .by_cases hk:k < -L
  .rw[aaD hk]at h1;rw[aaD (by rw[<-r.len];show hk)]at h2;let(q1,q2):=r.fK k a m h1 h2;show(q1,q2.mono (.refl _) ([p],rfl) rfl)
  .let e:k=-L:=by have:=(aai.mp h1).1;rw[aak]at this;simp at this;omega
   rw[e,aay (aaq _)]at h1;rw[e,r.len,aay (aaq _)]at h2;simp at h1 h2;subst h1 h2;show(hg,vs,h,Τ.mono (.refl _) ([p],rfl) _ _ n)
def XF(b:Bool)(q:DQ)(ys:List Dt)(M:Ms):Prop:=match b with
 | false=>q (.lst ys) M
 | true=>q (.loc (-M)) (M++[.lst ys])
def FZ(e:Ex G1 L1 H1 G L H)(r:Rl K G L M H)(QE:H1 p=none)(hg:G p=none)(hl:p∉L)(h:H p=!(.lst vs))(n:Τ K G L ds vs)(k:XF b q ds M):Fin K G1 L1 H1 q (.ref p) H:=by
 cases b
 .show GG e r QE hg hl h n k
 .show Oa e r QE hg hl h n k
end
def iB{n i:Nat}(h:i < n):yi n (jE i):=λv os cs H Q hl hq=>((os.set i (!v),by rw[abW];show hl,aco _ _ ()),hq)
def xK{K:fI}{n i j:Nat}(h:i < n)(h':j < n):yi n (MY K 2 (oY (jE i) (oY (jE j) JR))):=
 fun v os cs H Q hl (a,xs,e,s,l,v1,r,e1,v2,r2,e2,e3,q)=>(a,xs,e,s,l,v1,r,e1,v2,r2,e2,e3,((os.set i (!v1)).set j (!v2),by simp[hl],by
  rw[aco _ _ (),aco _ _ (by rw[abW];omega)]),q)
section
variable{X:Cx}{elt iter tg:Expr}{xs:List Str}{scope:Scope}{pos:Pos}{ys:List Str}{ag:List Nat}
def ia{i:Nat}(S:aJ X scope xs ys ag)(h:xs[i]? =!x)(C:Addr)(s:Shared)(H:Hp)(fp:List Addr):PG (Cx.comp X (xs++ys) scope C s H fp) (.Name x px) (jE i):=by
 let hm:x∈xs:=aap h;let hi:(xs++ys)[i]? =!x:=by rw[aaD (aai.mp h).1];show h
 show ai S.nd hi (.inl (lookup_relabel_local (S.own x hm))) (.inr (lookup_relabel_local (S.own x hm)))
def Fy{x y:Str}{k:Nat}(hc:X.calm=true)(S:aJ X scope [x,y] ys ag)(C:Addr)(s:Shared)(H:Hp)(fp:List Addr):PG (Cx.comp X ([x,y]++ys) scope C s H fp) (.Tuple [.Name x px,.Name y py] k pos) (MY X.K 2 (oY (jE 0) (oY (jE 1) JR))):=
 rC (X:=Cx.comp X ([x,y]++ys) scope C s H fp) hc (cP (ia S (i:=0) rfl C s H fp) (cP (ia S (i:=1) rfl C s H fp) mq))
end
def r_:DT:=λ_ M q _=>q true M
def JTs(X:Cx)(cs:List Expr)(t:DT):Prop:=X1 X cs (EG X.K (λ_=>E0) t)
def pA:JTs X [] r_:=(.inl rfl,λη s σ H Q I (G,L,ρ,M,q,x,r,n,h,hx,hQ)=>abt (H,I,hQ true H (G,L,M,.refl _ _ _,r,h)))
def FF(h:JT X (λ_=>E0) c t):JTs X [c] t:=(.inr (c,rfl),h)
def Qo(b:Bool)(g:Dt->En->(En->Prop)->Prop)(tc:DT)(te:DE)(cs:En)(q:DQ):List Dt->(Ms->Prop)->Ms->Prop:=λzs ok M1=>-zs<=sizeLine/\jS g tc te cs ok zs [] M1 (XF b q)
section
variable{X:Cx}{R:St->XK}{elt iter tg:Expr}{cs:List Expr}{xs:List Str}{scope:Scope}{pos:Pos}{gg:TG}{g:Dt->En->(En->Prop)->Prop}{ti:DK}{tc:DT}{te:DE}{ys:List Str}{ag:List Nat}(b:Bool)(S:aJ X scope xs ys ag)(hi:JK X R tg iter ti)(hg:∀C s H fp,PG (Cx.comp X (xs++ys) scope C s H fp) tg gg)(gd:GD X.K gg g)(hk:yi (-xs) gg)(ht:∀C s H fp,JTs (Cx.comp X (xs++ys) scope C s H fp) cs tc)(he:∀C s H fp,JE (Cx.comp X (xs++ys) scope C s H fp) (λ_=>E0) elt te)(hc:X.calm=true)(hs:∀x,foldedSetIterable iter X.env x=pure x)
include S hi hg gd hk ht he hc hs
def WO{t:DE}(e:∀ρ M q x,t ρ M q x->ti ρ M (Qo b g tc te (List.replicate (-xs) none++qe ag ρ) q) x):JE X R (.ListComp elt [(tg,iter,cs,0)] scope pos) t:=
 .of (CJ (tc:=EG X.K (λ_=>E0) tc) (te:=zh X.K (λ_=>E0) te) S hc hi hg hk ht he hs) λσ H G L ρ M q x rl n h hx=>(G,L,ρ,M,_,x,rl,n,e _ _ _ _ h,hx,λJ H1 (xs,ok,G1,L1,M1,e1,r1,y,hz,h1) D hD=>uE gd r1 (n.mono e1) y hD hz h1 λG2 L2 M2 H2 ds vs e2 r2 g2 l2 h2 n2 k=>Fin.back e1 (FZ e2 r2 hD g2 l2 h2 n2 k))
def jcS{i:Nat}{AR:Pos}(hN:X.N.Nodup)(Ux:X.N[i]? =!y)(hy:Loc X.env.scope y)(WE:swapsWith (.ListComp elt [(tg,iter,cs,0)] scope pos) (!(.Name y py)) AR.line X.env=pure true)(hf:X.fn y=true\/X.env.scope.names.lookup y=some .local){t:DE}(e:∀ρ M q x,t ρ M q x->ti ρ M (Qo b g tc te (List.replicate (-xs) none++qe ag ρ) q) x):
  JS X R (.Assign [.Name y py] (.ListComp elt [(tg,iter,cs,0)] scope pos) AR) (OP i t):=.of (Bs (tc:=EG X.K (λ_=>E0) tc) (te:=zh X.K (λ_=>E0) te) hN Ux hy S hc hi hg hk ht he WE hs hf) λσ H G L ρ M Dn rl n h hx=>by
 show(G,L,ρ,M,_,_,rl,n,e _ _ _ _ h,hx,fun J H1 (xs,ok,G1,L1,M1,e1,r1,y,hz,h1) D hD=>uE gd r1 (n.mono e1) y hD hz h1 λG2 L2 M2 H2 ds vs e2 r2 g2 l2 h2 n2 k=>?_);let(d,G3,L3,M3,e3,r3,n3,h3):=FZ (q:=λd M=>Dn.nx (ρ.set i (!d)) M) e2 r2 hD g2 l2 h2 n2 k;show(_,G3,L3,M3,e1.trans e3,r3,((n.mono e1).mono e3).set i n3,h3)
end
def wX(te:DE)(cs:En):List Dt->List Dt->Ms->(List Dt->Ms->Prop)->Prop
 | [],Μ,M,k=>k Μ M
 | x::xs,Μ,M,k=>te ((!x)::cs) M (λd M1=>wX te cs xs (Μ++[d]) M1 k) mD
def GB(ti:DA)(te:DE)(ag:List Nat):DE:=λρ M q x=>ti ρ M (λxs M1=>-xs<=sizeLine/\wX te (qe ag ρ) xs [] M1 (λys M2=>q (.lst ys) M2)) x
def Gq:∀xs,wX te cs xs=jS (gN 0) r_ te (none::cs) (λ_=>True) xs
 | []=>funext λΜ=>funext λM=>funext λk=>(true_and _).symm
 | x::xs=>funext λΜ=>funext λM=>funext λk=>by change te ((!x)::cs) M (λd M1=>wX te cs xs (Μ++[d]) M1 k) mD=(True/\te ((!x)::cs) M (λd M1=>jS (gN 0) r_ te (none::cs) (λ_=>True) xs (Μ++[d]) M1 k) mD);rw[Gq xs,true_and]
section
variable{X:Cx}{R:St->XK}{elt iter:Expr}{x:Str}{px:Pos}{scope:Scope}{pos:Pos}{ti:DA}{te:DE}{ys:List Str}{ag:List Nat}
def Dj(S:aJ X scope [x] ys ag)(hi:JI X R (.Name x px) iter ti)(he:∀C s H fp,JE (Cx.comp X (x::ys) scope C s H fp) (λ_=>E0) elt te)(hc:X.calm=true|>1)(hs:(∀x,foldedSetIterable iter X.env x=pure x)|>3):JE X R (.ListComp elt [(.Name x px,iter,[],0)] scope pos) (GB ti te ag):=WO false S (Qe hi) (ia S (i:=0) rfl) aB (iB (Nat.zero_lt_succ 0)) (λ_ _ _ _=>pA) he hc hs λρ M q x h=>by unfold GB at h;simp only[Gq]at h;show h
end
def fin_same{K:fI}{H:Hp}{q:DQ}(e:Ex G0 L0 H0 G L H)(r:Rl K G L M H)(n:Den K G L d v)(h:q d M):Fin K G0 L0 H0 q v H:=(d,G,L,M,e,r,n,h)
def bw{K:fI}{H:Hp}{q:DQ}(e:Ex G0 L0 H0 G L H)(r:Rl K G L M H)(h:q d M)(n:Den K G L d v|>1):Fin K G0 L0 H0 q v H:=(d,G,L,M,e,r,n,h)
def wm:Dt->Dt->Ms->DQ->Prop
 | .int i,.int j,M,q=>q (.int (i+j)) M
 | .str a,.str b,M,q=>-a+-b<=sizeLine/\q (.str (a++b)) M
 | .lst a,.lst b,M,q=>-a+-b<=sizeLine/\q (.lst (a++b)) M
 | .tup a,.tup b,M,q=>(a≠[]/\-a+-b<=sizeLine)/\q (.tup (a++b)) M
 | _,_,_,_=>False
def Bg:Dt->Dt->Ms->DQ->Prop
 | .int i,.int j,M,q=>q (.int (i - j)) M
 | _,_,_,_=>False
def KW:Dt->Dt->Ms->DQ->Prop
 | .int i,.int j,M,q=>(fJ i/\fJ j)/\q (.int (i * j)) M
 | .lst a,.int k,M,q=>(- (2 ^ 63)<=k/\k < 2 ^ 63/\-a * k.toNat<=sizeLine)/\q (.lst (List.replicate k.toNat a).flatten) M
 | _,_,_,_=>False
def Sn:Dt->Dt->Ms->DQ->Prop
 | .int i,.int j,M,q=>(0 < j/\fJ j)/\q (.int (i / j)) M
 | _,_,_,_=>False
def GQ:Dt->Dt->Ms->DQ->Prop
 | .int i,.int j,M,q=>(j≠0/\fJ j)/\q (.int (i.fdiv j)) M
 | _,_,_,_=>False
def Pc:Dt->Dt->Ms->DQ->Prop
 | .int i,.int j,M,q=>0 < j/\q (.int (i % j)) M
 | _,_,_,_=>False
def Ti:Dt->Dt->Ms->DQ->Prop
 | .int i,.int j,M,q=>BW i j/\q (.int (i ^ j.toNat)) M
 | _,_,_,_=>False
def JU:Dt->Ms->DQ->Prop
 | .int i,M,q=>q (.int (- i)) M
 | _,_,_=>False
section
variable{K:fI}
def YU:mO K (λx y H Q=>(∃i j,x=V.int i/\y= .int j/\Q (.int (i+j)) H)\/(∃i j,x=V.str i/\y= .str j/\-i+-j<=sizeLine/\Q (.str (i++j)) H)\/Tv x y H Q\/QU K x y H Q) wm:=by
 intro G0 L0 H0 G L M H v1 v2 d1 d2 q e r n1 n2 h;unfold wm at h;split at h
 .rename_i i j;show .inl (i,j,n1,n2,bw e r h)
 .rename_i a b;show .inr (.inl (a,b,n1,n2,h.1,bw e r h.2))
 .rename_i a b;let(p1,w1,rfl,e1,m1):=n1;let(p2,w2,rfl,e2,m2):=n2;show .inr (.inr (.inl (p1,p2,w1,w2,rfl,rfl,r.sub _ _ e1,r.sub _ _ e2,by rw[<--m1,<--m2];show h.1,λp hp=>?_)));show lX e r hp (sL r hp (m1.app m2)) h.2
 .rename_i a b;let(p1,w1,rfl,e1,m1):=n1;let(p2,w2,rfl,e2,m2):=n2;let ne:w1≠[]:=λz=>h.1.1 (by have:=-m1;rw[z]at this;show List.eq_nil_of_length_eq_zero this);show .inr (.inr (.inr (p1,p2,w1,w2,rfl,rfl,.inl (.inl (r.sub _ _ e1)),.inl (.inl (r.sub _ _ e2)),ne,by rw[<--m1,<--m2];show h.1.2,λz=>?_,λ_ p hp=>?_)))
  .let hb:b=[]:=by have:=-m2;rw[z]at this;show List.eq_nil_of_length_eq_zero this
   subst hb;rw[abw]at h;show fin_same (d:=.tup a) e r (p1,w1,rfl,e1,m1) h.2
  .show lX e r hp (sT r hp (m1.app m2)) h.2
 .show h.elim
def abr:mO K (Hx λi j=>.int (i - j)) Bg:=by
 intro G0 L0 H0 G L M H v1 v2 d1 d2 q e r n1 n2 h;unfold Bg at h;split at h
 .show(_,_,n1,n2,bw e r h)
 .show h.elim
def Zb:mO K (λx y H Q=>(rI (λi j=>fJ i/\fJ j) λi j=>.int (i * j)) x y H Q\/R9 x y H Q) KW:=by
 intro G0 L0 H0 G L M H v1 v2 d1 d2 q e r n1 n2 h;unfold KW at h;split at h
 .show .inl (_,_,n1,n2,h.1,bw e r h.2)
 .rename_i a k;let(p1,w1,rfl,e1,m1):=n1;show .inr (p1,k,w1,rfl,n2,r.sub _ _ e1,h.1.1,h.1.2.1,by rw[<--m1];show h.1.2.2,λp hp=>?_);show lX e r hp (sL r hp (.of (zR m1.pair k.toNat))) h.2
 .show h.elim
def ZW:mO K (rI (λ_ j=>j≠0/\fJ j) λi j=>.int (i.fdiv j)) Sn:=by
 intro G0 L0 H0 G L M H v1 v2 d1 d2 q e r n1 n2 h;unfold Sn at h;split at h
 .rename_i i j;let h0:=h.1.1;show(_,_,n1,n2,((),h.1.2),fin_same (d:=.int (i.fdiv j)) e r rfl ?_);rw[ac4 i (aar h0)];show h.2
 .show h.elim
def Uv:mO K (rI (λ_ j=>j≠0/\fJ j) λi j=>.int (i.fdiv j)) GQ:=by
 intro G0 L0 H0 G L M H v1 v2 d1 d2 q e r n1 n2 h;unfold GQ at h;split at h
 .show(_,_,n1,n2,h.1,bw e r h.2)
 .show h.elim
def YJ:mO K (rI (λ_ j=>0 < j) λi j=>.int (i % j)) Pc:=by
 intro G0 L0 H0 G L M H v1 v2 d1 d2 q e r n1 n2 h;unfold Pc at h;split at h
 .show(_,_,n1,n2,h.1,bw e r h.2)
 .show h.elim
def ZO:mO K (rI BW λi j=>.int (i ^ j.toNat)) Ti:=by
 intro G0 L0 H0 G L M H v1 v2 d1 d2 q e r n1 n2 h;unfold Ti at h;split at h
 .show(_,_,n1,n2,h.1,bw e r h.2)
 .show h.elim
def YW:UnD K (rU λi=>.int (- i)) JU:=by
 intro G0 L0 H0 G L M H v1 d1 q e r n1 h;unfold JU at h;split at h
 .show(_,n1,bw e r h)
 .show h.elim
end
section
variable{X:Cx}{R:St->XK}{a b c:Expr}{ta tb:DE}{pos:Pos}
def cw(ja:JE X R a ta)(jb:JE X R b tb):JE X R (.BinOp a .Add b pos) (ju wm ta tb):=Ae (SK.or (Ee.or (J1.or Pb))) YU ja jb
def r6(ja:JE X R a ta)(jb:JE X R b tb):JE X R (.BinOp a .Sub b pos) (ju Bg ta tb):=Ae R5 abr ja jb
def az(ja:JE X R a ta)(jb:JE X R b tb):JE X R (.BinOp a .Mult b pos) (ju KW ta tb):=Ae (Py.or Ly) Zb ja jb
def kG(ja:JE X R a ta)(jb:JE X R b tb):JE X R (.BinOp a .FloorDiv b pos) (ju Sn ta tb):=Ae BI ZW ja jb
def D9(ja:JE X R a ta)(jb:JE X R b tb):JE X R (.BinOp a .FloorDiv b pos) (ju GQ ta tb):=Ae BI Uv ja jb
def bP(ja:JE X R a ta)(jb:JE X R b tb):JE X R (.BinOp a .Mod b pos) (ju Pc ta tb):=Ae SR YJ ja jb
def jH(ja:JE X R a ta)(jb:JE X R b tb):JE X R (.BinOp a .Pow b pos) (ju Ti ta tb):=Ae RC ZO ja jb
def F_(ja:JE X R a ta):JE X R (.UnaryOp .USub a pos) (XX JU ta):=YI Q8 YW ja
end
def Yh:Dt->Dt->Ms->DQ->Prop
 | .int i,.int j,M,q=>q (.bl (decide (i < j))) M
 | _,_,_,_=>False
def X5:Dt->Dt->Ms->DQ->Prop
 | .int i,.int j,M,q=>q (.bl (decide (i<=j))) M
 | _,_,_,_=>False
def Z_:Dt->Dt->Ms->DQ->Prop
 | .int i,.int j,M,q=>q (.bl (decide (j < i))) M
 | _,_,_,_=>False
def XO:Dt->Dt->Ms->DQ->Prop
 | .int i,.int j,M,q=>q (.bl (decide (j<=i))) M
 | _,_,_,_=>False
noncomputable def rX:Dt->Option V
 | .bc=>some .bc
 | .bl b=>!(.bl b)
 | .int i=>!(.int i)
 | .str x=>!(.str x)
 | _=>none
noncomputable def fW:List Dt->Option (List V)
 | []=>![]
 | d::ds=>match rX d,fW ds with
  | some v,!vs=>!(v::vs)
  | _,_=>none
section
variable{K:fI}{G:Hp}{L:List Addr}
def iH{u:V}(h:rX d=!u)(n:Den K G L d v):v=u/\eE u=true:=by cases d <;> first| (cases h;show(n,rfl))| cases h
def fV:∀{ds:List Dt} {vs us:List V},fW ds=!us->Τ K G L ds vs->vs=us/\us.all eE=true
 | [],vs,us,h,n=>by cases h;show(n,rfl)
 | d::ds,_,us,h,(v,r,e,n1,n2)=>by
  subst e;unfold fW at h;split at h
  .rename_i u1 u2 h1 h2;cases h;let(a1,a2):=iH h1 n1;let(b1,b2):=fV h2 n2;subst a1 b1;show(rfl,by rw[acT,a2,b2];rfl)
  .cases h
end
def D4:Dt->Dt->Ms->DQ->Prop
 | .int i,.int j,M,q=>q (.bl (decide (i=j))) M
 | .str i,.str j,M,q=>q (.bl (decide (i=j))) M
 | .bl i,.bl j,M,q=>q (.bl (decide (i=j))) M
 | .tup a,.tup b,M,q=>match fW a,fW b with
  | some us,!vs=>q (.bl (oI us vs)) M
  | _,_=>False
 | _,_,_,_=>False
def Of:Dt->Dt->Ms->DQ->Prop
 | .int i,.int j,M,q=>q (.bl (! decide (i=j))) M
 | .str i,.str j,M,q=>q (.bl (! decide (i=j))) M
 | .bl i,.bl j,M,q=>q (.bl (! decide (i=j))) M
 | .tup a,.tup b,M,q=>match fW a,fW b with
  | some us,!vs=>q (.bl (! oI us vs)) M
  | _,_=>False
 | _,_,_,_=>False
def R1:Dt->Dt->Ms->DQ->Prop
 | .bc,.bc,M,q=>q (.bl true) M
 | .bl _,.bc,M,q=>q (.bl false) M
 | .int _,.bc,M,q=>q (.bl false) M
 | .str _,.bc,M,q=>q (.bl false) M
 | .tup _,.bc,M,q=>q (.bl false) M
 | .lst _,.bc,M,q=>q (.bl false) M
 | _,_,_,_=>False
section
variable{K:fI}
def ltD:mO K (Hx λi j=>.bl (decide (i < j))) Yh:=by
 intro G0 L0 H0 G L M H v1 v2 d1 d2 q e r n1 n2 h;unfold Yh at h;split at h
 .show(_,_,n1,n2,bw e r h)
 .show h.elim
def leD:mO K (Hx λi j=>.bl (decide (i<=j))) X5:=by
 intro G0 L0 H0 G L M H v1 v2 d1 d2 q e r n1 n2 h;unfold X5 at h;split at h
 .show(_,_,n1,n2,bw e r h)
 .show h.elim
def gtD:mO K (Hx λi j=>.bl (decide (j < i))) Z_:=by
 intro G0 L0 H0 G L M H v1 v2 d1 d2 q e r n1 n2 h;unfold Z_ at h;split at h
 .show(_,_,n1,n2,bw e r h)
 .show h.elim
def geD:mO K (Hx λi j=>.bl (decide (j<=i))) XO:=by
 intro G0 L0 H0 G L M H v1 v2 d1 d2 q e r n1 n2 h;unfold XO at h;split at h
 .show(_,_,n1,n2,bw e r h)
 .show h.elim
def md{p q:Prop} [Decidable p] [Decidable q](h:p↔q):decide p=decide q:=decide_eq_decide.mpr h
def WU:mO K (λx y H Q=>rEq x y H Q\/Wd K x y H Q) D4:=by
 intro G0 L0 H0 G L M H v1 v2 d1 d2 q e r n1 n2 h;unfold D4 at h;split at h
 .rename_i i j;cases n1;cases n2;show .inl (rfl,fin_same (d:=.bl _) e r (by change V.bl _=V.bl _;rw[md (p:=V.int i=V.int j) (q:=i=j) (λz=>V.int.inj z,λz=>by rw[z])]) h)
 .rename_i i j;cases n1;cases n2;show .inl (rfl,fin_same (d:=.bl _) e r (by change V.bl _=V.bl _;rw[md (p:=V.str i=V.str j) (q:=i=j) (λz=>V.str.inj z,λz=>by rw[z])]) h)
 .rename_i i j;cases n1;cases n2;show .inl (rfl,fin_same (d:=.bl _) e r (by change V.bl _=V.bl _;rw[md (p:=V.bl i=V.bl j) (q:=i=j) (λz=>V.bl.inj z,λz=>by rw[z])]) h)
 .rename_i a b;let(p1,w1,rfl,e1,m1):=n1;let(p2,w2,rfl,e2,m2):=n2;split at h
  .rename_i us vs h1 h2;let(rfl,a2):=fV h1 m1;let(rfl,b2):=fV h2 m2;show .inr (p1,p2,_,_,rfl,rfl,.inl (.inl (r.sub _ _ e1)),.inl (.inl (r.sub _ _ e2)),a2,b2,bw e r h)
  .show h.elim
 .show h.elim
def Zz:mO K (λx y H Q=>rNe x y H Q\/Vc K x y H Q) Of:=by
 intro G0 L0 H0 G L M H v1 v2 d1 d2 q e r n1 n2 h;unfold Of at h;split at h
 .rename_i i j;cases n1;cases n2;show .inl (rfl,fin_same (d:=.bl _) e r (by change V.bl _=V.bl _;rw[md (p:=V.int i=V.int j) (q:=i=j) (λz=>V.int.inj z,λz=>by rw[z])]) h)
 .rename_i i j;cases n1;cases n2;show .inl (rfl,fin_same (d:=.bl _) e r (by change V.bl _=V.bl _;rw[md (p:=V.str i=V.str j) (q:=i=j) (λz=>V.str.inj z,λz=>by rw[z])]) h)
 .rename_i i j;cases n1;cases n2;show .inl (rfl,fin_same (d:=.bl _) e r (by change V.bl _=V.bl _;rw[md (p:=V.bl i=V.bl j) (q:=i=j) (λz=>V.bl.inj z,λz=>by rw[z])]) h)
 .rename_i a b;let(p1,w1,rfl,e1,m1):=n1;let(p2,w2,rfl,e2,m2):=n2;split at h
  .rename_i us vs h1 h2;let(rfl,a2):=fV h1 m1;let(rfl,b2):=fV h2 m2;show .inr (p1,p2,_,_,rfl,rfl,.inl (.inl (r.sub _ _ e1)),.inl (.inl (r.sub _ _ e2)),a2,b2,bw e r h)
  .show h.elim
 .show h.elim
def abS:mO K (λx y H Q=>y= .bc/\Q (.bl (decide (x= .bc))) H) R1:=by
 intro G0 L0 H0 G L M H v1 v2 d1 d2 q e r n1 n2 h;unfold R1 at h;split at h
 .cases n1;show(n2,fin_same (d:=.bl true) e r (by change V.bl _=V.bl _;rw[aa2 rfl]) h)
 .cases n1;show(n2,fin_same (d:=.bl false) e r (by change V.bl _=V.bl _;rw[aa6 nofun]) h)
 .cases n1;show(n2,fin_same (d:=.bl false) e r (by change V.bl _=V.bl _;rw[aa6 nofun]) h)
 .cases n1;show(n2,fin_same (d:=.bl false) e r (by change V.bl _=V.bl _;rw[aa6 nofun]) h)
 .let(p1,w1,rfl,_):=n1;show(n2,fin_same (d:=.bl false) e r (by change V.bl _=V.bl _;rw[aa6 nofun]) h)
 .let(p1,w1,rfl,_):=n1;show(n2,fin_same (d:=.bl false) e r (by change V.bl _=V.bl _;rw[aa6 nofun]) h)
 .show h.elim
end
section
variable{X:Cx}{R:St->XK}{a b c:Expr}{ta tb:DE}{pos:Pos}
def LU(ja:JE X R a ta)(jb:JE X R b tb):JE X R (.Compare a [.Lt] [b] pos) (ju Yh ta tb):=pD Qv ltD ja jb (fQ _)
def zt(ja:JE X R a ta)(jb:JE X R b tb):JE X R (.Compare a [.LtE] [b] pos) (ju X5 ta tb):=pD Qz leD ja jb (fQ _)
def aad(ja:JE X R a ta)(jb:JE X R b tb):JE X R (.Compare a [.GtE] [b] pos) (ju XO ta tb):=pD QV geD ja jb (fQ _)
def N9{k:Nat}(hr:bI k X.A)(ja:JE X R a ta)(jb:JE X R b tb):JE X R (.Compare a [.Eq] [b] pos) (ju D4 ta tb):=pD (Qa.or (K5 hr.DO)) WU ja jb (fQ _)
def rN(ja:JE X R a ta)(jb:JE X R b tb):JT X R (.Compare a [.Lt] [b] pos) (kM (ju Yh ta tb)):=fm Qv ltD ja jb (fQ _)
def UI(ja:JE X R a ta)(jb:JE X R b tb):JT X R (.Compare a [.LtE] [b] pos) (kM (ju X5 ta tb)):=fm Qz leD ja jb (fQ _)
def A4(ja:JE X R a ta)(jb:JE X R b tb):JT X R (.Compare a [.Gt] [b] pos) (kM (ju Z_ ta tb)):=fm V9 gtD ja jb (fQ _)
def XD(ja:JE X R a ta)(jb:JE X R b tb):JT X R (.Compare a [.GtE] [b] pos) (kM (ju XO ta tb)):=fm QV geD ja jb (fQ _)
def bL{k:Nat}(hr:bI k X.A)(ja:JE X R a ta)(jb:JE X R b tb):JT X R (.Compare a [.Eq] [b] pos) (kM (ju D4 ta tb)):=fm (Qa.or (K5 hr.DO)) WU ja jb (fQ _)
def kH{k:Nat}(hr:bI k X.A)(ja:JE X R a ta)(jb:JE X R b tb):JT X R (.Compare a [.NotEq] [b] pos) (kM (ju Of ta tb)):=fm (Ws.or (SD hr.DO)) Zz ja jb (fQ _)
def Sq(ja:JE X R a ta)(jb:JE X R b tb):JT X R (.Compare a [.Is] [b] pos) (kM (ju R1 ta tb)):=fm KS abS ja jb (fQ _)
end
noncomputable def gR(M:Ms):Dt->Option (List Dt)
 | .lst xs=>!xs
 | .tup xs=>!xs
 | .i_ ns=>!(ns.map .int)
 | .kt xs=>!xs
 | .loc k=>match M[k]? with
  | some (.lst xs)=>!xs
  | _=>none
 | _=>none
def pe{K:fI}{H:Hp}(r:Rl K G L M H)(n:Den K G L d v)(h:gR M d=!xs):∃a vs,v= .ref a/\(h7 K H a vs\/pH K H a vs)/\Τ K G L xs vs:=by
 cases d with
 | lst ds=>cases h;let(a,vs,rfl,e,m):=n;show(a,vs,rfl,.inl (.of (r.sub _ _ e)),m)
 | tup ds=>cases h;let(a,vs,rfl,e,m):=n;show(a,vs,rfl,.inr (.of (r.sub _ _ e)),m)
 | kt ds=>cases h;let(a,vs,rfl,e,m):=n;show(a,vs,rfl,.inr (r.sub.Wg e),m)
 | i_ ns=>cases h;let(a,rfl,e):=n;show(a,_,rfl,.inl (r.sub.seq e),jN)
 | loc k=>
  let(a,rfl,e):=n;let h:(match M[k]? with| some (.lst xs)=>!xs| _=>none)=!xs:=h;split at h
  .rename_i ys hm;cases h;let(_,vs,e1,m1):=r.fK k a _ e hm;show(a,vs,rfl,.inl (.of e1),m1)
  .cases h
 | _=>cases h
def N_{K:fI}(n:Τ K G L ds vs)(h:jT ds i=!d):∃v,jT vs i=!v/\Den K G L d v:=by
 unfold jT at h⊢;rw[<--n];cases q:Io (-ds) i with
 | none=>rw[q]at h;cases h
 | some j=>
  rw[q]at h;let(v,e,m):=n.get h;show(v,e,m)
def aW:Dt->Dt->Ms->DQ->Prop
 | .str z,.int i,M,q=>-z<=sizeLine/\match jT z.cps.toList i with
  | some c=>q (.str ⟨#[c]⟩) M
  | none=>False
 | d,.int i,M,q=>match gR M d with
  | some xs=>(match jT xs i with
   | some y=>q y M
   | none=>False)
  | none=>False
 | _,_,_,_=>False
def eQ:List Dt->Ms->DQ->Prop
 | [.str z],M,q=>-z<=sizeLine/\q (.int (-z)) M
 | [d],M,q=>match gR M d with
  | some xs=>q (.int (-xs)) M
  | none=>False
 | _,_,_=>False
section
variable{K:fI}
def ixD:mO K (rIx K) aW:=by
 intro G0 L0 H0 G L M H v1 v2 d1 d2 q e r n1 n2 h;unfold aW at h;split at h
 .rename_i z i;split at h
  .rename_i c hc;show .inr (.inr (z,i,c,n1,n2,h.1,hc,bw e r h.2))
  .show h.2.elim
 .rename_i d i _;split at h
  .rename_i xs hx;split at h
   .rename_i y hy;let(a,vs,rfl,hs,m):=pe r n1 hx;let(v,e1,m1):=N_ m hy;rcases hs with hs| hs
    .show .inl (a,vs,i,v,rfl,n2,hs,e1,fin_same e r m1 h)
    .show .inr (.inl (a,vs,i,v,rfl,n2,hs,e1,fin_same e r m1 h))
   .show h.elim
  .show h.elim
 .show h.elim
def Yx:EC K (λxs H Q=>(∃z,xs=[V.str z]/\-z<=sizeLine/\Q (.int (-z)) H)\/(∃p ys,xs=[V.ref p]/\(h7 K H p ys\/pH K H p ys)/\Q (.int (-ys)) H)) eQ:=by
 intro G0 L0 H0 G L M H vs ds q e r n h;unfold eQ at h;split at h
 .rename_i z;let(v,rfl,n1):=bD n;cases n1;show .inl (z,rfl,h.1,bw e r h.2)
 .rename_i d _;let(v,rfl,n1):=bD n;split at h
  .rename_i xs hx;let(a,ws,rfl,hs,m):=pe r n1 hx;show .inr (a,ws,rfl,hs,fin_same (d:=.int (-xs)) e r (by change V.int _=V.int _;rw[-m]) h)
  .show h.elim
 .show h.elim
end
section
variable{X:Cx}{R:St->XK}{a b c:Expr}{ta tb:DE}{pos:Pos}
noncomputable def ω(ja:JE X R a ta)(jb:JE X R b tb)(hs:zu b:=by exactλ_ _=>rfl):JE X R (.Subscript a b pos) (ju aW ta tb):=Wz Sy ixD ja jb hs
variable{x:Str}{p:Pos}{e:Expr}{es:List Expr}{t:DA}{id T:String}{r:List V->Hp->VK->Prop}{f:List Dt->Ms->DQ->Prop}
def g9(hc:eD X (.builtin id) r)(cd:EC X.K r f)(hm:X.mg x=none)(hv:bootBuiltins x=!(.builtin id))(ha:JA X R (e::es) t)(hg:Gl X x|>1)(hn:x≠"__name__"|>2)(mw:(x==("__debug__":Str))=false|>2)
  (he:starEach (e::es) X.env=(false, eval e X.env)::starEach es X.env|>1) (f_:(backTo pos (starEach es X.env)).any (·.1)=false|>1):JE X R (.Call (.Name x p) (e::es) [] pos) (C4 f t):=
 .of (LW hc hg hm hv ha hn mw he f_) λσ H G L ρ M q x r n h hx=>Qq cd r n h hx
def ui(hc:eD X (.type T) r)(cd:EC X.K r f)(hm:X.mg x=none)(hv:bootBuiltins x=!(.type T))(ha:JA X R (e::es) t)(hg:Gl X x|>1)(hn:x≠"__name__"|>2)(mw:(x==("__debug__":Str))=false|>2)
  (he:starEach (e::es) X.env=(false, eval e X.env)::starEach es X.env|>1) (f_:(backTo pos (starEach es X.env)).any (·.1)=false|>1):JE X R (.Call (.Name x p) (e::es) [] pos) (C4 f t):=
 .of (Jq hc hg hm hv ha hn mw he f_) λσ H G L ρ M q x r n h hx=>Qq cd r n h hx
def bz(hm:X.mg "len"=none)(ha:JA X R [e] t)(he:starEach [e] X.env=(false, eval e X.env)::starEach [] X.env|>1)(f_:(backTo pos (starEach [] X.env)).any (·.1)=false|>1)(hg:Gl X "len"|>1):JE X R (.Call (.Name "len" p) [e] [] pos) (C4 eQ t):=
 g9 (Ai.or Ay) Yx hm PySem.boot_len ha hg @_ @_ he f_
end
section
variable{X:Cx}
def zI:eD X (.type "int") (λxs H Q=>∃x n,xs=[.str x]/\PySem.intText? x=!n/\-x<=640/\Q (.int n) H):=by intro η s σ H xs us Q I rs h;let(x,n,rfl,hn,hl,q):=h;let(w,rfl,u,rfl):=lS rs;show PySem.W.KIN.call_text hn hl (.int n,H,I.tok _,(_,rfl),q)
end
def CN:List Dt->Ms->DQ->Prop
 | [.int i],M,q=>q (.int i) M
 | [.bl b],M,q=>q (.int (if b then 1 else 0)) M
 | [.str x],M,q=>-x<=640/\match PySem.intText? x with
  | some n=>q (.int n) M
  | none=>False
 | _,_,_=>False
def Q9:List Dt->Ms->DQ->Prop
 | [.int i],M,q=>q (.int (if i < 0 then - i else i)) M
 | _,_,_=>False
def MC:List Dt->Ms->DQ->Prop
 | [.int i,.int j],M,q=>q (.int (if j < i then j else i)) M
 | _,_,_=>False
def Sr:List Dt->Ms->DQ->Prop
 | [d],M,q=>∃bs:List Bool,gR M d=!(bs.map Dt.bl)/\(∀k,d≠ .kt k)/\(∀k,d≠ .tup k)/\q (.bl (bs.any id)) M
 | _,_,_=>False
noncomputable def QY:Dt->Option Value
 | .bc=>!(.type "NoneType")
 | .bl _=>!(.type "bool")
 | .int _=>!(.type "int")
 | .str _=>!(.type "str")
 | .lst _=>!(.type "list")
 | .tup _=>!(.type "tuple")
 | _=>none
noncomputable def R3:Dt->Option Value
 | .ty T=>!(.type T)
 | .ref C=>!(.ref C)
 | _=>none
section
variable{K:fI}
def x6:∀{l:List Str},Τ K G L (l.map Dt.str) (l.map V.str)
 | []=>rfl
 | _::_=>(_,_,rfl,rfl,x6)
def pC:∀{bs:List Bool} {vs:List V},Τ K G L (bs.map Dt.bl) vs->vs=bs.map V.bl
 | [],_,h=>h
 | b::bs,_,(v,r,e,h1,h2)=>by subst e;rw[pC h2,show v=V.bl b from h1];rfl
def abZ:EC K (λxs H Q=>((∃i,xs=[V.int i]/\Q (.int i) H)\/∃k,xs=[V.bl k]/\Q (.int (if k then 1 else 0)) H)\/∃x n,xs=[V.str x]/\PySem.intText? x=!n/\-x<=640/\Q (.int n) H) CN:=by
 intro G0 L0 H0 G L M H vs ds q e r n h;unfold CN at h;split at h
 .rename_i i;let(v,rfl,n1):=bD n;cases n1;show .inl (.inl (i,rfl,bw e r h))
 .rename_i i;let(v,rfl,n1):=bD n;cases n1;show .inl (.inr (i,rfl,bw e r h))
 .rename_i x;let(v,rfl,n1):=bD n;cases n1;split at h
  .rename_i m hm;show .inr (x,m,rfl,hm,h.1,bw e r h.2)
  .show h.2.elim
 .show h.elim
def Y3:EC K (λxs H Q=>∃i,xs=[V.int i]/\Q (.int (if i < 0 then - i else i)) H) Q9:=by
 intro G0 L0 H0 G L M H vs ds q e r n h;unfold Q9 at h;split at h
 .rename_i i;let(v,rfl,n1):=bD n;cases n1;show(i,rfl,bw e r h)
 .show h.elim
def ab0:EC K (λxs H Q=>∃i j,xs=[V.int i,.int j]/\Q (.int (if j < i then j else i)) H) MC:=by
 intro G0 L0 H0 G L M H vs ds q e r n h;unfold MC at h;split at h
 .rename_i i j;let(v,u,rfl,n1,n2):=gJ n;cases n1;cases n2;show(i,j,rfl,bw e r h)
 .show h.elim
def Z8:EC K (Xk K) Sr:=by
 intro G0 L0 H0 G L M H vs ds q e r n h;unfold Sr at h;split at h
 .rename_i d;let(bs,hs,nk,nt,h):=h;let(v,rfl,n1):=bD n;cases d with
  | lst xs=>
   cases hs;let(a,ws,rfl,e1,m):=n1;show(a,bs,rfl,by rw[<-pC m];show .of (r.sub _ _ e1),bw e r h)
  | loc k=>
   let(a,rfl,e1):=n1;let hs:(match M[k]? with| some (.lst xs)=>!xs| _=>none)=!(bs.map Dt.bl):=hs;split at hs
   .rename_i ys hm;cases hs;let(_,ws,e2,m):=r.fK k a _ e1 hm;show(a,bs,rfl,by rw[<-pC m];show .of e2,bw e r h)
   .cases hs
  | tup xs=>show abe rfl (nt xs)
  | kt xs=>show abe rfl (nk xs)
  | i_ ns=>
   let e0:ns.map Dt.int=bs.map Dt.bl:=aaC hs;cases ns with
   | nil=>
    cases bs with
    | nil=>let(a,rfl,e1):=n1;show(a,[],rfl,r.sub.seq e1,bw e r h)
    | cons _ _=>cases e0
   | cons _ _=>
    cases bs with
    | nil=>cases e0
    | cons _ _=>cases e0
  | _=>cases hs
 .show h.elim
def Hs{H:Hp}(r:Rl K G L M H)(n:Den K G L d v)(h:QY d=!t):lx K H v t:=by
 cases d with
 | bc=>cases h;cases n;show .bc
 | bl b=>cases h;cases n;show .bl _
 | int i=>cases h;cases n;show .int _
 | str x=>cases h;cases n;show .str _
 | lst xs=>cases h;let(a,ws,rfl,e,_):=n;show .lst (r.sub _ _ e)
 | tup xs=>cases h;let(a,ws,rfl,e,_):=n;show .tup (r.sub _ _ e)
 | _=>cases h
def Gz{t:Value}(n:Den K G L d v)(h:R3 d=!t):Mc v=!t:=by
 cases d with
 | ty T=>cases n;show h
 | ref C=>cases n;show h
 | _=>cases h
end
section
variable{X:Cx}{R:St->XK}{o a e e1 e2:Expr}{es:List Expr}{to ta te:DE}{t:DA}{name:Str}{apos df pos p p2:Pos}{T id:String}
def xy:bootBuiltins "int"=!(.type "int"):=by decide+kernel
def HC:bootBuiltins "abs"=!(.builtin "abs"):=by decide+kernel
def Hi:bootBuiltins "any"=!(.builtin "any"):=by decide+kernel
def Hq:bootBuiltins "min"=!(.builtin "min"):=by decide+kernel
def jQ:bootBuiltins "isinstance"=!(.builtin "isinstance"):=by decide+kernel
def Fo:bootBuiltins "bool"=!(.type "bool"):=by decide+kernel
def kZ:bootBuiltins "tuple"=!(.type "tuple"):=by decide+kernel
def oo:bootBuiltins "list"=!(.type "list"):=by decide+kernel
def CT{T:String}(hm:X.mg x=none)(hv:bootBuiltins x=!(.type T))(hg:Gl X x|>1)(hn:x≠"__name__"|>2)(hd:(x==("__debug__":Str))=false|>2):JE X R (.Name x p) (dC (.ty T)):=RI (OC (v:=.ty T) hg hm hv rfl hn hd) λ_ _=>rfl
def uF(hm:∃tk,X.mg x=!(.int z tk))(hg:Gl X x|>1)(hd:(x==("__debug__":Str))=false|>2):JE X R (.Name x p) (dC (.int z)):=let (tk,hm):=hm;RI (FE (v:=.int z) hg hm (tk,rfl) hd) λ_ _=>rfl
end
def Yg(x:Str):It:=(λi _=>i < x.cps.size,λi H v H'=>H'=H/\∃c,x.cps[i]? =!c/\v= .str ⟨#[c]⟩,λi _=>x.cps.size<=i)
def Jn{K:fI}(x:Str)(t:Tok)(it:Addr):Turn P w K tg (Yg x) [it] it (λi h=>h.IsStrIter it "str_ascii_iterator" x t i) where
 mem:=by simp
 obj:=λi h st b hb=>by
  let e:b=it:=by simpa using hb
  subst e;let(o,e,c,d):=st;show(o,e,λv z=>by rw[d]at z;cases z)
 keep:=λi h h' st k=>let (o,ho,r):=st;(o,k it (by simp) o ho,r)
 item:=by intro X hP hw hK hc i η s σ H E I hf st hg;subst hP hw hK;let(f0,f1,f2,f3,f4,f5):=hf it (by simp);let hg:i < x.cps.size:=hg;show wpAny_pyNext_ascii_item st (c:=x.cps[i]) (by simp[hg]) λh' yI sb=>?_;let I1:Inv X η σ H {s with heap:=h',toks:=s.toks+1}:=I.turned (λb o hb e=>(sb.2 b hb).trans e) f0 f1 f3 f4 f5;let(o,e,c,d):=id yI;show(_,rfl,xv (s:={s with heap:=h',toks:=s.toks+1}) e c d @_ (.str ⟨#[x.cps[i]]⟩,H,I1,(_,rfl),(rfl,_,by simp[hg],rfl),yI,λb hb=>(hf b hb).1))
 done:=by intro X hP hw hK hc i η s σ H E I hf st hg;subst hP hw hK;let(f0,f1,f2,f3,f4,f5):=hf it (by simp);let hg:x.cps.size<=i:=hg;show wpAny_pyNext_ascii_end (I.ok.hd hc) st (by simp;omega) λh' eb=>(rfl,I.turned (t':=s.toks) (λb o hb e=>eb b o hb e) f0 f1 f3 f4 f5)
 self:=λ_ _ _ _ _ st h=>wpAny_pyIter_striter_ascii st h
def Ih{K:fI}(x:Str)(t:Tok)(it:Addr):Turn P w K tg (Yg x) [it] it (λi h=>h.IsStrIter it "str_iterator" x t i) where
 mem:=by simp
 obj:=λi h st b hb=>by
  let e:b=it:=by simpa using hb
  subst e;let(o,e,c,d):=st;show(o,e,λv z=>by rw[d]at z;cases z)
 keep:=λi h h' st k=>let (o,ho,r):=st;(o,k it (by simp) o ho,r)
 item:=by intro X hP hw hK hc i η s σ H E I hf st hg;subst hP hw hK;let(f0,f1,f2,f3,f4,f5):=hf it (by simp);let hg:i < x.cps.size:=hg;show wpAny_pyNext_wide_item st (c:=x.cps[i]) (by simp[hg]) λh' yI sb=>?_;let I1:Inv X η σ H {s with heap:=h',toks:=s.toks+1}:=I.turned (λb o hb e=>(sb.2 b hb).trans e) f0 f1 f3 f4 f5;let(o,e,c,d):=id yI;show(_,rfl,xv (s:={s with heap:=h',toks:=s.toks+1}) e c d @_ (.str ⟨#[x.cps[i]]⟩,H,I1,(_,rfl),(rfl,_,by simp[hg],rfl),yI,λb hb=>(hf b hb).1))
 done:=by intro X hP hw hK hc i η s σ H E I hf st hg;subst hP hw hK;let(f0,f1,f2,f3,f4,f5):=hf it (by simp);let hg:x.cps.size<=i:=hg;show wpAny_pyNext_wide_end (I.ok.hd hc) st (by simp;omega) λh' eb=>(rfl,I.turned (t':=s.toks) (λb o hb e=>eb b o hb e) f0 f1 f3 f4 f5)
 self:=λ_ _ _ _ _ st h=>wpAny_pyIter_striter_wide st h
def yq(z:Str):List Dt:=z.cps.toList.map λc=>Dt.str ⟨#[c]⟩
def S5{K:fI}:Yl K (Yg z) (yq z) G L where
 go :=λi G1 L1 M1 H1 d g l r e=>by
  unfold yq at e;rw[aas]at e;cases q:z.cps.toList[i]? with
  | none=>rw[q]at e;cases e
  | some c=>
   rw[q]at e;cases e;let hi:i < z.cps.size:=by have:=(aai.mp q).1;simpa using this
   show(hi,λv' H' xz=>?_);let(eH,c',e',y):=xz;subst eH y;have:c'=c:=by rw[<-Array.getElem?_toList,q]at e';show(aaC e').symm
   subst this;show(G1,.refl _ _ _,r,rfl)
 stop:=λi G1 L1 M1 H1 g l r e=>by unfold yq at e;change z.cps.size<=i;simpa using e
noncomputable def Uu(M:Ms):Dt->Option (List Dt)
 | .lst xs=>!xs
 | .tup xs=>!xs
 | .i_ ns=>!(ns.map .int)
 | .kt xs=>!xs
 | .str z=>!(yq z)
 | _=>none
section
variable{X:Cx}{R:St->XK}{tg e:Expr}{te:DE}
def yC{H:Hp}{Q:It->Hp->Prop}(I:Inv X η σ H s)(hq:h7 X.K H a vs)(q:Q (XR X.K a) H):wpAny (model X.prog X.w) X.A (pyIter (.ref a)) (ND X η σ tg Q) E s:=by
 let(its,rv,p,hz):=I.list hq;show wpAny_pyIter_list p.isList ?_;show(s.heap.objs.size,[s.heap.objs.size],_,_,H,rfl,I.kept (t':=s.toks) λb o e=>aat _ e,IM a _,(_,abz _ rfl,rfl,rfl),λb hb=>?_,q);let e:b=s.heap.objs.size:=by simpa using hb
 subst e;show I.DU (aaq _) (I.aS.fresh (aaq _))
def JY{H:Hp}{Q:It->Hp->Prop}(I:Inv X η σ H s)(hq:pH X.K H a vs)(q:Q (Itt X.K a) H):wpAny (model X.prog X.w) X.A (pyIter (.ref a)) (ND X η σ tg Q) E s:=by
 let(its,rv,p,hz):=I.tuple hq;show wpAny_pyIter_tuple (show s.heap.IsTuple a its.toArray from p) ?_;show(s.heap.objs.size,[s.heap.objs.size],_,_,H,rfl,I.kept (t':=s.toks) λb o e=>aat _ e,D6 a _,(_,abz _ rfl,rfl,rfl),λb hb=>?_,q);let e:b=s.heap.objs.size:=by simpa using hb
 subst e;show I.DU (aaq _) (I.aS.fresh (aaq _))
def RB{H:Hp}{Q:It->Hp->Prop}(I:Inv X η σ H s)(q:Q (Yg z) H):wpAny (model X.prog X.w) X.A (pyIter (.str z t)) (ND X η σ tg Q) E s:=by
 let fp:∀b∈[s.heap.objs.size],tG X η H b:=λb hb=>by
  let e:b=s.heap.objs.size:=by simpa using hb
  subst e;show I.DU (aaq _) (I.aS.fresh (aaq _))
 cases ha:z.cps.all (· < 128)
 .show wpAny_pyIter_wide ha (s.heap.objs.size,[s.heap.objs.size],_,_,H,rfl,I.kept (t':=s.toks) λb o e=>aat _ e,Ih z t _,(_,abz _ rfl,rfl,rfl),fp,q)
 .show wpAny_pyIter_ascii ha (s.heap.objs.size,[s.heap.objs.size],_,_,H,rfl,I.kept (t':=s.toks) λb o e=>aat _ e,Jn z t _,(_,abz _ rfl,rfl,rfl),fp,q)
end
def RK:DF:=λds _ q _=>∃ns:List Int,ds=[.i_ ns]/\-ns<=63/\∀M',q (.bl true) M'
def Cs(K:fI):Sp:=λvs H Q _=>∃(a:Addr) (ns:List Int),vs=[.ref a]/\h7 K H a (ns.map V.int)/\-ns<=63/\∀H',Q (.bl true) H'
def SY{K:fI}{k:Nat}{x:Str}(F:ao P w K mg base (bO P w) k f fd [x] (b8 K RK)):ao P w K mg base XH k f fd [x] (Cs K):=by
 let sp:∀vs H Q E,Cs K vs H Q E->b8 K RK vs H Q E0:=by rintro vs H Q E ⟨a,ns,rfl,hS,hl,hQ⟩;show(H,[],[.i_ ns],[],λd _=>d= .bl true,λ_ _ _=>False,(.refl _,rfl,List.nodup_nil,λk a m h=>by simp at h),(_,_,rfl,(a,rfl,hS),rfl),(ns,rfl,hl,λ_=>rfl),fun v H' (d,G',L',M',_,_,n,e)=>?_,λ_ _ _ _ _ _ _ h=>h.elim);subst e;rw[show v=V.bl true from n];show hQ H'
 show(λvs H Q E h=>F.len vs H Q E0 (sp vs H Q E h),λA outer s H args us vs Q E hr he hb hv h=>codeAny_mono (F.run A outer s H args us vs Q E0 hr he hb hv (sp vs H Q E h)) λr s' hq=>?_);cases r with
 | error e=>
  let(_,_,_,_,_,_,_,_,hE):=hq;show hE.elim
 | ok fl=>cases fl <;> show hq
def Tn(c:DT)(tb:DS):DS:=λDn ρ M=>∃W:Nat->En->Ms->Prop,(∃m,W m ρ M)/\∀m ρ M,W m ρ M->
 c ρ M (λb M1=>(b=true->∃N:En->Ms->Prop,(∀ρ' M',N ρ' M'->∃m',m' < m/\W m' ρ' M')/\tb {Dn with nx:=N,ct:=N,bk:=Dn.nx} ρ M1)/\(b=false->Dn.nx ρ M1)) Dn.x
def aaY(i j:Nat)(t:DA):DS:=λDn ρ M=>t ρ M (λds M1=>match ds with
 | [a,b]=>Dn.nx ((ρ.set i (!a)).set j (!b)) M1
 | _=>False) Dn.x
section
variable{X:Cx}{R:St->XK}{c a b:Expr}{body:List Stmt}{tc:DT}{tb:DS}{pos:Pos}
noncomputable def oS(hc:JT X R c tc)(hb:DZ X R body tb)(hp:PassesOwn (model X.prog X.w) X.A X.env X.xe:=by first| exact PassesOwn.never| exact PassesOwn.leaving):JS X R (.While c body [] pos) (Tn tc tb):=.of (Kf hp hc hb) λσ H G L ρ M Dn rl n h hx=>by
 let(W,(m0,w0),turn):=h;show(λm σ' H'=>fH X.K G L H (W m) σ' H',(m0,ρ,G,L,M,.refl _ _ _,rl,n,w0),λm σ' H' xz=>?_);let(ρ',G',L',M',e',r',n',w'):=xz;show(G',L',ρ',M',_,_,r',n',turn m ρ' M' w',hx.on e',λv H1 xz=>?_);let(G1,L1,M1,e1,r1,h1):=xz;cases v with
 | true=>
  let(N,hN,hb):=h1.1 rfl;show Hr (fH X.K G L H N,fun σ2 H2 (ρ2,G2,L2,M2,e2,r2,n2,h2)=>?_,?_)
  .let(m',hm,w2):=hN ρ2 M2 h2;show(m',hm,ρ2,G2,L2,M2,e2,r2,n2,w2)
  .let WI:=e'.trans e1;show(G1,L1,ρ',M1,_,r1,n'.mono e1,hb,hx.on WI,(λ_ _ f=>fH.back WI f,λ_ _ f=>Fin.back WI f,λ_ _ f=>fH.back WI f,λ_ _ f=>fH.back WI f))
 | false=>show HR (ρ',G1,L1,M1,e'.trans e1,r1,n'.mono e1,h1.2 rfl)
def Mm{i j:Nat}{kt k2 R6}(hN:X.N.Nodup)(hi:X.N[i]? =!x)(hj:X.N[j]? =!y)(ha:JA X R [a,b] t)(Y':i≠j|>2)
  (hx:X.env.scope.names.lookup x=some .local|>1) (hy:X.env.scope.names.lookup y=some .local|>1)
  (hw:swappedStores [.Tuple [.Name x px,.Name y py] kt pt] (.Tuple [a,b] k2 R6) X.env=pure (![x,y])|>1) (hc:X.calm=true|>1)
  (hs:swapsWithSole [.Tuple [.Name x px,.Name y py] kt pt] (.Tuple [a,b] k2 R6) pos.line X.env=pure false|>1):
  JS X R (.Assign [.Tuple [.Name x px,.Name y py] kt pt] (.Tuple [a,b] k2 R6) pos) (aaY i j t):=.of (RM hc hN hi hj Y' hx hy ha hw hs) λσ H G L ρ M Dn rl n h hx=>by
 show(G,L,ρ,M,_,_,rl,n,h,hx,λvs H1 xz=>?_);let(ds,G1,L1,M1,e1,r1,n1,h1):=xz
 (try dsimp only at h1)
 split at h1
 .let(v,u,rfl,m1,m2):=gJ n1;show(v,u,rfl,_,G1,L1,M1,e1,r1,((n.mono e1).set i m1).set j m2,h1)
 .show h1.elim
end
section
variable{X:Cx}{R:St->XK}{e e2 o:Expr}{es:List Expr}{t:DA}{to ta tb:DE}{a b:Expr}{p pos apos df:Pos}
def FY(hm:X.mg "abs"=none)(ha:JA X R [e] t)(he:starEach [e] X.env=(false, eval e X.env)::starEach [] X.env|>1)(f_:(backTo pos (starEach [] X.env)).any (·.1)=false|>1)(hg:Gl X "abs"|>1):JE X R (.Call (.Name "abs" p) [e] [] pos) (C4 Q9 t):=
 g9 M7 Y3 hm HC ha hg @_ @_ he f_
def Vp(hm:X.mg "min"=none)(ha:JA X R [e,e2] t)(hc:X.calm=true|>1)(he:starEach [e,e2] X.env=(false, eval e X.env)::starEach [e2] X.env|>1)(f_:(backTo pos (starEach [e2] X.env)).any (·.1)=false|>1)(hg:Gl X "min"|>1):JE X R (.Call (.Name "min" p) [e,e2] [] pos) (C4 MC t):=
 g9 (Iz hc) ab0 hm Hq ha hg @_ @_ he f_
def WZ(hm:X.mg "any"=none)(ha:JA X R [e] t)(hc:X.calm=true|>1)(he:starEach [e] X.env=(false, eval e X.env)::starEach [] X.env|>1)(f_:(backTo pos (starEach [] X.env)).any (·.1)=false|>1)(hg:Gl X "any"|>1):JE X R (.Call (.Name "any" p) [e] [] pos) (C4 Sr t):=
 g9 (KL hc) Z8 hm Hi ha hg @_ @_ he f_
def LS(hm:X.mg "int"=none)(ha:JA X R [e] t)(he:starEach [e] X.env=(false, eval e X.env)::starEach [] X.env|>1)(f_:(backTo pos (starEach [] X.env)).any (·.1)=false|>1)(hg:Gl X "int"|>1):JE X R (.Call (.Name "int" p) [e] [] pos) (C4 CN t):=
 ui (I0.or zI) abZ hm xy ha hg @_ @_ he f_
end
def ql{te:DE}{cs:En}{f:Dt->Dt}{k:List Dt->Ms->Prop}:∀(xs Μ:List Dt),(∀x∈xs,∀q:DQ,q (f x) M->te ((!x)::cs) M q mD)->k (Μ++xs.map f) M->wX te cs xs Μ M k
 | [],Μ,_,h=>by rw[adw,abw]at h;show h
 | x::xs,Μ,ht,h=>ht x List.mem_cons_self _ (ql xs (Μ++[f x]) (λy hy=>ht y (List.mem_cons_of_mem _ hy)) (by simpa using h))
def Ε{q:DQ}(hs:gR M d=!xs)(h:jT xs i=!y)(k:q y M):aW d (.int i) M q:=by
 cases d with
 | str z=>cases hs
 | _=>
  unfold aW;simp only[hs,h];show k
def af{xs:List Dt}{q:DQ}(hs:gR M d=!xs)(k:q (.int (-xs)) M):eQ [d] M q:=by
 cases d with
 | str z=>cases hs
 | _=>
  unfold eQ;simp only[hs];show k
def aF{α:Type}{x:α}{xs:List α}:jT (x::xs) 0=!x:=Θ (j:=0) rfl
def Ju(bs:List Bool):(List.range (-bs)).all (λi=>bs.getD i false)=bs.all id:=by
 induction bs with
 | nil=>rfl
 | cons b bs ih=>
  rw[aaN,acq,acT,List.all_map,acT,<-ih];rfl
def VO(K:fI):List V->Hp->VK->Prop:=λxs H Q=>∃(p:Addr) (bs:List Bool),xs=[.ref p]/\h7 K H p (bs.map V.bl)/\Q (.bl (bs.all id)) H
section
variable{X:Cx}
def LL (hc : X.calm = true) : eD X (.builtin "all") (VO X.K) :=by
  intro η s σ H xs us Q I r h;obtain⟨p,bs,rfl,hq,q⟩ :=h;obtain⟨u,rfl,r1⟩ :=lS r;cases r1;obtain⟨its,rv,pl,hz⟩ :=I.list hq;let Th :=AA rv;subst Th;show call_all_walk (wpAny_pyIter_list pl.isList ?_);let lp : p < s.heap.objs.size :=by obtain⟨o,e,_⟩ :=pl.isList;show aaV e
  show(s.heap.objs.size,_,_,_,_,_,λi =>bs.getD i false,rfl,Walks.list (show X.A.in1.handled = none from I.ok.hd hc) s.heap.objs.size p (abF lp) (bs.map Value.bool).toArray,((_,abz _ rfl,rfl,rfl),pl.isList.at λo e =>aat _ e),By,λh' tk hk =>?_);show(.bl (bs.all id),H,I.kept λb o e =>hk b o (λz =>by have : b = s.heap.objs.size :=(by simpa using z);show Nat.lt_irrefl _ (this ▸ Heap.lt_size e)) (Heap.get?_push_of_some _ e),?_,q);rw[aa5,aae,Ju];rfl
end
def Rk:List Dt->Ms->DQ->Prop
 | [.lst xs],M,q=>∃bs:List Bool,xs=bs.map Dt.bl/\q (.bl (bs.all id)) M
 | _,_,_=>False
def aaj{K:fI}:EC K (VO K) Rk:=by
 intro G0 L0 H0 G L M H vs ds q e r n h;unfold Rk at h;split at h
 .rename_i xs;let(bs,rfl,h):=h;let(v,rfl,n1):=bD n;let(a,ws,rfl,e1,m):=n1;show(a,bs,rfl,by rw[<-pC m];show .of (r.sub _ _ e1),bw e r h)
 .show h.elim
def U_(i j:Nat)(t:DE):DS:=λDn ρ M=>t ρ M (λd M1=>match d with
 | .tup [a,b]=>Dn.nx ((ρ.set i (!a)).set j (!b)) M1
 | _=>False) Dn.x
section
variable{X:Cx}{R:St->XK}{e o:Expr}{es:List Expr}{t:DA}{to te:DE}{p pos apos df:Pos}
def Jb:bootBuiltins "all"=!(.builtin "all"):=by decide+kernel
def K1(hm:X.mg "all"=none)(ha:JA X R [e] t)(hc:X.calm=true|>1)(he:starEach [e] X.env=(false, eval e X.env)::starEach [] X.env|>1)(f_:(backTo pos (starEach [] X.env)).any (·.1)=false|>1)(hg:Gl X "all"|>1):JE X R (.Call (.Name "all" p) [e] [] pos) (C4 Rk t):=
 g9 (LL hc) aaj hm Jb ha hg @_ @_ he f_
variable{i j k:Nat}{tg:Expr}
def NZ(he:JE X R e te)(hg:PG X tg (MY X.K 2 (oY (jE i) (oY (jE j) JR))))(hs:swapsWithSole [tg] e pos.line X.env=pure false|>1)(hw:swappedStores [tg] e X.env=pure none|>1)
  (h1:(assignEach [tg] X.env).map (·.2)=[assign tg X.env]|>1):JS X R (.Assign [tg] e pos) (U_ i j te):=.of (LQ he hg hs hw h1) λσ H G L ρ M Dn rl n h hx=>by
 show(G,L,ρ,M,_,_,rl,n,h,hx,λv H1 xz=>?_);let(d1,G1,L1,M1,e1,r1,n1,h1):=xz
 (try dsimp only at h1)
 split at h1
 .rename_i a b;let(p,vs,rfl,e,m):=n1;let(v1,v2,rfl,m1,m2):=gJ m;show(p,_,rfl,.inl (.inl (r1.sub _ _ e)),rfl,v1,_,rfl,v2,_,rfl,rfl,_,G1,L1,M1,e1,r1,((n.mono e1).set i m1).set j m2,h1)
 .show h1.elim
end
mutual
def Dt.under(n:Nat):Dt->Prop
 | .bc=>True
 | .bl _=>True
 | .int _=>True
 | .str _=>True
 | .tup ds=>Dt.ck n ds
 | .lst ds=>Dt.ck n ds
 | .obj _ _ ds=>Dt.ck n ds
 | .loc k=>k < n
 | .ref _=>True
 | .ty _=>True
 | .i_ _=>True
 | .kt ds=>Dt.ck n ds
 | .exc _ _ ds=>Dt.ck n ds
 | .Ub _ _ _ _ ds=>Dt.ck n ds
def Dt.ck(n:Nat):List Dt->Prop
 | []=>True
 | d::ds=>Dt.under n d/\Dt.ck n ds
end
def MO.under(n:Nat):MO->Prop
 | .lst ds=>Dt.ck n ds
 | .ins _ _ ds=>Dt.ck n ds
 | .c_ _ ds=>Dt.ck n ds
 | .raw _=>True
mutual
inductive JG(n:Nat)(E:Ms):Dt->Dt->Prop
 | old {d:Dt} (h:d.under n):JG n E d d
 | tup {ds es:List Dt} (h:kq n E ds es):JG n E (.tup ds) (.tup es)
 | lst {ds es:List Dt} (h:kq n E ds es):JG n E (.lst ds) (.lst es)
 | obj {C:Addr} {ns:List Str} {ds es:List Dt} (h:kq n E ds es):JG n E (.obj C ns ds) (.obj C ns es)
 | Kt {k:Nat} {ds es:List Dt} (hk:n<=k) (e:E[k - n]? =!(.lst ds)) (h:kq n E ds es):JG n E (.loc k) (.lst es)
 | ZV {k:Nat} {C:Addr} {ns:List Str} {ds es:List Dt} (hk:n<=k) (e:E[k - n]? =!(.ins C ns ds)) (h:kq n E ds es):JG n E (.loc k) (.obj C ns es)
inductive kq(n:Nat)(E:Ms):List Dt->List Dt->Prop
 | nil:kq n E [] []
 | cons {d e:Dt} {ds es:List Dt} (h:JG n E d e) (t:kq n E ds es):kq n E (d::ds) (e::es)
end
def kq.length:∀{ds es:List Dt},kq n E ds es->-ds=-es
 | [],es,h=>by cases h;rfl
 | d::ds,es,h=>by
  cases h with
  | cons h t=>rw[aaN,aaN,kq.length t]
def kq.old:∀{ds:List Dt},Dt.ck n ds->kq n E ds ds
 | [],_=>.nil
 | _::_,h=>.cons (.old h.1) (kq.old h.2)
section
variable{K:fI}{G G':Hp}{L0 t:List Addr}{n:Nat}
mutual
def xB(hn:-L0=n)(g:eU G G'):∀(d:Dt) (v:V),d.under n->Den K G (L0++t) d v->Den K G' L0 d v
 | .bc,_,_,h=>h
 | .bl _,_,_,h=>h
 | .int _,_,_,h=>h
 | .str _,_,_,h=>h
 | .tup ds,_,u,(a,vs,e,h1,h2)=>(a,vs,e,g _ _ h1,cj hn g ds vs u h2)
 | .lst ds,_,u,(a,vs,e,h1,h2)=>(a,vs,e,g _ _ h1,cj hn g ds vs u h2)
 | .obj C ns ds,_,u,(a,dx,vs,e,h1,hl,h2)=>(a,dx,vs,e,g _ _ h1,hl,cj hn g ds vs u h2)
 | .loc k,_,u,(a,e,h1)=>(a,e,by
   let u:k < n:=u
   rwa[aaD (by rw[hn];show u)]at h1)
 | .ref _,_,_,h=>h
 | .ty _,_,_,h=>h
 | .i_ _,_,_,(a,e,h1)=>(a,e,g.seq h1)
 | .kt ds,_,u,(a,vs,e,h1,h2)=>(a,vs,e,g.Wg h1,cj hn g ds vs u h2)
 | .exc _ _ ds,_,u,(a,od,vs,e,h1,h2,h3,h4)=>(a,od,vs,e,g _ _ h1,h2.imp (λz=>z) (λ(dx,z1,z2)=>(dx,z1,g _ _ z2)),h3,cj hn g ds vs u h4)
 | .Ub _ _ _ _ ds,_,u,(vs,e,h2,h3,h4)=>(vs,e,h2.imp (λz=>z) (λ(dx,z1,z2)=>(dx,z1,g _ _ z2)),h3,cj hn g ds vs u h4)
def cj(hn:-L0=n)(g:eU G G'):∀(ds:List Dt) (vs:List V),Dt.ck n ds->Τ K G (L0++t) ds vs->Τ K G' L0 ds vs
 | [],_,_,h=>h
 | d::ds,_,u,(v,r,e,h1,h2)=>(v,r,e,xB hn g d v u.1 h1,cj hn g ds r u.2 h2)
end
def IT{H:Hp}(hn:-L0=n)(g:eU G G'){m:MO}(u:m.under n)(h:JD K G (L0++t) H a m):JD K G' L0 H a m:=by
 cases m with
 | lst ds=>let(vs,e,h):=h;show(vs,e,cj hn g _ _ u h)
 | ins C ns ds=>let(dx,vs,e,hl,h):=h;show(dx,vs,e,hl,cj hn g _ _ u h)
 | c_ ks ds=>let(vs,e,hl,h):=h;show(vs,e,hl,cj hn g _ _ u h)
 | raw u=>show h
end
open Classical in
noncomputable def sH(G H:Hp)(t:List Addr):Hp:=λb=>if b∈t then H b else G b
def Gi{H:Hp}{t:List Addr}{b:Addr}(h:b∈t):sH G H t b=H b:=by unfold sH;rw[if_pos h]
def oO{H:Hp}{t:List Addr}{b:Addr}(h:b∉t):sH G H t b=G b:=by unfold sH;rw[if_neg h]
section
variable{K:fI}{G:Hp}{L0 t:List Addr}{M0 E:Ms}{H:Hp}
def jP(r:Rl K G (L0++t) (M0++E) H):eU G (sH G H t):=λb u e=>by
 by_cases hb:b∈t
 .let(_,_,_,_,g,_):=r.zD (a:=b) (aaJ _ hb);rw[g]at e;cases e
 .rw[oO hb];show e
def LM(r:Rl K G (L0++t) (M0++E) H)(hn:-L0=-M0){k:Nat}(hk:-M0<=k)(e:(L0++t)[k]? =!a)(em:E[k - -M0]? =!m):sH G H t a=H a/\JD K G (L0++t) H a m:=by
 let e2:(M0++E)[k]? =!m:=by rw[aay hk];show em
 let(_,q):=r.fK k a m e e2;rw[aay (by rw[hn];show hk)]at e;show(Gi (aap e),q)
def Pu(r:Rl K G (L0++t) (M0++E) H)(hn:-L0=-M0)(f:JG (-M0) E d d'):∀v,Den K G (L0++t) d v->Den K (sH G H t) L0 d' v:=by
 show JG.rec (motive_1:=λd d' _=>∀v,Den K G (L0++t) d v->Den K (sH G H t) L0 d' v) (motive_2:=λds es _=>∀vs,Τ K G (L0++t) ds vs->Τ K (sH G H t) L0 es vs) ?_ ?_ ?_ ?_ ?_ ?_ ?_ ?_ f
 .exactλ{d} u v h=>xB hn (jP r) d v u h
 .exactλ{ds es} f ih v (a,vs,e,h1,h2)=>(a,vs,e,jP r _ _ h1,ih vs h2)
 .exactλ{ds es} f ih v (a,vs,e,h1,h2)=>(a,vs,e,jP r _ _ h1,ih vs h2)
 .exactλ{C ns ds es} f ih v (a,dx,vs,e,h1,hl,h2)=>(a,dx,vs,e,jP r _ _ h1,hl.trans (-f),ih vs h2)
 .intro k ds es hk em f ih v ⟨a,e,h1⟩;let(o,vs,e1,h2):=LM r hn hk h1 em;show(a,vs,e,o.trans e1,ih vs h2)
 .intro k C ns ds es hk em f ih v ⟨a,e,h1⟩;let(o,dx,vs,e1,hl,h2):=LM r hn hk h1 em;show(a,dx,vs,e,o.trans e1,hl.trans (-f),ih vs h2)
 .exactλvs h=>h
 .exactλ{d e ds es} f t ih1 ih2 vs (v,r,e,h1,h2)=>(v,r,e,ih1 v h1,ih2 r h2)
end
def Zo(n:Nat)(q:DQ):DQ:=λd M=>∃M' E d',M=M'++E/\-M'=n/\(∀m∈M',MO.under n m)/\JG n E d d'/\q d' M'
def Fin.xD{K:fI}{q:DQ}{H:Hp}(r0:Rl K G0 L0 M0 H0)(f:Fin K G0 L0 H0 (Zo (-M0) q) v H):Fin K G0 L0 H0 q v H:=by
 let(d,G,L,M,ex,r,dn,M',E,d',rfl,hl,hu,fz,hq):=f;let(t,rfl):=ex.l;let hn:-L0=-M':=by rw[hl];show r0.len
 let dis:∀b,b∈L0->b∉t:=λb h1 h2=>(ac0.mp r.nd).2.2 b h1 b h2 rfl;let sm:=jP r;show(d',sH G H t,L0,M',(ex.g.trans sm,.refl _,λb h1 h2=>?_,ex.out,λb h=>.inl h,ex.Gf),(λb u e=>?_,hn,(ac0.mp r.nd).1,λk a m h1 h2=>?_),Pu r hn (hl▸fz) v dn,hq)
 .let hb:b∉t:=λz=>(ex.new b (aaJ _ z)).elim (λy=>dis b y z) h2;rw[oO hb];show ex.fr b h1 h2
 .by_cases hb:b∈t
  .rw[Gi hb]at e;show e
  .rw[oO hb]at e;show r.sub b u e
 .let k1:k < -L0:=(aai.mp h1).1;let e1:(L0++t)[k]? =!a:=by rw[aaD k1];show h1
  let e2:(M'++E)[k]? =!m:=by rw[aaD (by rw[<-hn];show k1)];show h2
  let(g,q):=r.fK k a m e1 e2;show(by rw[oO (dis a (aap h1))];show g,IT (n:=-M') hn sm (by rw[hl];show hu m (aap h2)) q)
section
variable{X:Cx}{R:St->XK}{e:Expr}{t:DE}
def iA{st:Stmt}:JS X R st (λ_ _ _=>False):=λ_ _ _ _ _ _ (_,_,_,_,_,_,_,h,_,_)=>h.elim
end
def MT(C:Addr)(m:Str)(sp:Sp)(pT:List V)(R:St->XK)(ta:TE)(t:TA):TE:=λσ H Q=>ta σ H λx H1=>∃a dx fs,x= .ref a/\H1 a=!(.ins C dx fs)/\fs.lookup m=none/\
 t σ H1 λvs H2=>sp (x::(vs++pT)) H2 Q (R σ)
def Tu(C:Addr)(sp:Sp)(pT:List V)(R:St->XK)(t:TA):TE:=λσ H Q=>t σ H λvs H1=>∀x dx,H1 x=none->H1 dx=none->dx≠x->
 sp (.ref x::(vs++pT)) (upd (upd H1 dx (.own x)) x (.ins C dx [])) (λv H2=>v= .bc/\Q (.ref x) H2) (R σ)
section
variable{X:Cx}{CX:BR}{k:Nat}{f C:Addr}{fd:FuncData}{ps:List Str}{sp:Sp}{pT:List V}{ds:List Value}{R:St->XK}{x m:Str}{p pos apos:Pos}{e o:Expr}{es:List Expr}{ta:TE}{t:TA}
set_option tactic.hygienic false
def LH(he:PE X o ta)(c:Gr X.K C)(hm:PV X.K C m f)(F:ao X.prog X.w X.K X.mg X.base CX k f fd ps sp)(hr:bI k X.A)(hb:i5 X.K fd ps ds)(hd:aC pT ds)(hx:cM CX X R)(ha:PA X (e::es) t)
  (OJ:starEach (e::es) X.env=(false, eval e X.env)::starEach es X.env|>1) (f_:(backTo pos (starEach es X.env)).any (·.1)=false|>1)
  (ht:eval (.Call (.Attribute o m apos) (e::es) [] pos) X.env=(do
   let  ov<-eval o X.env
   standAt apos.atName
   let (f, first)<-holding [ov] (getMethod ov m pl)
   callWith pos f first (backTo pos (starEach (e::es) X.env)) (backToKw pos (keywordEach [] X.env)))|>1):
  PE X (.Call (.Attribute o m apos) (e::es) [] pos) (MT C m sp pT R ta t):=by
 intro η s σ H Q I h;show PySem.W.methodCall_KW (pl:=pl) (bG (he η s σ H _ I h) λu s1 xz=>?_) ht;let(x,H1,I1,rx,a,dx,fs,ex,ea,l,q):=xz;subst ex;obtain rfl:u=Value.ref a:=rx;show u9 I1 ea c hm l ?_;show PySem.W.callWith_K (first:=[.ref a]) (h₀:=X.base) I.ok.mod.T' hm.kp (bG (ha pos η s1 σ H1 _ I1 q) fun us s2 (vs,H2,I2,r,q2)=>(I2.pU,?_)) OJ f_;show yu (us:=.ref a::us) (vs:=.ref a::vs) F hr hb hd hx I2 (.cons rfl r) q2
def Hk(he:PE X o ta)(c:Gr X.K C)(hm:PV X.K C m f)(F:ao X.prog X.w X.K X.mg X.base CX k f fd ps sp)(hr:bI k X.A)(hb:i5 X.K fd ps ds)(hd:aC pT ds)(hx:cM CX X R)
  (ht:eval (.Call (.Attribute o m apos) [] [] pos) X.env=(do
   let  ov<-eval o X.env
   standAt apos.atName
   let (f, first)<-holding [ov] (getMethod ov m pl)
   callWith pos f first (backTo pos (starEach [] X.env)) (backToKw pos (keywordEach [] X.env)))|>1):
  PE X (.Call (.Attribute o m apos) [] [] pos) (MT C m sp pT R ta SN):=by
 intro η s σ H Q I h;show PySem.W.methodCall_KW (pl:=pl) (bG (he η s σ H _ I h) λu s1 xz=>?_) ht;let(x,H1,I1,rx,a,dx,fs,ex,ea,l,q):=xz;subst ex;obtain rfl:u=Value.ref a:=rx;show u9 I1 ea c hm l ?_;show PySem.W.callWith_K0 (first:=[.ref a]) I1.pU hm.kp (yu (us:=[.ref a]) (vs:=[.ref a]) F hr hb hd hx I1 (.cons rfl .nil) q)
def Hw{H:Hp}{Q:VK}(M:Mk X.K C f)(F:ao X.prog X.w X.K X.mg X.base CX k f fd ps sp)(hr:bI (k+1) X.A)(hb:i5 X.K fd ps ds)(hd:aC pT ds)
  (hx:cM CX X R) (I:Inv X η σ H s) (r:aC vs us)
  (h:∀x dx,H x=none->H dx=none->dx≠x->sp (.ref x::(vs++pT)) (upd (upd H dx (.own x)) x (.ins C dx [])) (λv H2=>v= .bc/\Q (.ref x) H2) (R σ)):
  wpAny (model X.prog X.w) X.A (call (.ref C) us) (EP X η σ Q) X.xe s:=by
 let hq:=h (s.heap.objs.size+1) s.heap.objs.size (I.aS.fresh (Nat.le_succ _)) (I.aS.fresh (aaq _)) (abF (acd _));let I2:=Inv.made (C:=C) I;let r2:aC (V.ref (s.heap.objs.size+1)::(vs++pT)) (Value.ref (s.heap.objs.size+1)::(us++ds)):=.cons rfl (r.append hd);let hl:-(Value.ref (s.heap.objs.size+1)::us++ds)=-ps:=by let e:=-r2;rw[F.len _ _ _ _ hq]at e;show e.symm
 show wpAny_call (KZ (f:=f) I.pU M.makes M.init (acH.mp M.fn) (codeAny_mono (F.run _ X.stack _ _ (Value.ref (s.heap.objs.size+1)::us,[]) (Value.ref (s.heap.objs.size+1)::(us++ds)) _ _ (R σ) (hr.make C us [])
  (I2.TY.make C us []) (hb _ (Value.ref (s.heap.objs.size+1)::us) I2.pU hl) r2 hq) λr s' w8=>?_))
 cases r with
 | error e=>show hx η σ _ _ e s' I2 w8
 | ok fl=>
  cases fl with
  | ret u=>
   let(v,H',I3,rv,ev,q3):=I2.after w8;subst ev;show(rv,(V.ref (s.heap.objs.size+1),H',I3,rfl,q3))
  | next=>show False.elim w8
  | brk=>show False.elim w8
  | cont=>show False.elim w8
def Lo(M:Mk X.K C f)(F:ao X.prog X.w X.K X.mg X.base CX k f fd ps sp)(hr:bI (k+1) X.A)(hg:Gl X x)(hm:X.mg x=!(.ref C))(hb:i5 X.K fd ps ds)(hd:aC pT ds)(hx:cM CX X R)
  (ha:PA X (e::es) t) (mw:(x==("__debug__":Str))=false|>2) (he:starEach (e::es) X.env=(false, eval e X.env)::starEach es X.env|>1) (f_:(backTo pos (starEach es X.env)).any (·.1)=false|>1):
  PE X (.Call (.Name x p) (e::es) [] pos) (Tu C sp pT R t):=by
 intro η s σ H Q I h;show wpAny_Call_Name_kw (oX I hg hm ?_ mw);show PySem.W.callWith_K (h₀:=X.base) I.ok.mod.T' M.kp (bG (ha pos η s σ H _ I h) fun us s1 (vs,H1,I1,r,q)=>(I1.pU,?_)) he f_;show Hw M F hr hb hd hx I1 r q
end
def TV(C:Addr)(M:Ms)(d:Dt)(ns:List Str)(ds:List Dt):Prop:=d= .obj C ns ds\/∃k,d= .loc k/\M[k]? =!(.ins C ns ds)
section
variable{K:fI}{G:Hp}{L:List Addr}{M:Ms}{H:Hp}{C:Addr}{d:Dt}{v:V}{ns:List Str}{ds:List Dt}
def J6(r:Rl K G L M H)(n:Den K G L d v)(o:TV C M d ns ds):∃a dx vs,v= .ref a/\H a=!(.ins C dx (ns.zip vs))/\-ns=-ds/\Τ K G L ds vs:=by
 rcases o with rfl| ⟨k,rfl,hm⟩
 .let(a,dx,vs,e,h1,hl,h2):=n;show(a,dx,vs,e,r.sub _ _ h1,hl,h2)
 .let(a,e,h1):=n;let(_,dx,vs,h2,hl,h3):=r.fK k a _ h1 hm;show(a,dx,vs,e,h2,hl,h3)
def BY:∀{ns:List Str} {ds:List Dt} {vs:List V} {d:Dt},Τ K G L ds vs->(ns.zip ds).lookup f=!d->∃v,(ns.zip vs).lookup f=!v/\Den K G L d v
 | [],_,_,_,_,h=>by simp at h
 | _::_,[],_,_,_,h=>by simp at h
 | g::ns,d::ds,_,d',(v,r,rfl,h1,h2),h=>by
  rw[ab9,acg]at h;rw[ab9,acg];cases q:f==g with
  | true=>rw[q]at h;cases h;show(v,rfl,h1)
  | false=>rw[q]at h;show BY h2 h
def uI:∀{ns:List Str} {ds:List Dt} {vs:List V},Τ K G L ds vs->(ns.zip ds).lookup f=none->(ns.zip vs).lookup f=none
 | [],_,_,_,_=>by simp
 | _::_,[],_,h,_=>by let h:_=_:=h;subst h;simp
 | g::ns,d::ds,_,(v,r,rfl,h1,h2),h=>by
  rw[ab9,acg]at h;rw[ab9,acg];cases q:f==g with
  | true=>rw[q]at h;cases h
  | false=>rw[q]at h;show uI h2 h
def CF{f:Str}{v:V}:∀{ns:List Str} {vs:List V},-ns=-vs->f∉ns->kO f v (ns.zip vs)=(ns++[f]).zip (vs++[v])
 | [],[],_,_=>rfl
 | g::ns,x::vs,hl,h=>by let hg:¬g=f:=λz=>h (by rw[z];show aah);change(if g=f then (g, v)::ns.zip vs else (g, x)::kO f v (ns.zip vs))=(g, x)::(ns++[f]).zip (vs++[v]);rw[if_neg hg,CF (by simpa using hl) λz=>h (List.mem_cons_of_mem _ z)]
 | [],_::_,hl,_=>by simp at hl
 | _::_,[],hl,_=>by simp at hl
end
def ZG(C:Addr)(f:Str)(t:DE):DE:=λρ M q x=>t ρ M (λd M1=>∃ns ds v,TV C M1 d ns ds/\(ns.zip ds).lookup f=!v/\q v M1) x
def Qu(C:Addr)(m:Str)(T:DF)(to:DE)(ta:DA):DE:=λρ M q x=>to ρ M (λd M1=>(∃ns ds,TV C M1 d ns ds/\(ns.zip ds).lookup m=none)/\ta ρ M1 (λds M2=>T (d::ds) M2 q (λC fs M'=>x ρ C fs M')) x) x
def UA(C:Addr)(T:DF)(ta:DA):DE:=λρ M q x=>ta ρ M (λds M1=>T (.loc (-M1)::ds) (M1++[.ins C [] []]) (λd M2=>d= .bc/\q (.loc (-M1)) M2) (λC fs M'=>x ρ C fs M')) x
def QC(C:Addr)(f:Str)(to tv:DE):DS:=λDn ρ M=>tv ρ M (λy M1=>to ρ M1 (λd M2=>∃k ns ds,d= .loc k/\M2[k]? =!(.ins C ns ds)/\f∉ns/\-ns < 1000/\Dn.nx ρ (M2.set k (.ins C (ns++[f]) (ds++[y])))) Dn.x) Dn.x
structure dD(P:Program)(w:World)(K:fI)(mg:Str->Option Value)(base:Heap)(k:Nat)(C:Addr)(m:Str)(ps:List Str)(T:DF)(f:Addr)(fd:FuncData):Prop where
 ok:ao P w K mg base (bO P w) k f fd ps (b8 K T)
 b:i5 K fd ps []
 c:Gr K C
 m:PV K C m f
structure Sx(P:Program)(w:World)(K:fI)(mg:Str->Option Value)(base:Heap)(k:Nat)(x:Str)(C:Addr)(ps:List Str)(T:DF)(f:Addr)(fd:FuncData):Prop where
 ok:ao P w K mg base (bO P w) k f fd ps (b8 K T)
 b:i5 K fd ps []
 k:Mk K C f
 m:mg x=!(.ref C)
section
variable{X:Cx}{R:St->XK}{C:Addr}{f m x:Str}{T:DF}{k k':Nat}{a:Addr}{fd:FuncData}{ps:List Str}{e o value:Expr}{es:List Expr}{pos pos' apos p:Pos}{to te tv:DE}{ta:DA}
set_option tactic.hygienic false
def uW(c:Gr X.K C)(n:jn X.K C f)(he:JE X R e te)(hb:attributeBase e f X.env (eval e X.env)=eval e X.env|>1):JE X R (.Attribute e f pos) (ZG C f te):=
 .of (R4 he hb) λσ H G L ρ M q x rl en h hx=>by show(G,L,ρ,M,_,x,rl,en,h,hx,λv H1 xz=>?_);let(d1,G1,L1,M1,e1,r1,n1,ns,ds,y,ob,hl,h1):=xz;let(p,dx,vs,rfl,hp,_,dn):=J6 r1 n1 ob;let(u,hu,du):=BY dn hl;show(p,C,dx,_,u,rfl,hp,c,n,hu,y,G1,L1,M1,e1,r1,du,h1)
def b9(D:dD X.prog X.w X.K X.mg X.base k C m ps T a fd)(hr:bI k' X.A)(hx:cM (bO X.prog X.w) X R)(ho:JE X R o to)(ha:JA X R (e::es) ta)(hk:k<=k'|>2)
  (OJ:starEach (e::es) X.env=(false, eval e X.env)::starEach es X.env|>1) (f_:(backTo pos (starEach es X.env)).any (·.1)=false|>1)
  (ht:eval (.Call (.Attribute o m apos) (e::es) [] pos) X.env=(do
   let  ov<-eval o X.env
   standAt apos.atName
   let (f, first)<-holding [ov] (getMethod ov m pl)
   callWith pos f first (backTo pos (starEach (e::es) X.env)) (backToKw pos (keywordEach [] X.env)))|>1):
  JE X R (.Call (.Attribute o m apos) (e::es) [] pos) (Qu C m T to ta):=
 .of (LH (pl:=pl) ho D.c D.m D.ok (hr.mono hk) D.b .nil hx ha OJ f_ ht) λσ H G L ρ M q x rl en h hx=>by show(G,L,ρ,M,_,x,rl,en,h,hx,λv H1 xz=>?_);let(d1,G1,L1,M1,e1,r1,n1,(ns,ds,ob,hl),h1):=xz;let(p,dx,vs,rfl,hp,_,dn):=J6 r1 n1 ob;show(p,dx,_,rfl,hp,uI dn hl,G1,L1,ρ,M1,_,x,r1,en.mono e1,h1,hx.on e1,λus H2 xz=>?_);let(r8,G2,L2,M2,e2,r2,n2,h2):=xz;change b8 X.K T (V.ref p::(us++[])) H2 _ _;rw[abw];let JO:=e1.trans e2;show(G2,L2,d1::r8,M2,q,_,r2,(_,_,rfl,Den.mono e2.g e2.l _ _ n1,n2),h2,λv H' f=>Fin.back JO f,λC fs M' G' L' H' od hq e' r' y=>hx σ ρ C fs M' G' L' H' od hq (JO.trans e') r' (en.mono (JO.trans e')) y)
def lT(D:dD X.prog X.w X.K X.mg X.base k C m ps T a fd)(hr:bI k' X.A)(hx:cM (bO X.prog X.w) X R)(ho:JE X R o to)(hk:k<=k'|>2)
  (ht:eval (.Call (.Attribute o m apos) [] [] pos) X.env=(do
   let  ov<-eval o X.env
   standAt apos.atName
   let (f, first)<-holding [ov] (getMethod ov m pl)
   callWith pos f first (backTo pos (starEach [] X.env)) (backToKw pos (keywordEach [] X.env)))|>1):
  JE X R (.Call (.Attribute o m apos) [] [] pos) (Qu C m T to Ts):=
 .of (Hk (pl:=pl) ho D.c D.m D.ok (hr.mono hk) D.b .nil hx ht) λσ H G L ρ M q x rl en h hx=>by show(G,L,ρ,M,_,x,rl,en,h,hx,λv H1 xz=>?_);let(d1,G1,L1,M1,e1,r1,n1,(ns,ds,ob,hl),h1):=xz;let(p,dx,vs,rfl,hp,_,dn):=J6 r1 n1 ob;show(p,dx,_,rfl,hp,uI dn hl,?_);change b8 X.K T (V.ref p::([]++[])) H1 _ _;show(G1,L1,[d1],M1,q,_,r1,(_,_,rfl,n1,rfl),h1,λv H' f=>Fin.back e1 f,λC fs M' G' L' H' od hq e' r' y=>hx σ ρ C fs M' G' L' H' od hq (e1.trans e') r' (en.mono (e1.trans e')) y)
def Q5(D:Sx X.prog X.w X.K X.mg X.base k x C ps T a fd)(hr:bI k' X.A)(hx:cM (bO X.prog X.w) X R)(ha:JA X R (e::es) ta)(hk:k+1<=k'|>2)(hg:Gl X x|>1)(mw:(x==("__debug__":Str))=false|>2)
  (he:starEach (e::es) X.env=(false, eval e X.env)::starEach es X.env|>1) (f_:(backTo pos (starEach es X.env)).any (·.1)=false|>1):JE X R (.Call (.Name x p) (e::es) [] pos) (UA C T ta):=
 .of (Lo D.k D.ok (hr.mono hk) hg D.m D.b .nil hx ha mw he f_) λσ H G L ρ M q x rl en h hx=>by
  show(G,L,ρ,M,_,x,rl,en,h,hx,λvs H1 xz y dx hy hdx l7=>?_);let(ds,G1,L1,M1,e1,r1,n1,h1):=xz;change b8 X.K T (V.ref y::(vs++[])) _ _ _;rw[abw];let ra:=r1.Pp (o:=.own y) hdx;let ea:=r1.Ud (o:=.own y) hdx;let hy2:upd H1 dx (HO.own y) y=none:=by rw[Ρ (Ne.symm l7)];show hy
  let rb:=ra.NH (p:=y) (o:=.ins C dx []) (m:=.ins C [] []) hy2 (dx,[],av,rfl,rfl);let eb:=ra.XI (p:=y) (o:=.ins C dx []) hy2;let e2:=ea.trans eb;let JO:=e1.trans e2;show(_,_,.loc (-M1)::ds,_,_,_,rb,(_,_,rfl,(y,rfl,?_),Τ.mono e2.g e2.l _ _ n1),h1,fun v H' (d,G',L',M',e',r',dn,hd,hq)=>?_,λC fs M' G' L' H' od hq e' r' z=>hx σ ρ C fs M' G' L' H' od hq (JO.trans e') r' (en.mono (JO.trans e')) z)
  .rw[<-r1.len,List.getElem?_append_right (Nat.le_refl _)];simp
  .subst hd;show(dn,.loc (-M1),G',L',M',JO.trans e',r',(y,rfl,e'.l.get ?_),hq);rw[<-r1.len,List.getElem?_append_right (Nat.le_refl _)];simp
def GS(c:Gr X.K C)(n:jn X.K C f)(ho:JE X R o to)(hv:JE X R value tv)(hs:swapsWith value (!(.Attribute o f pos')) pos.line X.env=pure false|>1):JS X R (.Assign [.Attribute o f pos'] value pos) (QC C f to tv):=
 .of (RO ho hv hs) λσ H G L ρ M Dn rl en h hx=>by show(G,L,ρ,M,_,_,rl,en,h,hx,λy H1 xz=>?_);let(dy,G1,L1,M1,e1,r1,n1,h1):=xz;show(G1,L1,ρ,M1,_,_,r1,en.mono e1,h1,hx.on e1,λu H2 xz=>?_);let(du,G2,L2,M2,e2,r2,n2,k,ns,ds,ed,hm,hf,hz,h2):=xz;subst ed;let(p,rfl,hp):=n2;let(_,dx,vs,hH,hl,dn):=r2.fK k p _ hp hm;let hlv:-ns=-vs:=hl.trans (-dn);show(p,C,dx,_,rfl,hH,c,n,by rw[ab1,<-hlv,adf];show hz,?_);rw[CF hlv hf];show(ρ,G2,L2,_,(e1.trans e2).trans (r2.Hj hp),r2.setM (m:=.ins C (ns++[f]) (ds++[dy])) hp (dx,_,av,by rw[aak,aak,hl];rfl,dn.app (_,_,rfl,Den.mono e2.g e2.l _ _ n1,rfl)),(en.mono (e1.trans e2)).mono (r2.Hj (o:=.own p) hp),h2)
end
def Cg:List Dt->Ms->DQ->Prop
 | [d],M,q=>match gR M d with
  | some xs=>q (.loc (-M)) (M++[.lst xs])
  | none=>False
 | _,_,_=>False
section
variable{K:fI}
def W5:EC K (λxs H Q=>∃p ys,xs=[V.ref p]/\(h7 K H p ys\/pH K H p ys)/\∀l,H l=none->Q (.ref l) (upd H l (.lst ys))) Cg:=by
 intro G0 L0 H0 G L M H vs ds q e r n h;unfold Cg at h;split at h
 .rename_i d;let(v,rfl,n1):=bD n;split at h
  .rename_i xs hs;let(a,us,rfl,hq,dn):=pe r n1 hs;show(a,us,rfl,hq,λl hl=>kD e r hl dn h)
  .show h.elim
 .show h.elim
end
section
variable{X:Cx}{R:St->XK}{e o i value:Expr}{t:DA}{to ti tv:DE}{p pos apos df wj:Pos}
def zX(hm:X.mg "list"=none)(ha:JA X R [e] t)(hg:Gl X "list"|>1)(he:starEach [e] X.env=(false, eval e X.env)::starEach [] X.env|>1)(f_:(backTo pos (starEach [] X.env)).any (·.1)=false|>1):JE X R (.Call (.Name "list" p) [e] [] pos) (C4 Cg t):=
 ui yF W5 hm oo ha hg @_ @_ he f_
def SJ(to:DE)(t:DA):DE:=λρ M q x=>to ρ M (λd M1=>(∃k xs,d= .loc k/\M1[k]? =!(.lst xs))/\t ρ M1 (λds M2=>∃k xs y,d= .loc k/\ds=[y]/\M2[k]? =!(.lst xs)/\-xs < sizeLine/\q .bc (M2.set k (.lst (xs++[y])))) x) x
def fC(ho:JE X R o to)(ha:JA X R [e] t)(Na:attributeBase o "append" X.env (eval o X.env)=eval o X.env|>1)
  (R8:((backTo df (starEach [e] X.env)).all (λx=> ! x.1)&&(backToKw df (keywordEach [] X.env)).all (λx=>x.1.isSome)
   &&decide (-([e]:List Expr)+-([]:List Keyword)+(if ([]:List Keyword).isEmpty then 0 else 1) < 30))=true|>1)
  (K8:(apos.endLine==df.line)=true|>1) (hs:starEach [e] X.env=(false, eval e X.env)::starEach [] X.env|>1) (El:(backTo df (starEach [] X.env)).any (·.1)=false|>1):
  JE X R (.Call (.Attribute o "append" apos) [e] [] df) (SJ to t):=
 .of (VJ PySem.F.plainAttrs_list PySem.F.slot_list_append PySem.F.type_list_append (r:=FD) wZ ho ha Na R8 K8 hs El) λσ H G L ρ M q x rl n h hx=>by show(G,L,ρ,M,_,x,rl,n,h,hx,λv H1 xz=>?_);let(d1,G1,L1,M1,e1,r1,n1,(k,xs,ed,hm),h1):=xz;subst ed;let(a,rfl,hk):=n1;let(_,vs,hH,_):=r1.fK k a _ hk hm;show(.inl (rfl,vs,.of hH),G1,L1,ρ,M1,_,x,r1,n.mono e1,h1,hx.on e1,λus H2 xz=>?_);let(ds,G2,L2,M2,e2,r2,n2,k',xs',y,ek,ed,ZU,hz,h2):=xz;cases ek;subst ed;let(u,rfl,n3):=bD n2;let EI:=e2.l.get hk;let(_,x9,Ph,JC):=r2.fK k a _ EI ZU;show(a,x9,u,rfl,rfl,Ph,by rw[<--JC];show hz,.bc,G2,L2,_,(e1.trans e2).trans (r2.Hj EI),r2.setM (m:=.lst (xs'++[y])) EI (_,av,JC.app (_,_,rfl,n3,rfl)),rfl,h2)
def zf(to ti tv:DE):DS:=λDn ρ M=>tv ρ M (λy M1=>to ρ M1 (λd M2=>ti ρ M2 (λdi M3=>∃k i xs j,d= .loc k/\di= .int i/\M3[k]? =!(.lst xs)/\Io (-xs) i=!j/\Dn.nx ρ (M3.set k (.lst (xs.set j y)))) Dn.x) Dn.x) Dn.x
def pJ(ho:JE X R o to)(hi:JE X R i ti)(hv:JE X R value tv)(hs:swapsWithSole [.Subscript o i wj] value pos.line X.env=pure false|>1)(hw:swappedStores [.Subscript o i wj] value X.env=pure none|>1)
  (h1:(assignEach [.Subscript o i wj] X.env).map (·.2)=[assign (.Subscript o i wj) X.env]|>1)
  (ha:(∀v,assign (.Subscript o i wj) X.env v=(do
   let  ov<-holding [v] (eval o X.env)
   let  iv<-holding [v,ov] (eval i X.env)
   standAt wj
   holding [v,ov,iv] (setItem ov iv v)
   release [v,ov,iv] []))|>3):JS X R (.Assign [.Subscript o i wj] value pos) (zf to ti tv):=
 .of (LQ hv (Q7 (t:=Ql) ho hi Np ha) hs hw h1) λσ H G L ρ M Dn rl n h hx=>by show(G,L,ρ,M,_,_,rl,n,h,hx,λv H1 xz=>?_);let(dv,G1,L1,M1,e1,r1,n1,h1):=xz;show(G1,L1,ρ,M1,_,_,r1,n.mono e1,h1,hx.on e1,λov H2 xz=>?_);let(d,G2,L2,M2,e2,r2,n2,h2):=xz;show(G2,L2,ρ,M2,_,_,r2,(n.mono e1).mono e2,h2,(hx.on e1).on e2,λiv H3 xz=>?_);let(di,G3,L3,M3,e3,r3,n3,k,i,xs,j,ed,ei,hm,hj,h3):=xz;subst ed ei;let(a,rfl,hk):=n2;let n3:iv= .int i:=n3;subst n3;let Ba:=e3.l.get hk;let(_,vs,hH,dn):=r3.fK k a _ Ba hm;let IL:=e2.trans e3;let X3:=Den.mono IL.g IL.l _ _ n1;show(a,vs,i,j,rfl,rfl,hH,by rw[<--dn];show hj,ρ,G3,L3,_,((e1.trans e2).trans e3).trans (r3.Hj Ba),r3.setM (m:=.lst (xs.set j dv)) Ba (_,av,.of (Gj X3 j dn.pair)),(((n.mono e1).mono e2).mono e3).mono (r3.Hj (o:=.own a) Ba),h3)
end
structure Src(K:fI)(a:Addr)(xs:List Dt)(ok:Ms->Prop)(G0:Hp)(L0:List Addr):Prop where
 at_:∀G L M H,eU G0 G->Pre L0 L->Rl K G L M H->ok M->∃vs,h7 K H a vs/\Τ K G L xs vs
noncomputable def mE(M:Ms):Dt->Option (List Dt×(Ms->Prop))
 | .lst xs=>!(xs, λ_=>True)
 | .i_ ns=>!(ns.map .int, λ_=>True)
 | .loc k=>match M[k]? with
  | some (.lst xs)=>!(xs, λM'=>M'[k]? =!(.lst xs))
  | _=>none
 | _=>none
def uA{K:fI}{H:Hp}{xs:List Dt}{ok:Ms->Prop}(r:Rl K G L M H)(n:Den K G L d v)(h:mE M d=!(xs, ok)):∃a vs,v= .ref a/\h7 K H a vs/\Src K a xs ok G L/\ok M:=by
 cases d with
 | lst ds=>
  cases h;let(a,vs,rfl,e,m):=n;show(a,vs,rfl,.of (r.sub _ _ e),⟨λG' L' M' H' g l r' _=>(vs,.of (r'.sub _ _ (g _ _ e)),Τ.mono g l _ _ m)⟩,trivial)
 | i_ ns=>
  cases h;let(a,rfl,e):=n;show(a,_,rfl,r.sub.seq e,⟨λG' L' M' H' g l r' _=>(_,r'.sub.seq (g.seq e),jN)⟩,trivial)
 | loc k=>
  let(a,rfl,e):=n;let h:(match M[k]? with| some (.lst xs)=>!(xs, λM':Ms=>M'[k]? =!(.lst xs))| _=>none)=!(xs, ok):=h;split at h
  .rename_i ys hm;cases h;let(_,vs,e1,m1):=r.fK k a _ e hm;show(a,vs,rfl,.of e1,⟨λG' L' M' H' g l r' hk=>?_⟩,hm);let(_,x9,e2,m2):=r'.fK k a _ (l.get e) hk;show(x9,.of e2,m2)
  .cases h
 | _=>cases h
def LP{K:fI}{ok:Ms->Prop}(s:Src K a xs ok G L):QN K (XR K a) xs ok G L where
 go:=λi G1 L1 M1 H1 d g l r k e=>by
  let(vs,hs,n):=s.at_ G1 L1 M1 H1 g l r k;let(v,e1,n1):=n.get e
  show((vs,v,hs,e1),fun v' H' (eH,y)=>by
   subst eH;let e2:=y vs hs;rw[e1]at e2;cases e2
   show(G1,.refl _ _ _,r,n1))
 stop:=λi G1 L1 M1 H1 g l r k e=>by let(vs,hs,n):=s.at_ G1 L1 M1 H1 g l r k;show(vs,hs,by rw[<--n];show e)
noncomputable def rW(M:Ms):Dt->Option (List Dt×(Ms->Prop))
 | .loc k=>mE M (.loc k)
 | d=>(Uu M d).map λxs=>(xs, λ_=>True)
def fL(t:DE):DK:=λρ M q x=>t ρ M (λd M1=>match rW M1 d with
 | some (xs, ok)=>q xs ok M1
 | none=>False) x
def bC(h:JE X R e te):JK X R tg e (fL te):=by
 intro η s σ H Q I ⟨G,L,ρ,M,q,x,rl,n,ht,hx,hQ⟩;show bG (h η s σ H (Fin X.K G L H _) I (G,L,ρ,M,_,x,rl,n,ht,hx,λ_ _ f=>f)) λu s1 xz=>?_;let(v,H1,I1,rv,d,G1,L1,M1,e1,r1,n1,h1):=xz
 (try dsimp only at h1)
 cases hi:rW M1 d with
 | none=>rw[hi]at h1;show h1.elim
 | some p=>
  let(xs,ok):=p;rw[hi]at h1;let fin:∀J,QN X.K J xs ok G1 L1->Q J H1:=λJ y=>hQ J H1 (xs,ok,G1,L1,M1,e1,r1,y,h1);let up:∀{J},ok=(λ_=>True)->Yl X.K J xs G1 L1->QN X.K J xs ok G1 L1:=λeo y=>by subst eo;show(λi G L M H d g l r _ e=>y.go i G L M H d g l r e,λi G L M H g l r _ e=>y.stop i G L M H g l r e)
  cases d with
  | loc k=>
   let(a,vs,rfl,hs,sr,_):=uA r1 n1 hi;cases rv;show yC I1 hs (fin _ (LP sr))
  | lst ds=>
   cases hi;let(a,vs,rfl,e,m):=n1;cases rv;show yC I1 (vs:=vs) (.of (r1.sub _ _ e)) (fin _ (up rfl (FP (λG' g=>.of (g _ _ e)) m)))
  | i_ ns=>
   cases hi;let(a,rfl,e):=n1;cases rv;show yC I1 (r1.sub.seq e) (fin _ (up rfl (FP (λG' g=>g.seq e) jN)))
  | tup ds=>
   cases hi;let(a,vs,rfl,e,m):=n1;cases rv;show JY I1 (vs:=vs) (.of (r1.sub _ _ e)) (fin _ (up rfl (Nh (λG' g=>.of (g _ _ e)) m)))
  | kt ds=>
   cases hi;let(a,vs,rfl,e,m):=n1;cases rv;show JY I1 (r1.sub.Wg e) (fin _ (up rfl (Nh (λG' g=>g.Wg e) m)))
  | str z=>
   cases hi;cases n1;let(t,rfl):=rv;show RB I1 (fin _ (up rfl S5))
  | _=>cases hi
def z6(g:Dt->En->(En->Prop)->Prop)(tb:DS)(Dn:mH)(ok:Ms->Prop):List Dt->En->Ms->Prop
 | [],ρ,M=>ok M/\Dn.nx ρ M
 | x::xs,ρ,M=>ok M/\g x ρ λρ'=>tb {Dn with nx:=z6 g tb Dn ok xs,ct:=z6 g tb Dn ok xs,bk:=Dn.nx} ρ' M
def rO(ti:DK)(g:Dt->En->(En->Prop)->Prop)(tb:DS):DS:=λDn ρ M=>ti ρ M (λxs ok M1=>z6 g tb Dn ok xs ρ M1) Dn.x
section
variable{X:Cx}{R:St->XK}{tg iter:Expr}{body:List Stmt}{ti:DK}{gg:TG}{g:Dt->En->(En->Prop)->Prop}{tb:DS}{pos:Pos}
noncomputable def c8(hi:JK X R tg iter ti)(hg:PG X tg gg)(gd:GD X.K gg g)(hb:DZ X R body tb)(hp:PassesOwn (model X.prog X.w) X.A X.env X.xe:=by first| exact PassesOwn.never| exact PassesOwn.leaving)(hc:X.calm=true|>1)(hs:(∀x,foldedSetIterable iter X.env x=pure x)|>3):
  JS X R (.For tg iter body [] pos) (rO ti g tb):=.of (DJ hp hc hi hg hb hs) λσ H G L ρ M Dn rl n h hx=>by
 show(G,L,ρ,M,_,_,rl,n,h,hx,λJ H1 xz=>?_);let(xs,ok,G1,L1,M1,e1,r1,y,h1):=xz;show(λi m σ' H'=>m+i=-xs/\fH X.K G1 L1 H1 (λρ' M'=>z6 g tb Dn ok (xs.drop i) ρ' M') σ' H',(-xs,rfl,ρ,G1,L1,M1,.refl _ _ _,r1,n.mono e1,by rw[adt];show h1),?_);rintro i m σ' H' ⟨hm,ρ',G',L',M',e',r',n',h'⟩;by_cases hi:i < -xs
 .right;let hd:xs[i]? =!xs[i]:=aaa hi;rw[acf hi]at h';let(aS,h'):=h';let(go,yl):=y.go i G' L' M' H' _ e'.g e'.l r' aS hd;show(go,fH X.K G1 L1 H1 (λρ' M'=>z6 g tb Dn ok (xs.drop (i+1)) ρ' M'),λσ2 H2 f=>(m - 1,(),(),f),λv H2 hy=>?_);let(G2,e2,r2,n2):=yl v H2 hy;show gd G2 L' M' H2 _ v ρ' σ' _ _ r2 n2 (n'.mono e2) h' λρ3 σ3 n3 h3=>?_;show(G2,L',ρ3,M',_,r2,n3,h3,hx.on (e1.trans (e'.trans e2)),(λ_ _ f=>fH.back (e'.trans e2) f,λ_ _ f=>Fin.back (e1.trans (e'.trans e2)) f,λ_ _ f=>fH.back (e1.trans (e'.trans e2)) f,λ_ _ f=>fH.back (e'.trans e2) f))
 .left;rw[acW ()]at h';show(y.stop i G' L' M' H' e'.g e'.l r' h'.1 (),ρ',G',L',M',e1.trans e',r',n',h'.2)
end
def vK(te:DE)(cs:En)(ok:Ms->Prop):List Dt->List Dt->Ms->(List Dt->Ms->Prop)->Prop
 | [],Μ,M,k=>ok M/\k Μ M
 | x::xs,Μ,M,k=>ok M/\te ((!x)::cs) M (λd M1=>vK te cs ok xs (Μ++[d]) M1 k) mD
def qv(ti:DK)(te:DE)(ag:List Nat):DE:=λρ M q x=>ti ρ M (λxs ok M1=>-xs<=sizeLine/\vK te (qe ag ρ) ok xs [] M1 (λys M2=>q (.lst ys) M2)) x
def s_{ok:Ms->Prop}:∀xs,vK te cs ok xs=jS (gN 0) r_ te (none::cs) ok xs
 | []=>rfl
 | x::xs=>funext λΜ=>funext λM=>funext λk=>by change(ok M/\te ((!x)::cs) M (λd M1=>vK te cs ok xs (Μ++[d]) M1 k) mD)=(ok M/\te ((!x)::cs) M (λd M1=>jS (gN 0) r_ te (none::cs) ok xs (Μ++[d]) M1 k) mD);rw[s_ xs]
section
variable{X:Cx}{R:St->XK}{elt iter:Expr}{x:Str}{px:Pos}{scope:Scope}{pos:Pos}{ti:DK}{te:DE}{ys:List Str}{ag:List Nat}
def hI(S:aJ X scope [x] ys ag)(hi:JK X R (.Name x px) iter ti)(he:∀C s H fp,JE (Cx.comp X (x::ys) scope C s H fp) (λ_=>E0) elt te)(hc:X.calm=true|>1)(hs:(∀x,foldedSetIterable iter X.env x=pure x)|>3):JE X R (.ListComp elt [(.Name x px,iter,[],0)] scope pos) (qv ti te ag):=WO false S hi (ia S (i:=0) rfl) aB (iB (Nat.zero_lt_succ 0)) (λ_ _ _ _=>pA) he hc hs λρ M q x h=>by unfold qv at h;simp only[s_]at h;show h
noncomputable def i4{i:Nat}{AR:Pos}(hN:X.N.Nodup)(Ux:X.N[i]? =!y)(hy:Loc X.env.scope y)(S:aJ X scope [x] ys ag)(hi:JK X R (.Name x px) iter ti)(he:∀C s H fp,JE (Cx.comp X (x::ys) scope C s H fp) (λ_=>E0) elt te)(hc:X.calm=true|>1)(WE:swapsWith (.ListComp elt [(.Name x px,iter,[],0)] scope pos) (!(.Name y py)) AR.line X.env=pure true|>1)(hs:(∀x,foldedSetIterable iter X.env x=pure x)|>3)(hf:X.fn y=true\/X.env.scope.names.lookup y=some .local:=by first| exact .inl rfl| exact .inr rfl| assumption):JS X R (.Assign [.Name y py] (.ListComp elt [(.Name x px,iter,[],0)] scope pos) AR) (OP i (qv ti te ag)):=jcS false S hi (ia S (i:=0) rfl) aB (iB (Nat.zero_lt_succ 0)) (λ_ _ _ _=>pA) he hc hs hN Ux hy WE hf λρ M q x h=>by unfold qv at h;simp only[s_]at h;show h
end
def xS:∀{ns:List Int} {us:List Value},aC (ns.map V.int) us->∃ts:List (Int×Tok),us=ts.map (λp=>Value.int p.1 p.2)/\ts.map (·.1)=ns
 | [],_,h=>by cases h;show([],rfl,rfl)
 | n::ns,_,h=>by
  cases h with
  | cons r t=>
   let(tk,rfl):=r;let(ts,rfl,rfl):=xS t;show((n, tk)::ts,rfl,rfl)
def Vt(K:fI):List V->Hp->VK->Prop:=λxs H Q=>∃(p:Addr) (ns:List Int),xs=[.ref p]/\h7 K H p (ns.map V.int)/\Q (.int ns.sum) H
def Nj{X:Cx}(hc:X.calm=true):eD X (.builtin "sum") (Vt X.K):=by
 intro η s σ H xs us Q I r h;let(p,ns,rfl,hq,q):=h;let(u,rfl,r1):=lS r;cases r1;let(its,rv,pl,hz):=I.list hq;let(ts,rfl,rfl):=xS rv;let e:(ts.map λp=>Value.int p.1 p.2).toArray=intItems ts.toArray:=by simp[intItems]
 let hl:=pl.isList;rw[e]at hl;show sum_intListG (I.ok.hd hc) hl λh' tk t' hk=>?_;show(.int (ts.map (·.1)).sum,H,I.kept hk,(t',?_),q);rw[preSum_eq,List.take_of_length_le (by simp)]
def To:List Dt->Ms->DQ->Prop
 | [d],M,q=>∃ns:List Int,gR M d=!(ns.map .int)/\(∃xs ok,mE M d=!(xs, ok))/\q (.int ns.sum) M
 | _,_,_=>False
def tR{K:fI}:∀{ns:List Int} {vs:List V},Τ K G L (ns.map Dt.int) vs->vs=ns.map V.int
 | [],_,h=>h
 | _::_,_,(v,r,e,h1,h2)=>by let h1:v=_:=h1;rw[e,h1,tR h2];rfl
def oV{xs:List Dt}{ok:Ms->Prop}(h:mE M d=!(xs, ok)):gR M d=!xs:=by
 cases d with
 | lst ds=>cases h;rfl
 | i_ ns=>cases h;rfl
 | loc k=>
  let h:(match M[k]? with| some (.lst xs)=>!(xs, λM':Ms=>M'[k]? =!(.lst xs))| _=>none)=!(xs, ok):=h;change(match M[k]? with| some (.lst xs)=>!xs| _=>none)=!xs;split at h
  .rename_i ys hm;cases h;rfl
  .cases h
 | _=>cases h
def aav{K:fI}:EC K (Vt K) To:=by
 intro G0 L0 H0 G L M H vs ds q e r n h;unfold To at h;split at h
 .rename_i d;let(v,rfl,n1):=bD n;let(ns,hs,(xs,ok,hl),hq):=h;let(a,us,rfl,sq,sr,aS):=uA r n1 hl;rw[oV hl]at hs;cases hs;let(ws,sq2,dn):=sr.at_ G L M H (.refl _) (.refl _) r aS;rw[tR dn]at sq2;show(a,ns,rfl,sq2,.int ns.sum,G,L,M,e,r,rfl,hq)
 .show h.elim
def HN:bootBuiltins "sum"=!(.builtin "sum"):=by decide+kernel
def C9:bootBuiltins "enumerate"=!(.type "enumerate"):=by decide+kernel
section
variable{X:Cx}{R:St->XK}{e a b:Expr}{t:DA}{ta tb:DE}{p pos:Pos}
def QS(hm:X.mg "sum"=none)(ha:JA X R [e] t)(hc:X.calm=true|>1)(hg:Gl X "sum"|>1)(he:starEach [e] X.env=(false, eval e X.env)::starEach [] X.env|>1)(f_:(backTo pos (starEach [] X.env)).any (·.1)=false|>1):JE X R (.Call (.Name "sum" p) [e] [] pos) (C4 To t):=
 g9 (Nj hc) aav hm HN ha hg @_ @_ he f_
def RZ:Dt->Dt->Ms->DQ->Prop:=λd e M q=>∃u xs us,rX d=!u/\gR M e=!xs/\fW xs=!us/\q (.bl (NA u us)) M
def FK:Dt->Dt->Ms->DQ->Prop:=λd e M q=>∃u xs us,rX d=!u/\gR M e=!xs/\fW xs=!us/\q (.bl (! NA u us)) M
def Xa{K:fI}:mO K (Ys K false) RZ:=by intro G0 L0 H0 G L M H v1 v2 d1 d2 q e r n1 n2 ⟨u,xs,us,h1,h2,h3,hq⟩;let(rfl,fu):=iH h1 n1;let(a,vs,rfl,sq,dn):=pe r n2 h2;let(rfl,fs):=fV h3 dn;show(a,vs,rfl,sq,fu,fs,.bl _,G,L,M,e,r,rfl,hq)
def Pr{K:fI}:mO K (Ys K true) FK:=by intro G0 L0 H0 G L M H v1 v2 d1 d2 q e r n1 n2 ⟨u,xs,us,h1,h2,h3,hq⟩;let(rfl,fu):=iH h1 n1;let(a,vs,rfl,sq,dn):=pe r n2 h2;let(rfl,fs):=fV h3 dn;show(a,vs,rfl,sq,fu,fs,.bl _,G,L,M,e,r,rfl,hq)
def VB(ja:JE X R a ta)(jb:JE X R b tb)(hm:behindInMarks .In b=false|>1):JE X R (.Compare a [.In] [b] pos) (ju RZ ta tb):=pD xC Xa ja jb hm
def Lv(ja:JE X R a ta)(jb:JE X R b tb)(hm:behindInMarks .In b=false|>1):JT X R (.Compare a [.In] [b] pos) (kM (ju RZ ta tb)):=fm xC Xa ja jb hm
def xE(ja:JE X R a ta)(jb:JE X R b tb)(hm:behindInMarks .NotIn b=false|>1):JT X R (.Compare a [.NotIn] [b] pos) (kM (ju FK ta tb)):=fm zM Pr ja jb hm
end
set_option tactic.hygienic false
def Inv.yb{H:Hp}{h':Heap}{its:List Addr}{T:Addr}{t':Nat}(I:Inv X η σ H s)(k:∀b u,b∉its->s.heap.get? b=!u->h'.get? b=!u)(f:∀b∈its,tG X η H b)(hT:s.heap.objs.size<=T)(new:cn X.prog X.w (upd H T o) h' T o):
  Inv X η σ (upd H T o) {s with heap:=h',toks:=t'}:=by
 let hn:=I.aS.fresh hT;let Wm:∀b u,H b=!u->b∉its:=λb u e z=>by rw[(f b z).1]at e;cases e
 show I.call (ch:=its) (g':=s.gens) (d':=s.drawn) (t':=t') (λb u q _ _ hb=>k b u hb q,λb u q _ _ hb=>(u.slots,k b u hb q),λb u q n _=>?_,λb u q hb=>(u,k b u hb q),λb xs q=>?_,λb u xs q=>?_,λb ps q=>(#[],?_)) (λb u e=>?_) I.bare λb hb=>?_
 .rw[Ρ (abF (aaW (aaV q) hT))];show n
 .rw[Ρ (b_ q hn)];show q
 .rw[Ρ (b_ q hn)];show q
 .rw[Ρ (b_ q hn),q];simp
 .by_cases hb:b=T
  .subst hb;rw[av]at e;cases e;show new
  .rw[Ρ hb]at e;show(I.aS b u e).Du (λc v hc q=>k c v ?_ q) (λc q=>by rw[Ρ (b_ q hn)];show q) λc xs q=>by rw[Ρ (b_ q hn)];show q
   rcases hc with z| z
   .rw[z];show Wm b u e
   .show Wm c _ z
 .let(f0,f1,f2,f3,f4,f5):=f b hb;show(f3,f1,f4,f5)
def Ite(K:fI)(l:Addr):It:=
 ⟨λi H=>∃xs x,h7 K H l xs/\xs[i]? =!x,λi H v H'=>∃p x,H p=none/\v= .ref p/\H'=upd H p (.tup [.int i,x])/\∀xs,h7 K H l xs->xs[i]? =!x,λi H=>∃xs,h7 K H l xs/\-xs<=i⟩
def Jj{K:fI}(l it e:Addr)(l7:e≠it):Turn P w K (.Tuple elts x1 tp) (Ite K l) [e,it] e (λi h=>(∃old,IsEnum h e it i old)/\h.IsListIter it l i) where
 mem:=by simp
 obj:=λi h st b hb=>by
  let((old,he),hi):=st;rcases abg.mp hb with rfl| hb
  .show(_,he,λv z=>by
    let z':Data.fields _=Data.cell v:=z
    cases z')
  .let e:b=it:=by simpa using hb
   subst e;let(o,e,c,d):=hi;show(o,e,λv z=>by rw[d]at z;cases z)
 keep:=λi h h' st k=>by let((old,he),hi):=st;show((old,k e (by simp) _ he),hi.at λo q=>k it (by simp) o q)
 item:=by
  intro X hP hw hK hc i η s σ H E I hf st hg;subst hP hw hK;let((old,he),hi):=st;let(xs,x,hq,hx):=hg;let(its,rv,p,hz):=I.list hq;let(u,hu,ru):=rv.get hx;show wpAny_pyNext_enum_item he hi p.isList (x:=u) (by simpa using hu) l7 λh' ho v8 hT hsz hk=>?_;show(_,rfl,wpAny_letOwnedTupleGo_enum (s:={s with heap:=h',toks:=s.toks+1}) ho λh2 he2 sb=>?_);let sb:Heap.SameBut e h' h2:=sb;let elt:e < s.heap.objs.size:=aaV he;let ilt:it < s.heap.objs.size:=by let(o,q,_):=hi;show aaV q
  let neT:s.heap.objs.size≠e:=adu elt;let hT2:h2.get? s.heap.objs.size=some {cls:=.type "tuple",data:=.seq #[.int i s.toks,u]}:=(sb.2 _ neT).trans hT;let I2:Inv X η σ (upd H s.heap.objs.size (.tup [.int i,x])) {s with heap:=h2,toks:=s.toks+1}:=by
   show I.yb (its:=[e,it]) (λb o hb q=>?_) hf (aaq _) ?_
   .let h1:b≠e:=λz=>hb (by simp[z]);let h3:b≠it:=λz=>hb (by simp[z]);show(sb.2 b h1).trans (hk b o h1 h3 q)
   .show(by simp[sizeLine_eq],[.int i s.toks,u],.cons (_,rfl) (.cons ru .nil),?_);show(_,hT2,rfl,0,rfl)
  let iter:h2.IsListIter it l (i+1):=v8.at λo q=>(sb.2 it (Ne.symm l7)).trans q;show(.ref s.heap.objs.size,_,I2,rfl,(s.heap.objs.size,x,I.aS.fresh (Nat.le_refl _),rfl,rfl,λys hy=>by rw[I.iI hy hq];show hx),((u,by simpa using he2),iter),λb hb=>?_);let nb:b≠s.heap.objs.size:=by
   rcases abg.mp hb with rfl| hb
   .show abF elt
   .have:b=it:=by simpa using hb
    subst this;show abF ilt
  rw[Ρ nb];show(hf b hb).1
 done:=by intro X hP hw hK hc i η s σ H E I hf st hg;subst hP hw hK;let((old,he),hi):=st;let(xs,hq,hx):=hg;let(its,rv,p,hz):=I.list hq;let hl:=-rv;let(f0,f1,f2,f3,f4,f5):=hf it (by simp);show wpAny_pyNext_enum_end (I.ok.hd hc) he hi p.isList (by simp;omega) λh' ext=>⟨rfl,I.turned (t':=s.toks) (λb o hb q=>ext b o hb q) f0 f1 f3 f4 f5⟩
 self:=λ_ _ _ _ _ st h=>by let((old,he),_):=st;show wpAny_pyIter_enum he h
noncomputable def jB:Nat->List Dt->List Dt
 | _,[]=>[]
 | n,x::xs=>.tup [.int n,x]::jB (n+1) xs
def kj:∀(n:Nat) (xs:List Dt),-(jB n xs)=-xs
 | _,[]=>rfl
 | n,_::xs=>by unfold jB;rw[List.length_cons,List.length_cons,kj]
def qK:∀{n i:Nat} {xs:List Dt} {d:Dt},(jB n xs)[i]? =!d->∃x,xs[i]? =!x/\d= .tup [.int ((n+i:Nat):Int),x]
 | n,i,[],d,h=>by simp[jB]at h
 | n,0,x::xs,d,h=>by unfold jB at h;simp at h;show(x,rfl,by rw[<-h];simp)
 | n,i+1,x::xs,d,h=>by unfold jB at h;let(y,h1,h2):=qK (n:=n+1) (i:=i) (xs:=xs) (d:=d) (by simpa using h);show(y,by simpa using h1,by rw[h2,show n+1+i=n+(i+1) by omega])
def ME{K:fI}{ok:Ms->Prop}(s:Src K a xs ok G L):QN K (Ite K a) (jB 0 xs) ok G L where
 go:=λi G1 L1 M1 H1 d g l r k e=>by let(vs,hs,n):=s.at_ G1 L1 M1 H1 g l r k;let(y,ey,rfl):=qK e;let(v,e1,n1):=n.get ey;show((vs,v,hs,e1),λv' H' xz=>?_);let(p,x,hp,ev,eH,hx):=xz;subst ev eH;let e2:=hx vs hs;rw[e1]at e2;cases e2;show(_,r.Ud hp,r.Pp hp,sT (ds:=[.int ((0+i:Nat):Int),y]) r hp (_,_,rfl,?_,_,_,rfl,n1,rfl));change V.int i=V.int _;rw[Nat.zero_add]
 stop:=λi G1 L1 M1 H1 g l r k e=>by let(vs,hs,n):=s.at_ G1 L1 M1 H1 g l r k;show(vs,hs,by rw[<--n,<-kj 0];show e)
def UB(t:DA):DK:=λρ M q x=>t ρ M (λds M1=>∃d xs ok,ds=[d]/\mE M1 d=!(xs, ok)/\q (jB 0 xs) ok M1) x
def zZ{X:Cx}{a:Expr}(hm:X.mg "enumerate"=none)(ha:JA X R [a] t)(hg:Gl X "enumerate"|>1)(hs:starEach [a] X.env=[(false, eval a X.env)]|>1):JK X R (.Tuple elts x1 tp) (.Call (.Name "enumerate" p) [a] [] pos) (UB t):=by
 intro η s σ H Q I ⟨G,L,ρ,M,q,x,rl,n,ht,hx,hQ⟩;show Call_ (nA I hg hm C9 (PyProof.Rows.callWith_type1 (bG (ha pos η s σ H (PY X.K G L H _) I (G,L,ρ,M,_,x,rl,n,ht,hx,λ_ _ f=>f)) λus s1 xz=>?_) hs rfl));let(vs,H1,I1,rv,ds,G1,L1,M1,e1,r1,n1,d,xs,ok,ed,hl,h1):=xz;subst ed;let(v,rfl,n2):=bD n1;let(b,ws,rfl,sq,sr,_):=uA r1 n2 hl;let(u,rfl,ru):=aC.one rv;cases ru;let(its,_,pl,_):=I1.list sq;show call_enumerate_list pl.isList λh' he hi hz hk=>?_;let I2:Inv X η σ H1 {s1 with heap:=h'}:=I1.kept (t':=s1.toks) hk;show wpAny_pyIter_enum (s:={s1 with heap:=h'}) he (s1.heap.objs.size+1,[s1.heap.objs.size+1,s1.heap.objs.size],_,_,H1,rfl,I2,Jj b s1.heap.objs.size (s1.heap.objs.size+1) (adu (acd _)),((_,he),hi),λc hc=>?_,hQ _ _ (_,ok,G1,L1,M1,e1,r1,ME sr,h1));let hc:s1.heap.objs.size<=c:=by
  rcases abg.mp hc with rfl| hc
  .show Nat.le_succ _
  .have:c=s1.heap.objs.size:=by simpa using hc
   rw[this];show aaq _
 let f:=I1.DU (H':=H1) hc (I1.aS.fresh hc);show f
noncomputable def Gb(M:Ms):Dt->Option Value
 | .loc k=>match M[k]? with
  | some (.lst _)=>!(.type "list")
  | _=>none
 | d=>QY d
def Qt(K:fI):List Dt->Ms->DQ->Prop:=λds M q=>∃d c t t' b,ds=[d,c]/\Gb M d=!t/\R3 c=!t'/\PySem.W.kitOne K t t'=!b/\q (.bl b) M
set_option tactic.hygienic true
section
variable{K:fI}
def Dx{H:Hp}(r:Rl K G L M H)(n:Den K G L d v)(h:Gb M d=!t):lx K H v t:=by
 by_cases hd:∃k,d= .loc k
 .let(k,rfl):=hd;let(a,rfl,e):=n;let h:(match M[k]? with| some (.lst _)=>!(Value.type "list")| _=>none)=!t:=h;split at h
  .rename_i xs hm;cases h;let(_,vs,e1,_):=r.fK k a _ e hm;show .lst e1
  .cases h
 .show Hs r n ?_;cases d with
  | loc k=>show abe (k,rfl) hd
  | _=>show h
def WX:EC K (λxs H Q=>∃x c t t' b,xs=[x,c]/\lx K H x t/\Mc c=!t'/\PySem.W.kitOne K t t'=!b/\Q (.bl b) H) (Qt K):=by intro G0 L0 H0 G L M H vs ds q e r n ⟨d,c,t,t',b,ed,h1,h2,hb,h⟩;subst ed;let(v,u,rfl,n1,n2):=gJ n;show(v,u,t,t',b,rfl,Dx r n1 h1,Gz n2 h2,hb,bw e r h)
end
section
variable{X:Cx}{R:St->XK}{e e2:Expr}{t:DA}{p pos:Pos}
def mW(K:fI)(hm:X.mg "isinstance"=none)(ha:JA X R [e,e2] t)(he:starEach [e,e2] X.env=(false, eval e X.env)::starEach [e2] X.env|>1)(f_:(backTo pos (starEach [e2] X.env)).any (·.1)=false|>1)(hg:Gl X "isinstance"|>1)(hK:X.K=K|>1):JE X R (.Call (.Name "isinstance" p) [e,e2] [] pos) (C4 (Qt K) t):=by subst hK;show g9 rR WX hm jQ ha hg @_ @_ he f_
def xR:∀{zs:List Str} {us:List Value},Paired (λ(z:Str) (u:Value)=>∃tk,u= .str z tk) zs us->aC (zs.map V.str) us
 | _,_,.nil=>.nil
 | _,_,.cons h t=>.cons h (xR t)
def Kl(hm:∃a o its n,X.mg x=!(.ref a)/\X.K.lookup a=!o/\o.cls= .type "tuple"/\o.data= .seq its n/\its.size<=sizeLine/\Paired (λ(z:Str) (u:Value)=>∃tk,u= .str z tk) zs its.toList)(hg:Gl X x|>1)(hd:(x==("__debug__":Str))=false|>2):JE X R (.Name x pos) (dC (.kt (zs.map .str))):=by let(a,o,its,n,h1,h2,h3,h4,h5,h6):=hm;show RI (v:=.ref a) (FE hg h1 rfl hd) λG L=>(a,zs.map V.str,rfl,.inr (o,its,n,h2,h3,h4,h5,xR h6),x6)
end
def fT{te:DE}{cs:En}{ok:Ms->Prop}{f:Dt->Dt}:∀{xs Μ:List Dt} {M:Ms} {k:List Dt->Ms->Prop},ok M->(∀x∈xs,∀q:DQ,q (f x) M->te ((!x)::cs) M q mD)->k (Μ++xs.map f) M->vK te cs ok xs Μ M k
 | [],Μ,M,k,ho,_,h=>(ho,by simpa using h)
 | x::xs,Μ,M,k,ho,hf,h=>(ho,hf x List.mem_cons_self _ (fT ho (λy hy=>hf y (List.mem_cons_of_mem _ hy)) (by simpa using h)))
def bN{g:Dt->En->(En->Prop)->Prop}{ok:Ms->Prop}(J:List Dt->En->Ms->Prop)(aS:∀xs ρ M,J xs ρ M->ok M)
  (step:∀x xs ρ M,J (x::xs) ρ M->(∀ρ M,J xs ρ M->z6 g tb Dn ok xs ρ M)->g x ρ λρ'=>tb {Dn with nx:=z6 g tb Dn ok xs,ct:=z6 g tb Dn ok xs,bk:=Dn.nx} ρ' M)
  (fin:∀ρ M,J [] ρ M->Dn.nx ρ M):∀(xs:List Dt) (ρ:En) (M:Ms),J xs ρ M->z6 g tb Dn ok xs ρ M
 | [],ρ,M,h=>(aS _ _ _ h,fin _ _ h)
 | x::xs,ρ,M,h=>(aS _ _ _ h,step x xs ρ M h λρ' M' h'=>bN J aS step fin xs ρ' M' h')
section
variable{K:fI}{G:Hp}{L:List Addr}
mutual
def Q1:∀(d:Dt) (v:V),Den K G L d v->d.under (-L)
 | .bc,_,_=>trivial
 | .bl _,_,_=>trivial
 | .int _,_,_=>trivial
 | .str _,_,_=>trivial
 | .tup ds,_,(a,vs,e,h1,h2)=>gf ds vs h2
 | .lst ds,_,(a,vs,e,h1,h2)=>gf ds vs h2
 | .obj C ns ds,_,(a,dx,vs,e,h1,hl,h2)=>gf ds vs h2
 | .loc k,_,(a,e,h1)=>(aai.mp h1).1
 | .ref _,_,_=>trivial
 | .ty _,_,_=>trivial
 | .i_ _,_,_=>trivial
 | .kt ds,_,(a,vs,e,h1,h2)=>gf ds vs h2
 | .exc _ _ ds,_,(a,od,vs,e,h1,h2,h3,h4)=>gf ds vs h4
 | .Ub _ _ _ _ ds,_,(vs,e,h2,h3,h4)=>gf ds vs h4
def gf:∀(ds:List Dt) (vs:List V),Τ K G L ds vs->Dt.ck (-L) ds
 | [],_,_=>trivial
 | d::ds,_,(v,r,e,h1,h2)=>(Q1 d v h1,gf ds r h2)
end
def Rl.un{H:Hp}(r:Rl K G L M H):∀m∈M,MO.under (-M) m:=λm hm=>by
 let(k,hk,e):=ab2 hm;let em:M[k]? =!m:=by rw[aaa hk,e]
 let el:L[k]? =!(L[k]'(by rw[r.len];show hk)):=aaa _;let(_,q):=r.fK k _ m el em;rw[<-r.len];cases m with
 | lst ds=>let(vs,_,h):=q;show gf _ _ h
 | ins C ns ds=>let(dx,vs,_,_,h):=q;show gf _ _ h
 | c_ ks ds=>let(vs,_,_,h):=q;show gf _ _ h
 | raw u=>trivial
end
def wy(M0:Ms)(q:DQ):DQ:=λd M=>∃E d',M=M0++E/\JG (-M0) E d d'/\q d' M0
def Fin.wy{K:fI}{q:DQ}{H:Hp}(r0:Rl K G0 L0 M0 H0)(f:Fin K G0 L0 H0 (wy M0 q) v H):Fin K G0 L0 H0 q v H:=by let(d,G,L,M,ex,r,dn,E,d',e,fz,hq):=f;show Fin.xD r0 (d,G,L,M,ex,r,dn,M0,E,d',e,rfl,r0.un,fz,hq)
def Vo(t:DE):DE:=λρ M q x=>t ρ M (wy M q) x
def da(h:JE X R e t):JE X R e (Vo t):=.of h λσ H G L ρ M q x rl n ht hx=>(G,L,ρ,M,_,x,rl,n,ht,hx,λv H1 f=>Fin.wy rl f)
def NV{M0:Ms}{q:DQ}{d:Dt}(hu:d.under (-M0))(h:q d M0):wy M0 q d M0:=([],d,by simp,.old hu,h)
def nh{M0:Ms}{q:DQ}(f:JG (-M0) E d d')(h:q d' M0):wy M0 q d (M0++E):=(E,d',rfl,f,h)
noncomputable def hU(f:Expr->Option Dt):List Expr->Option (List Dt)
 | []=>![]
 | e::es=>match f e,hU f es with
  | some d,!ds=>!(d::ds)
  | _,_=>none
noncomputable def ij:Nat->Expr->Option Dt
 | 0,e=>match e with
  | .Constant (.int i) _ _=>!(.int i)
  | .Constant (.str x) _ _=>!(.str x)
  | _=>none
 | n+1,e=>match e with
  | .Constant (.int i) _ _=>!(.int i)
  | .Constant (.str x) _ _=>!(.str x)
  | .Tuple es _ _=>if -es<=100 then (hU (ij n) es).map .tup else none
  | .List es _=>if -es<=100 then (hU (ij n) es).map .lst else none
  | _=>none
def Er{d:Dt}{es:List Expr}(h:ij n e=!d):starEach (e::es) env=(false, eval e env)::starEach es env:=by cases n <;> (unfold ij at h;split at h <;> first| rfl| cases h)
def lH:∀{es:List Expr} {ds:List Dt},hU f es=!ds->-ds=-es
 | [],ds,h=>by cases h;rfl
 | e::es,ds,h=>by
  unfold hU at h;split at h
  .rename_i d oB h1 h2;cases h;rw[aaN,aaN,lH h2]
  .cases h
section
variable{X:Cx}{R:St->XK}
def uC(ih:∀(e:Expr) (d:Dt),ij n e=!d->JE X R e (dC d)):∀(es:List Expr) (ds:List Dt),hU (ij n) es=!ds->JA X R es (λ_ M q _=>q ds M)
 | [],ds,h=>by cases h;show θ
 | e::es,ds,h=>by
  unfold hU at h;split at h
  .rename_i d oB h1 h2;cases h;show ι (ih e d h1) (uC ih es oB h2) (hs:=Er h1)
  .cases h
def GO{n:Nat}(h:n<=100):n<=sizeLine:=aaF h @_
def JE.imp{t':DE}(h:JE X R e t)(hi:∀ρ M q x,t' ρ M q x->t ρ M q x):JE X R e t':=.of h λσ H G L ρ M q x rl n ht hx=>(G,L,ρ,M,q,x,rl,n,hi _ _ _ _ ht,hx,λ_ _ f=>f)
def cv:∀(n:Nat) {e:Expr} {d:Dt},ij n e=!d->JE X R e (dC d)
 | 0,e,d,h=>by
  unfold ij at h;split at h
  .cases h;show ξ
  .cases h;show g8
  .cases h
 | n +1,e,d,h=>by
  unfold ij at h;split at h
  .cases h;show ξ
  .cases h;show g8
  .split at h
   .rename_i es _ _ hl;cases hc:hU (ij n) es with
    | none=>rw[hc]at h;cases h
    | some ds=>
     rw[hc]at h;cases h;show(fe (uC (λe d=>cv n) es ds hc)).imp λρ M q x hq=>(GO (by rw[lH hc];show hl),hq)
   .cases h
  .split at h
   .rename_i es _ hl;cases hc:hU (ij n) es with
    | none=>rw[hc]at h;cases h
    | some ds=>
     rw[hc]at h;cases h;show(kK (uC (λe d=>cv n) es ds hc)).imp λρ M q x hq=>(GO (by rw[lH hc];show hl),hq)
   .cases h
  .cases h
end
set_option tactic.hygienic false
def IE:bootBuiltins "zip"=!(.type "zip"):=by decide+kernel
def Inv.Pt{H:Hp}{h':Heap}{its:List Addr}{t':Nat}(I:Inv X η σ H s)(k:∀b u,b∉its->s.heap.get? b=!u->h'.get? b=!u)(f:∀b∈its,tG X η H b):
  Inv X η σ H {s with heap:=h',toks:=t'}:=by
 let Wm:∀b u,H b=!u->b∉its:=λb u e z=>by rw[(f b z).1]at e;cases e
 show I.call (ch:=its) (g':=s.gens) (d':=s.drawn) (t':=t') (λb u q _ _ hb=>k b u hb q,λb u q _ _ hb=>(u.slots,k b u hb q),λb u q n _=>n,λb u q hb=>(u,k b u hb q),λb xs q=>q,λb u xs q=>q,λb ps q=>(#[],by rw[q];simp)) (λb u e=>?_) I.bare λb hb=>?_
 .show(I.aS b u e).Du (λc v hc q=>k c v ?_ q) (λc q=>q) λc xs q=>q;rcases hc with z| z
  .rw[z];show Wm b u e
  .show Wm c _ z
 .let(f0,f1,f2,f3,f4,f5):=f b hb;show(f3,f1,f4,f5)
def Itz(K:fI)(l1 l2:Addr):It:=
 ⟨λi H=>∃xs ys x y,h7 K H l1 xs/\h7 K H l2 ys/\xs[i]? =!x/\ys[i]? =!y,
  λi H v H'=>∃p x y,H p=none/\v= .ref p/\H'=upd H p (.tup [x,y])/\(∀xs,h7 K H l1 xs->xs[i]? =!x)/\∀ys,h7 K H l2 ys->ys[i]? =!y,
  λi H=>∃xs ys,h7 K H l1 xs/\h7 K H l2 ys/\(-xs<=i\/-ys<=i)⟩
def Le{K:fI}{TI TO:Addr}(D:ZipApart z TI TO i1 i2 l1 l2):Turn P w K (.Tuple elts x1 tp) (Itz K l1 l2) [z,TI,TO,i1,i2] z (λi h=>(∃a b,IsZip h z TI TO .none/\IsPair h TI (.ref i1) (.ref i2)/\IsPair h TO a b)/\h.IsListIter i1 l1 i/\h.IsListIter i2 l2 i) where
 mem:=by simp
 obj:=λi h st b hb=>by
  let((a,c,hz,Mh,Nu),h1,h2):=st;simp only[List.mem_cons,List.not_mem_nil,or_false]at hb;rcases hb with rfl| rfl| rfl| rfl| rfl
  .show(_,hz,λv z=>by
    let z':Data.fields _=Data.cell v:=z
    cases z')
  .show(_,Mh,λv z=>by
    let z':Data.seq _=Data.cell v:=z
    cases z')
  .show(_,Nu,λv z=>by
    let z':Data.seq _=Data.cell v:=z
    cases z')
  .let(o,e,c,d):=h1;show(o,e,λv z=>by rw[d]at z;cases z)
  .let(o,e,c,d):=h2;show(o,e,λv z=>by rw[d]at z;cases z)
 keep:=λi h h' st k=>by let((a,c,hz,Mh,Nu),h1,h2):=st;show((a,c,k z (by simp) _ hz,k TI (by simp) _ Mh,k TO (by simp) _ Nu),h1.at λo q=>k i1 (by simp) o q,h2.at λo q=>k i2 (by simp) o q)
 item:=by
  intro X hP hw hK hc i η s σ H E I hf st hg;subst hP hw hK;let((a,c,hz,Mh,Nu),h1,h2):=st;let(xs,ys,x,y,U1,Ui,hx,hy):=hg;let(Y2,Z7,p1,_):=I.list U1;let(u1,hu1,ru1):=Z7.get hx;let(LK,rv2,p2,_):=I.list Ui;let(u2,hu2,ru2):=rv2.get hy;show wpAny_pyNext_zip_item D hz Mh Nu h1 h2 p1.isList p2.isList (x:=u1) (y:=u2) (by simpa using hu1) (by simpa using hu2) λh' hz' Z2 Z1 h2' hT hsz hk=>?_;show(_,rfl,wpAny_letOwnedTupleGo_zip (s:={s with heap:=h'}) hz' λh3 hz3 sb=>?_);let sb:Heap.SameBut z h' h3:=sb;let zlt:z < s.heap.objs.size:=aaV hz;let neT:s.heap.objs.size≠z:=adu zlt;let hT3:h3.get? s.heap.objs.size=some {cls:=.type "tuple",data:=.seq #[u1,u2]}:=(sb.2 _ neT).trans hT;let lt:∀b∈[z,TI,TO,i1,i2],b < s.heap.objs.size:=λb hb=>by
   simp only[List.mem_cons,List.not_mem_nil,or_false]at hb;rcases hb with rfl| rfl| rfl| rfl| rfl
   .show zlt
   .show aaV Mh
   .show aaV Nu
   .let(o,q,_):=h1;show aaV q
   .let(o,q,_):=h2;show aaV q
  let I2:Inv X η σ (upd H s.heap.objs.size (.tup [x,y])) {s with heap:=h3,toks:=s.toks}:=by
   show I.yb (its:=[z,TI,TO,i1,i2]) (λb o hb q=>?_) hf (aaq _) ?_
   .simp only[List.mem_cons,List.not_mem_nil,or_false,not_or]at hb;let(b1,b2,b3,b4,b5):=hb;show(sb.2 b b1).trans (hk b o b1 b3 b4 b5 q)
   .show(by simp[sizeLine_eq],[u1,u2],.cons ru1 (.cons ru2 .nil),?_);show(_,hT3,rfl,0,rfl)
  show(.ref s.heap.objs.size,_,I2,rfl,(s.heap.objs.size,x,y,I.aS.fresh (aaq _),rfl,rfl,λzs Y1=>by rw[I.iI Y1 U1];show hx,λzs Y1=>by rw[I.iI Y1 Ui];show hy),((u1,u2,hz3,(sb.2 _ D.TIz).trans (hk _ _ D.TIz D.TITO D.TIi1 D.TIi2 Mh),(sb.2 _ D.TOz).trans Z2),Z1.at λo q=>(sb.2 i1 D.i1z).trans q,h2'.at λo q=>(sb.2 i2 D.i2z).trans q),λb hb=>?_);rw[Ρ (abF (lt b hb))];show(hf b hb).1
 done:=by intro X hP hw hK hc i η s σ H E I hf st hg;subst hP hw hK;let((a,c,hz,Mh,Nu),h1,h2):=st;let(xs,ys,U1,Ui,hx):=hg;let(Y2,Z7,p1,_):=I.list U1;let(LK,rv2,p2,_):=I.list Ui;let YY:=-Z7;let HS:=-rv2;show wpAny_pyNext_zip_end (I.ok.hd hc) D hz Mh Nu h1 h2 p1.isList p2.isList (by rcases hx with hx| hx;(left;simp;omega);(right;simp;omega)) λh' ext=>⟨rfl,I.Pt (t':=s.toks) (its:=[z,TI,TO,i1,i2]) (λb o hb q=>?_) hf⟩;simp only[List.mem_cons,List.not_mem_nil,or_false,not_or]at hb;let(b1,b2,b3,b4,b5):=hb;show ext b o b1 b3 b4 b5 q
 self:=λ_ _ _ _ _ st h=>by let((a,c,hz,_,_),_):=st;show wpAny_pyIter_zip hz h
def sF(xs ys:List Dt):List Dt:=(xs.zip ys).map λp=>.tup [p.1,p.2]
def Lr{i:Nat}{d:Dt}(h:(sF xs ys)[i]? =!d):∃x y,xs[i]? =!x/\ys[i]? =!y/\d= .tup [x,y]:=by
 unfold sF at h;rw[aas]at h;cases e:(xs.zip ys)[i]? with
 | none=>rw[e]at h;cases h
 | some p=>
  rw[e]at h;cases h;let(h1,h2):=acv.mp e;show(p.1,p.2,h1,h2,rfl)
def Ck(xs ys:List Dt):-(sF xs ys)=min (-xs) (-ys):=by unfold sF;rw[List.length_map,List.length_zip]
def NO{K:fI}{ok:Ms->Prop}(s:Src K a xs ok G L)(s':Src K b ys Uq G L):QN K (Itz K a b) (sF xs ys) (λM=>ok M/\Uq M) G L where
 go:=λi G1 L1 M1 H1 d g l r k e=>by let(vs,hs,n):=s.at_ G1 L1 M1 H1 g l r k.1;let(Yj,X6,n'):=s'.at_ G1 L1 M1 H1 g l r k.2;let(x,y,ex,ey,rfl):=Lr e;let(v,e1,n1):=n.get ex;let(v',e1',n1'):=n'.get ey;show((vs,Yj,v,v',hs,X6,e1,e1'),λw H' xz=>?_);let(p,x2,y2,hp,ev,eH,hx,hy):=xz;subst ev eH;let e2:=hx vs hs;rw[e1]at e2;cases e2;let e3:=hy Yj X6;rw[e1']at e3;cases e3;show(_,r.Ud hp,r.Pp hp,sT (ds:=[x,y]) r hp (_,_,rfl,n1,_,_,rfl,n1',rfl))
 stop:=λi G1 L1 M1 H1 g l r k e=>by let(vs,hs,n):=s.at_ G1 L1 M1 H1 g l r k.1;let(Yj,X6,n'):=s'.at_ G1 L1 M1 H1 g l r k.2;show(vs,Yj,hs,X6,?_);rw[<--n,<--n'];rw[Ck]at e;omega
def abR(t:DA):DK:=λρ M q x=>t ρ M (λds M1=>∃d d' xs ys ok Uq,ds=[d,d']/\mE M1 d=!(xs, ok)/\mE M1 d'=!(ys, Uq)/\q (sF xs ys) (λM=>ok M/\Uq M) M1) x
def Fs{X:Cx}{a a':Expr}(hm:X.mg "zip"=none)(ha:JA X R [a,a'] t)(hg:Gl X "zip"|>1)(hs:starEach [a,a'] X.env=(false, eval a X.env)::starEach [a'] X.env|>1)(f_:(backTo pos (starEach [a'] X.env)).any (·.1)=false|>1):JK X R (.Tuple elts x1 tp) (.Call (.Name "zip" p) [a,a'] [] pos) (abR t):=by
 intro η s σ H Q I ⟨G,L,ρ,M,q,x,rl,n,ht,hx,hQ⟩;show Call_ (nA I hg hm IE (PyProof.Rows.callWith_type1 (bG (ha pos η s σ H (PY X.K G L H _) I (G,L,ρ,M,_,x,rl,n,ht,hx,λ_ _ f=>f)) λus s1 xz=>?_) hs f_));let(vs,H1,I1,rv,ds,G1,L1,M1,e1,r1,n1,d,d',xs,ys,ok,Uq,ed,hl,Ze,h1):=xz;subst ed;let(v,v',rfl,n2,n2'):=gJ n1;let(b,ws,rfl,sq,sr,_):=uA r1 n2 hl;let(b',ws',rfl,sq',sr',_):=uA r1 n2' Ze;cases rv with
 | cons ru rv=>
  cases rv with
  | cons ru' rv=>
   cases rv;cases ru;cases ru';let(its,_,pl,_):=I1.list sq;let(its',_,Cy,_):=I1.list sq';let lt1:b < s1.heap.objs.size:=by let(o,q,_):=pl.isList;show aaV q
   let lt2:b' < s1.heap.objs.size:=by let(o,q,_):=Cy.isList;show aaV q
   show call_zip_2 pl.isList Cy.isList λh' hz Mh Nu hi v8 hsz hk=>?_;let I2:Inv X η σ H1 {s1 with heap:=h'}:=I1.kept (t':=s1.toks) hk;let D:ZipApart (s1.heap.objs.size+4) (s1.heap.objs.size+2) (s1.heap.objs.size+3) s1.heap.objs.size (s1.heap.objs.size+1) b b':=by let ne:∀i j:Nat,i≠j->s1.heap.objs.size+i≠s1.heap.objs.size+j:=λi j h z=>h (Nat.add_left_cancel z);let n1:∀i:Nat,b≠s1.heap.objs.size+i:=λi=>abF (aaW lt1 (acL _ _));let n2:∀i:Nat,b'≠s1.heap.objs.size+i:=λi=>abF (aaW lt2 (acL _ _));show(ne 2 4 @_,ne 3 4 @_,ne 0 4 @_,ne 1 4 @_,ne 2 3 @_,ne 2 0 @_,ne 2 1 @_,ne 3 0 @_,ne 3 1 @_,ne 0 1 @_,n1 4,n1 3,n1 0,n1 1,n2 4,n2 3,n2 0,n2 1)
   show wpAny_pyIter_zip (s:={s1 with heap:=h'}) hz (s1.heap.objs.size+4,[s1.heap.objs.size+4,s1.heap.objs.size+2,s1.heap.objs.size+3,s1.heap.objs.size,s1.heap.objs.size+1],_,_,H1,rfl,I2,Le D,((_,_,hz,Mh,Nu),hi,v8),λc hc=>?_,hQ _ _ (_,_,G1,L1,M1,e1,r1,NO sr sr',h1));let hc:s1.heap.objs.size<=c:=by
    simp only[List.mem_cons,List.not_mem_nil,or_false]at hc;rcases hc with rfl| rfl| rfl| rfl| rfl
    .show acL _ _
    .show acL _ _
    .show acL _ _
    .show aaq _
    .show acL _ _
   let f:=I1.DU (H':=H1) hc (I1.aS.fresh hc);show f
set_option tactic.hygienic true
section
variable{X:Cx}{R:St->XK}{elt iter c:Expr}{x y:Str}{px py tp:Pos}{scope:Scope}{pos:Pos}{ti:DK}{tc:DT}{te:DE}{ys:List Str}{ag:List Nat}{kk:Nat}
def Bw(S:aJ X scope [x] ys ag)(hi:JK X R (.Name x px) iter ti)(ht:∀C s H fp,JT (Cx.comp X (x::ys) scope C s H fp) (λ_=>E0) c tc)(he:∀C s H fp,JE (Cx.comp X (x::ys) scope C s H fp) (λ_=>E0) elt te)(hc:X.calm=true|>1)(hs:(∀x,foldedSetIterable iter X.env x=pure x)|>3):JE X R (.ListComp elt [(.Name x px,iter,[c],0)] scope pos) (zz 1 ti (gN 0) tc te ag):=WO false S hi (ia S (i:=0) rfl) aB (iB (Nat.zero_lt_succ 0)) (λC s H fp=>FF (ht C s H fp)) he hc hs λ_ _ _ _ h=>h
def KG(S:aJ X scope [x,y] ys ag)(hi:JK X R (.Tuple [.Name x px,.Name y py] kk tp) iter ti)(ht:∀C s H fp,JT (Cx.comp X (x::y::ys) scope C s H fp) (λ_=>E0) c tc)(he:∀C s H fp,JE (Cx.comp X (x::y::ys) scope C s H fp) (λ_=>E0) elt te)(hc:X.calm=true|>1)(hs:(∀x,foldedSetIterable iter X.env x=pure x)|>3):JE X R (.ListComp elt [(.Tuple [.Name x px,.Name y py] kk tp,iter,[c],0)] scope pos) (zz 2 ti (g2 0 1) tc te ag):=WO false S hi (Fy hc S) qL (xK (Nat.zero_lt_succ 1) (acd 1)) (λC s H fp=>FF (ht C s H fp)) he hc hs λ_ _ _ _ h=>h
end
def ft{g:Dt->En->(En->Prop)->Prop}{tc:DT}{te:DE}{ok:Ms->Prop}{k:List Dt->Ms->Prop}(ho:ok M)(b:Dt->Bool)(f:Dt->Dt):∀(xs Μ:List Dt),(∀x∈xs,∀(q:DQ) (p:Ms->Prop),(b x=true->q (f x) M)->(b x=false->p M)->g x ρ0 λρ'=>tc ρ' M (λb' M1=>match b' with| true=>te ρ' M1 q mD| false=>p M1) mD)->
  k (Μ++(xs.filter b).map f) M->jS g tc te ρ0 ok xs Μ M k
 | [],Μ,_,h=>(ho,by simpa using h)
 | x::xs,Μ,ht,h=>(ho,ht x List.mem_cons_self _ _ (λhb=>ft ho b f xs _ (λy hy=>ht y (List.mem_cons_of_mem _ hy)) (by simpa [hb] using h)) λhb=>ft ho b f xs _ (λy hy=>ht y (List.mem_cons_of_mem _ hy)) (by simpa [hb] using h))
def Jc(xs:List V)(k:Nat):wH xs (!(k:Int)) none=xs.drop k:=by
 unfold wH;rw[HT.sS,HT.BC];by_cases h:k<=-xs
 .rw[adl h,acI (by rw[acB];omega)]
 .rw[Nat.min_eq_right (),List.drop_eq_nil_of_le (Nat.le_refl _),List.drop_eq_nil_of_le ()];simp
section
variable{κ:Type} [DecidableEq κ]
noncomputable def gL(Κ:List (κ×V))(k:κ):Option V:=(Κ.find? λkv=>decide (kv.1=k)).map (·.2)
noncomputable def jr(Κ:List (κ×V))(k:κ)(v:V):List (κ×V):=
 if (Κ.any λkv=>decide (kv.1=k))=true then Κ.map (λkv=>if kv.1=k then (kv.1, v) else kv) else Κ++[(k, v)]
def dH{p:κ×V}{r:List (κ×V)}{k:κ}(e:p.1=k):gL (p::r) k=!p.2:=by simp[gL,List.find?_cons,e]
def dF{p:κ×V}{r:List (κ×V)}{k:κ}(e:¬p.1=k):gL (p::r) k=gL r k:=by simp[gL,List.find?_cons,e]
def oF(k:κ):∀Κ:List (κ×V),(Κ.any λkv=>decide (kv.1=k))=(gL Κ k).isSome
 | []=>rfl
 | p::r=>by
  rw[acU];by_cases e:p.1=k
  .simp only[dH e,decide_eq_true e,Bool.true_or,Option.isSome_some]
  .rw[dF e,aa6 e,Bool.false_or];show oF k r
def wY(k j:κ)(y:V):∀Κ:List (κ×V),gL Κ k=none->gL (Κ++[(k, y)]) j=if j=k then !y else gL Κ j
 | [],_=>by
  by_cases e:k=j
  .rw[aa0 e.symm];show dH (p:=(k, y)) e
  .rw[aa3 (λz=>e z.symm)];show dF (p:=(k, y)) e
 | p::r,hn=>by
  rw[List.cons_append];let hk:¬p.1=k:=λz=>by rw[dH z]at hn;cases hn
  rw[dF hk]at hn;let ih:=wY k j y r hn;by_cases e:p.1=j
  .rw[dH e,dH e,aa3 (λz=>hk (e.trans z))]
  .rw[dF e,dF e,ih]
def k8(Κ:List (κ×V))(k:κ)(v:V):-(jr Κ k v)<=-Κ+1:=by
 unfold jr;split
 .rw[aae];omega
 .rw[aak,aaN,adm];omega
def KI{k:κ}(v:V)(h:gL Κ k=none):jr Κ k v=Κ++[(k, v)]:=by unfold jr;rw[oF,h];show aa3 @_
def lB.jD(r:lB o u):o.isSome=u.isSome:=by
 cases o with
 | none=>cases u with
  | none=>rfl
  | some _=>show(show False from r).elim
 | some _=>cases u with
  | none=>show(show False from r).elim
  | some _=>rfl
def KV.val(r:KV Κ vs)(k:κ):lB (gL Κ k) (valueAt vs k):=by
 unfold KV at r
 induction r with
 | nil=>show True.intro
 | @cons p q ps qs h t ih=>
  let(h1,h2):=h;by_cases e:p.1=k
  .let e':q.1=k:=h1.symm.trans e;let b:valueAt (q::qs) k=!q.2:=by simp[valueAt,List.find?_cons,e']
   rw[dH e,b];show h2
  .let e':¬q.1=k:=λz=>e (h1.trans z);let b:valueAt (q::qs) k=valueAt qs k:=by simp[valueAt,List.find?_cons,e']
   rw[dF e,b];show ih
def KV.any(r:KV Κ vs)(k:κ):(Κ.any λkv=>decide (kv.1=k))=vs.any λkv=>decide (kv.1=k):=by
 unfold KV at r
 induction r with
 | nil=>rfl
 | cons h t ih=>rw[acU,acU,ih,h.1]
def KV.Sw(r:KV Κ vs)(k:κ)(ry:aH y u):
  KV (Κ.map λkv=>if kv.1=k then (kv.1, y) else kv) (vs.map λkv=>if kv.1=k then (kv.1, u) else kv):=by
 unfold KV at r⊢
 induction r with
 | nil=>show .nil
 | @cons p q ps qs h t ih=>
  rw[aa1,aa1];show .cons ?_ ih;let(h1,h2):=h;by_cases e:p.1=k
  .rw[aa0 e,aa0 (h1.symm.trans e)];show(h1,ry)
  .rw[aa3 e,aa3 (λz=>e (h1.trans z))];show(h1,h2)
def KV.put(r:KV Κ vs)(k:κ)(ry:aH y u):KV (jr Κ k y) (stored vs k u):=by
 unfold jr stored;rw[r.any k];by_cases e:(vs.any λkv=>decide (kv.1=k))=true
 .rw[aa0 e,aa0 e];show r.Sw k ry
 .rw[aa3 e,aa3 e];show Paired.snoc r (rfl,ry)
def KV.keys{Κ:List (κ×V)}{vs:List (κ×Value)}(r:KV Κ vs):Κ.map (·.1)=vs.map (·.1):=by
 unfold KV at r
 induction r with
 | nil=>rfl
 | cons h t ih=>rw[aa1,aa1,ih,h.1]
def KV.length(r:KV Κ vs):-Κ=-vs:=Paired.length r
end
def vV{k:Key}(r:aH (kV k) u):(bQ P w).is k u=true:=by
 cases k with
 | inl i=>let(t,e):=(show∃t,u=Value.int i t from r);subst e;show BD P w i t
 | inr x=>let(t,e):=(show∃t,u=Value.str x t from r);subst e;show AK P w x t
def xX:∀{ks:List Key} {us:List Value},aC (ks.map kV) us->ItemsAre (bQ P w) ks us
 | [],_,r=>by rw[adw]at r;cases r;show .nil
 | k::ks,_,r=>by
  rw[aa1]at r;cases r with
  | cons h t=>show .cons (vV h) (xX t)
abbrev KT(H:Hp):List (List Key×V)->List (List Key×Addr×Value)->Prop:=Paired λp q=>p.1=q.1/\H q.2.1=!(.tup (p.1.map kV))/\aH p.2 q.2.2
def KT.val{H:Hp}(r:KT H Κ xs)(k:List Key):lB (gL Κ k) ((atKey xs k).map (·.2)):=by
 induction r with
 | nil=>show True.intro
 | @cons p q ps qs h t ih=>
  let(h1,_,h2):=h;by_cases e:p.1=k
  .let e':q.1=k:=h1.symm.trans e;let b:atKey (q::qs) k=!q.2:=by simp[atKey,List.find?_cons,e']
   rw[dH e,b];show h2
  .let e':¬q.1=k:=λz=>e (h1.trans z);let b:atKey (q::qs) k=atKey qs k:=by simp[atKey,List.find?_cons,e']
   rw[dF e,b];show ih
def KT.Sw{H:Hp}(r:KT H Κ xs)(k:List Key)(ry:aH y u):
  KT H (Κ.map λkv=>if kv.1=k then (kv.1, y) else kv) (xs.map (putAt k u)):=by
 induction r with
 | nil=>show .nil
 | @cons p q ps qs h t ih=>
  rw[aa1,aa1];show .cons ?_ ih;let(h1,h2,h3):=h;unfold putAt;by_cases e:p.1=k
  .rw[aa0 e,aa0 (h1.symm.trans e)];show(h1,h2,ry)
  .rw[aa3 e,aa3 (λz=>e (h1.trans z))];show(h1,h2,h3)
def KT.put{H:Hp}(r:KT H Κ xs)(k:List Key)(hb:H b=!(.tup (k.map kV)))(ry:aH y u):
  KT H (jr Κ k y) (storedH xs k b u):=by
 let e:(Κ.any λkv=>decide (kv.1=k))=(atKey xs k).isSome:=by rw[oF,(r.val k).jD,Option.isSome_map]
 unfold jr storedH;rw[e];by_cases q:(atKey xs k).isSome=true
 .rw[aa0 q,aa0 q];show r.Sw k ry
 .rw[aa3 q,aa3 q];show Paired.snoc r (rfl,hb,ry)
def KT.keeps{H H':Hp}(r:KT H Κ xs)(ht:∀b ys,H b=!(.tup ys)->H' b=!(.tup ys)):KT H' Κ xs:=
 Paired.RS r λ_ _ z=>(z.1,ht _ _ z.2.1,z.2.2)
section
variable{P:Program}{w:World}{H:Hp}{h:Heap}{a:Addr}
def Qw(ok:mB P w H h)(e:Rd H a u):cn P w H h a u:=e.ok ok
def eA(ok:mB P w H h)(e:Rd H a (.dK Κ)):-Κ<=sizeLine/\(a==sysModules)=false/\∃vs,KV Κ vs/\h.DictOf (bQ P w) a vs:=
 show cn P w H h a (.dK Κ) from Qw ok e
def GH(ok:mB P w H h)(e:H a=!(.dK Κ)):-Κ<=sizeLine/\(a==sysModules)=false/\∃vs,KV Κ vs/\h.DictOf (bQ P w) a vs:=eA ok (.inl e)
def uD{ks:List Key}(ok:mB P w H h)(e:H a=!(.tup (ks.map kV))):(tupleKind (bQ P w)).is h ks a:=by let(_,its,r,o,h1,h2,n,h3):=(show cn P w H h a (.tup (ks.map kV)) from ok a _ e);show(o,its.toArray,n,h1,h2,h3,by simpa using xX r)
def xj(ok:mB P w H h)(e:Rd H a (.dT Κ)):-Κ<=sizeLine/\(a==sysModules)=false/\
  ∃xs,KT H Κ xs/\h.DictOfH (tupleKind (bQ P w)) a xs:=by
 let(z,y,xs,r,o,es,ep,h1,h2,h3,h4,h5):=(show cn P w H h a (.dT Κ) from Qw ok e);show(z,y,xs,r,o,es,ep,h1,h2,h3,h4,λx hx=>?_,h5);let all:∀{l:List (List Key×V)} {m:List (List Key×Addr×Value)},KT H l m->∀x∈m,(tupleKind (bQ P w)).is h x.1 x.2.1:=by
  intro l m q
  induction q with
  | nil=>intro x hx;show nomatch hx
  | @cons p q ps qs hq t ih=>
   intro x hx;rcases abg.mp hx with e| hx
   .subst e;show uD ok (by rw[<-hq.1];show hq.2.1)
   .show ih x hx
 show all r x hx
def U5(ok:mB P w H h)(e:H a=!(.dT Κ)):-Κ<=sizeLine/\(a==sysModules)=false/\
  ∃xs,KT H Κ xs/\h.DictOfH (tupleKind (bQ P w)) a xs:=xj ok (.inl e)
end
def zq(H:Hp)(a:Addr)(y:V)(r:Option V):Prop:=
 (∃Κ k,Rd H a (.dK Κ)/\y=kV k/\r=gL Κ k)\/∃Κ k b,Rd H a (.dT Κ)/\y= .ref b/\H b=!(.tup (k.map kV))/\r=gL Κ k
def Lw(H:Hp)(a:Addr)(y v:V)(H':Hp):Prop:=
 (∃Κ k,H a=!(.dK Κ)/\y=kV k/\-Κ < sizeLine/\H'=upd H a (.dK (jr Κ k v)))\/
 ∃Κ k b,H a=!(.dT Κ)/\y= .ref b/\H b=!(.tup (k.map kV))/\-Κ < sizeLine/\H'=upd H a (.dT (jr Κ k v))
def Lw.k{H:Hp}{k:Key}(e:H a=!(.dK Κ))(hl:-Κ < sizeLine):Lw H a (kV k) v (upd H a (.dK (jr Κ k v))):=.inl (Κ,k,e,rfl,hl,rfl)
section
variable{X:Cx}{η:List (Addr×Obj)}{σ:St}{H:Hp}{s:Shared}{a:Addr}{y v:V}{u r:Value}{o:Option V}{A:Around}{E:Value->Shared->Prop}
set_option tactic.hygienic false
def Inv.big(I:Inv X η σ H s):sysModules < s.heap.objs.size:=by let h:mainGlobals < s.heap.objs.size:=(I.mod.glob.keeps I.bk).lt;show Nat.lt_trans @_ h
def Jp{Q:Value->Shared->Prop}(hu:A.units+1 < cLine)(I:Inv X η σ H s)(g:zq H a y (!v))(ry:aH y u)(h:∀w' s',Inv X η σ H s'->aH v w'->Q w' s'):
  wpAny (model X.prog X.w) A (getItem (.ref a) u) Q E s:=by
 rcases g with ⟨Κ,k,e,ey,l⟩| ⟨Κ,k,b,e,ey,eb,l⟩
 .subst ey;let(z,hd,vs,rel,dd):=eA I.aS e;let(w',hw,IF):=lB.some_of (v:=v) (o:=valueAt vs k) (by rw[l];show rel.val k);show wpAny_getItem_of (vV ry) dd.mapOf hw (h w' _ (I.tok _) IF)
 .subst ey;cases(show u=Value.ref b from ry);let(z,hd,xs,rel,dd):=xj I.aS e;let(w',hw,IF):=lB.some_of (v:=v) (o:=(atKey xs k).map (·.2)) (by rw[l];show rel.val k);let(p,hp,T6):=acJ.mp hw;show wpAny_getItem_heap (tupleKind_room_in1 hu) (uD I.aS eb) dd hp ?_;rw[T6];show h w' _ (I.tok _) IF
def abo{Q:Value->Shared->Prop}(hu:A.units+1 < cLine)(I:Inv X η σ H s)(g:zq H a y o)(ry:aH y u)(h:∀s',Inv X η σ H s'->Q (.bool o.isSome) s'):
  wpAny (model X.prog X.w) A (compareOp .In u (.ref a)) Q E s:=by
 rcases g with ⟨Κ,k,e,ey,l⟩| ⟨Κ,k,b,e,ey,eb,l⟩
 .subst ey;let(z,hd,vs,rel,dd):=eA I.aS e;show wpAny_in_of (vV ry) hd dd.mapOf ?_;rw[<-(rel.val k).jD,<-l];show h _ (I.tok _)
 .subst ey;cases(show u=Value.ref b from ry);let(z,hd,xs,rel,dd):=xj I.aS e;show wpAny_in_heap (tupleKind_room_in1 hu) (uD I.aS eb) hd dd ?_;let q:=(rel.val k).jD;rw[Option.isSome_map]at q;rw[<-q,<-l];show h _ (I.tok _)
def Ox{Q:Value->Shared->Prop}(hu:A.units+1 < cLine)(I:Inv X η σ H s)(g:zq H a y o)(ry:aH y u)(h:∀s',Inv X η σ H s'->Q (.bool (! o.isSome)) s'):
  wpAny (model X.prog X.w) A (compareOp .NotIn u (.ref a)) Q E s:=by
 rcases g with ⟨Κ,k,e,ey,l⟩| ⟨Κ,k,b,e,ey,eb,l⟩
 .subst ey;let(z,hd,vs,rel,dd):=eA I.aS e;show wpAny_notIn_of (vV ry) hd dd.mapOf ?_;rw[<-(rel.val k).jD,<-l];show h _ (I.tok _)
 .subst ey;cases(show u=Value.ref b from ry);let(z,hd,xs,rel,dd):=xj I.aS e;show wpAny_notIn_heap (tupleKind_room_in1 hu) (uD I.aS eb) hd dd ?_;let q:=(rel.val k).jD;rw[Option.isSome_map]at q;rw[<-q,<-l];show h _ (I.tok _)
def sZ{t':Nat}(I:Inv X η σ H s)(mu:T5 (H a))(hs:Heap.SameBut a s.heap h')(he:∃q,h'.get? a=!q)(new:cn X.prog X.w (upd H a ob) h' a ob):
  Inv X η σ (upd H a ob) {s with heap:=h',toks:=t'}:=
 I.write (x:=a) (e:=a) mu (.inl rfl) (λb q hb z=>(hs.2 b hb).trans z) he new
def tF{h':Heap}{Κ:List (Key×V)}(z:-Κ<=sizeLine)(hd:(a==sysModules)=false)(rel:KV Κ vs)(dd:h'.DictOf (bQ P w) a vs):
  cn P w H' h' a (.dK Κ):=(z,hd,vs,rel,dd)
def Hu{Q:Unit->Shared->Prop}(hu:A.units+1 < cLine)(I:Inv X η σ H s)(g:Lw H a y v H')(ry:aH y u)(rv:aH v r)(h:∀s',Inv X η σ H' s'->Q Unit.unit s'):
  wpAny (model X.prog X.w) A (setItem (.ref a) u r) Q E s:=by
 rcases g with ⟨Κ,k,e,ey,l,eH⟩| ⟨Κ,k,b,e,ey,eb,l,eH⟩
 .subst ey eH;let(z,hd,vs,rel,dd):=GH I.aS e;let hz:-vs<=sizeLine:=by rw[<--rel];show z
  let hl:-(jr Κ k v)<=sizeLine:=by have:=k8 Κ k v;omega
  show wpAny_setItem_pairs (hsz:=hz) (vV ry) dd λh' PB hs=>h _ ?_;let he:∃q,h'.get? a=!q:=let (q,_,_,hq,_):=PB;(q,hq)
  show sZ I (by rw[e];show True.intro) hs he (tF hl hd (rel.put k rv) PB)
 .subst ey eH;cases(show u=Value.ref b from ry);let(z,hd,xs,rel,dd):=U5 I.aS e;let hz:-xs<=sizeLine:=by rw[<-Paired.length rel];show z
  let hl:-(jr Κ k v)<=sizeLine:=by have:=k8 Κ k v;omega
  show wpAny_setItem_heap (hsz:=hz) (tupleKind_room_in1 hu) (uD I.aS eb) dd λh' PB hs=>h _ ?_;let(q,es,ep,hq,h2,h3,h4,_,h5):=PB;show sZ I (by rw[e];show True.intro) hs (q,hq) (hl,hd,_,(rel.put k eb rv).keeps λc ys ec=>?_,q,es,ep,hq,h2,h3,h4,h5);rw[Ρ (Xc ec e nofun)];show ec
end
section
variable{X:Cx}{η:List (Addr×Obj)}{σ:St}{H:Hp}{s:Shared}{a:Addr}{Κ:List (Key×V)}{k:Key}{u:Value}{A:Around}{E:Value->Shared->Prop}
def WS{Q:Value->Shared->Prop}(I:Inv X η σ H s)(e:Rd H a (.dK Κ))(h:∀t s',Inv X η σ H s'->Q (.int (-Κ) t) s'):wpAny (model X.prog X.w) A (call (.builtin "len") [.ref a]) Q E s:=by let(z,hd,vs,rel,dd):=eA I.aS e;show call_len_dict hd dd (by rw[<--rel];rw[sizeLine_eq]at z;omega) ?_;rw[<--rel];show h _ _ (I.tok _)
end
def Em(i:Expr):Prop:=∀ov iv,subscripted i false ov iv=operate [ov,iv] (getItem ov iv)
def zG{id:String}
  (hl:typeLookup (.type T) "__getitem__"=pure (!(.builtin id))) (hs:Em slice)
  (h:wpAny (model prog w) A (eval value env) (λo s₁=>wpAny (model prog w) A (eval slice env) (λi s₂=>s₂.TypeIs o T/\wpAny (model prog w) A (getItem o i) Q E s₂) E s₁) E s):
  wpAny (model prog w) A (eval (.Subscript value slice pos) env) Q E s:=by
 show Subscript_ (acV h (λo s₁ h₁=>acV h₁ (λi s₂ h₂=>?_) λ_ _ x=>x) λ_ _ x=>x);let(hT,h₂):=h₂;unfold subscriptTail;show aaw ?_;rw[getitemInPython_of_ne hT.not_modules];show aaw (wpAny_specialOf hT hl ?_);let fin:wpAny (model prog w) A (subscripted slice false o i) (λr s₃=>wpAny (model prog w) A (letTemporaryGo value o r >>= λ_=>pure r) Q E s₃) E s₂:=by rw[hs o i];show wpAny_operating (acV h₂ (λr s₃ h₃=>aaw (wpAny_letTemporaryGo (abt h₃))) λ_ _ x=>x)
 first
  | show abt (aaw fin)
  | show aaw (abt (aaw fin))
  | show aaw fin
def Bh{H:Hp}(I:Inv X η σ H s)(g:zq H a y o):s.TypeIs (.ref a) "dict":=by
 rcases g with ⟨Κ,k,e,_,_⟩| ⟨Κ,k,b,e,_,_,_⟩
 .let(_,_,vs,_,dd):=eA I.aS e;show dd.typeIs
 .let(_,_,xs,_,dd):=xj I.aS e;show dd.typeIs
def VM(td ty:TE):TE:=λσ H Q=>td σ H λx H1=>ty σ H1 λy H2=>∃a v,x= .ref a/\zq H2 a y (!v)/\Q v H2
def VE(td ty tv:TE):TS:=λD σ H=>tv σ H λv H1=>td σ H1 λx H2=>ty σ H2 λy H3=>∃a H4,x= .ref a/\Lw H3 a y v H4/\D.nx σ H4
section
variable{X:Cx}{o i e value:Expr}{pos pos' wj:Pos}{td ty tv:TE}
def Ol(hu:X.A.units+1 < cLine)(ho:PE X o td)(hi:PE X i ty)(hs:Em i):PE X (.Subscript o i pos) (VM td ty):=by intro η s σ H Q I h;show zG ac6.lookup hs (bG (ho η s σ H _ I h) fun u s1 (x,H1,I1,rx,q1)=>bG (hi η s1 σ H1 _ I1 q1) λiv s2 xz=>?_);let(y,H2,I2,ry,a,v,ex,g,q2):=xz;subst ex;obtain rfl:u=Value.ref a:=rx;show(Bh I2 g,Jp hu I2 g ry λw' s3 I3 IF=>(v,H2,I3,IF,q2))
def OD(hu:X.A.units+1 < cLine)(ho:PE X o td)(hi:PE X i ty)(hv:PE X value tv)(hs:swapsWith value (!(.Subscript o i pos')) pos.line X.env=pure false):
  PS X (.Assign [.Subscript o i pos'] value pos) (VE td ty tv):=by
 intro η s σ H D I h;show wpAny_Assign_Subscript (bG (hv η s σ H _ I h) fun r s1 (v,H1,I1,rv,q1)=>bG (ho η s1 σ H1 _ I1 q1) fun u s2 (x,H2,I2,rx,q2)=>bG (hi η s2 σ H2 _ I2 q2) λiv s3 xz=>?_) hs;let(y,H3,I3,ry,a,H4,ex,g,q3):=xz;subst ex;obtain rfl:u=Value.ref a:=rx;show Hu hu I3 g ry rv λs4 I4=>(σ,H4,I4,q3)
end
def AY{H:Hp}(h:Heap)(hb:sysModules < h.objs.size):cn P w H (h.push {cls:=.type "dict",data:=.dict #[]}) h.objs.size (.dK []):=
 (acR _,beq_eq_false_iff_ne.mpr (Ne.symm (abF hb)),[],.nil,Heap.DictOf.new h)
def Sk:TE:=λ_ H Q=>∀p,H p=none->Q (.ref p) (upd H p (.dK []))
section
variable{X:Cx}{pos:Pos}
def Mf:PE X (.Dict [] [] pos) Sk:=λη s σ H Q I h=>
 wpAny_Dict_empty (.ref s.heap.objs.size,_,I.laid (a:=s.heap.objs.size) (o:=.dK []) (t':=s.toks) (λ_ _ q=>aat _ q) (aaq _) (AY s.heap I.big),rfl,h _ (I.aS.fresh (aaq _)))
end
set_option tactic.hygienic false
def Ec:List (TE×TE)->St->Hp->(List (V×V)->Hp->Prop)->Prop
 | [],_,H,Q=>Q [] H
 | (tk, tv)::r,σ,H,Q=>tk σ H λx H1=>tv σ H1 λy H2=>Ec r σ H2 λps H3=>Q ((x, y)::ps) H3
abbrev VV:List (V×V)->List (Value×Value)->Prop:=Paired λp q=>aH p.1 q.1/\aH p.2 q.2
def Yt(X:Cx)(pos:Pos)(keys:List (Option Expr))(values:List Expr)(Pd:List (TE×TE)):Prop:=
 ∀(η:List (Addr×Obj)) (s:Shared) (σ:St) (H:Hp) (Q:List (V×V)->Hp->Prop),Inv X η σ H s->Ec Pd σ H Q->
  wpAny (model X.prog X.w) X.A (evalPairs (pairTrees keys values X.env pos)) (λvs s'=>∃ps H',Inv X η σ H' s'/\VV ps vs/\Q ps H') X.xe s
def N6:Yt X pos [] [] []:=λη s σ H Q I h=>pairTrees_nil_walk ([],H,I,.nil,h)
def LJ{k:Expr}(hk:PE X k tk)(hv:PE X v tv)(hr:Yt X pos ks vs Pd):
  Yt X pos ((!k)::ks) (v::vs) ((tk, tv)::Pd):=λη s σ H Q I h=>
 pairTrees_cons_walk (bG (hk η s σ H _ I h) fun u s1 (x,H1,I1,rx,q1)=>bG (hv η s1 σ H1 _ I1 q1) fun w2 s2 (y,H2,I2,ry,q2)=>
  bG (hr η s2 σ H2 _ I2 q2) λws s3 (ps,H3,I3,rel,q3)=>((x, y)::ps,H3,I3,.cons (rx,ry) rel,q3))
def jo(Κ more:List (Key×V)):List (Key×V):=more.foldl (λΜ kv=>jr Μ kv.1 kv.2) Κ
def KV.merge:∀{more:List (Key×V)} {rs:List (Key×Value)} {Κ:List (Key×V)} {vs:List (Key×Value)},KV more rs->KV Κ vs->KV (jo Κ more) (merged vs rs):=by
 intro more rs Κ vs r;unfold KV at r
 induction r generalizing Κ vs with
 | nil=>intro q;show q
 | @cons p q ps qs h t ih=>
  intro r0;let e:KV (jr Κ p.1 p.2) (stored vs q.1 q.2):=by have:=r0.put p.1 h.2;rw[<-h.1];show this
  show ih e
def jd:∀(more Κ:List (Key×V)),-(jo Κ more)<=-Κ+-more
 | [],Κ=>by change -Κ<=-Κ+0;omega
 | p::r,Κ=>by let h1:=jd r (jr Κ p.1 p.2);let h2:=k8 Κ p.1 p.2;change(jo (jr Κ p.1 p.2) r).length<=_;rw[aaN];omega
def vU:∀{Κ:List (Key×V)} {ws:List (Value×Value)},VV (Κ.map λkv=>(kV kv.1, kv.2)) ws->∃rs,Carries (bQ P w) ws rs/\KV Κ rs
 | [],_,r=>by rw[adw]at r;cases r;show([],True.intro,.nil)
 | p::Κ,_,r=>by
  rw[aa1]at r;cases r with
  | @cons a b as bs h t=>
   let(rs,c,q):=vU (P:=P) (w:=w) t;let(b1,b2):=b;show((p.1, b2)::rs,(vV h.1,rfl,c),.cons (rfl,h.2) q)
def UR(Pd:List (TE×TE)):TE:=λσ H Q=>∀p,H p=none->Ec Pd σ (upd H p (.dK [])) λps H2=>H2 p=!(.dK [])/\∃Κ:List (Key×V),ps=Κ.map (λkv=>(kV kv.1, kv.2))/\-Κ<=15/\Q (.ref p) (upd H2 p (.dK (jo [] Κ)))
def Ot{keys:List (Option Expr)}(h:Yt X pos keys values Pd)(sC:keys.all (·.isSome)=true)(hl:-keys=-values)(h0:keys≠[])
  (h15:-keys<=15):PE X (.Dict keys values pos) (UR Pd):=by
 intro η s σ H Q I q;let hn:=I.aS.fresh (aaq s.heap.objs.size);let I1:=I.laid (a:=s.heap.objs.size) (o:=.dK []) (h':=s.heap.push {cls:=.type "dict",data:=.dict #[]}) (t':=s.toks) (λ_ _ q=>aat _ q) (aaq _) (AY s.heap I.big);show wpAny_Dict_walk (knd:=bQ X.prog X.w) sC hl h0 h15 (bG (h η _ σ _ _ I1 (q _ hn)) λws s2 xz=>?_);let(ps,H2,I2,rel,e,Κ,ep,lk,q2):=xz;subst ep;let(rs,c,rk):=vU (P:=X.prog) (w:=X.w) rel;let(z,hd,vs0,r0,dd):=GH I2.aS e;cases r0;show(rs,c,dd,λh' PB hs=>(.ref s.heap.objs.size,_,?_,rfl,q2));let hz:-(jo [] Κ)<=sizeLine:=by let h1:=jd Κ [];rw[adm]at h1;rw[sizeLine_eq];omega
 let he:∃q,h'.get? s.heap.objs.size=!q:=let (q,_,_,hq,_):=PB;(q,hq)
 show sZ I2 (by rw[e];show True.intro) hs he (tF hz hd (rk.merge .nil) PB)
structure M1(X:Cx)(o:Expr)(m:Str)(apos:Pos)(e:Expr)(df:Pos):Prop where
 base:attributeBase o m X.env (eval o X.env)=eval o X.env
 Qs:((backTo df (starEach [e] X.env)).all (λx=> ! x.1)&&(backToKw df (keywordEach [] X.env)).all (λx=>x.1.isSome)
  &&decide (-([e]:List Expr)+-([]:List Keyword)+(if ([]:List Keyword).isEmpty then 0 else 1) < 30))=true
 line:(apos.endLine==df.line)=true
 trees:backTo df (starEach [e] X.env)=[(false, eval e X.env)]
def IsD(H:Hp)(a:Addr):Prop:=(∃Κ,Rd H a (.dK Κ))\/∃Κ,Rd H a (.dT Κ)
def Sm{H:Hp}(I:Inv X η σ H s)(d:IsD H a):
  s.TypeIs (.ref a) "dict"/\(∀b,Value.ref a= .ref b->∃ob,s.heap.get? b=!ob/\ob.dict=none)/\(a==sysModules)=false:=by
 rcases d with ⟨Κ,e⟩| ⟨Κ,e⟩
 .let(_,hd,vs,_,dd):=eA I.aS e;show(dd.typeIs,λb q=>?_,hd);cases q;let(ob,_,_,h1,h2,_):=dd;show(ob,h1,h2.2.1)
 .let(_,hd,xs,_,dd):=xj I.aS e;show(dd.typeIs,λb q=>?_,hd);cases q;let(ob,_,_,h1,h2,_):=dd;show(ob,h1,h2.2.1)
set_option tactic.hygienic true
section
variable{X:Cx}{η:List (Addr×Obj)}{σ:St}{H:Hp}{s:Shared}{a:Addr}{Κ:List (Key×V)}{A:Around}{E:Value->Shared->Prop}
def Mw{Q:Value->Shared->Prop}(I:Inv X η σ H s)(e:Rd H a (.dK Κ))(h:∀p s',H p=none->Inv X η σ (upd H p (.dK Κ)) s'->Q (.ref p) s'):wpAny (model X.prog X.w) A (call (.type "dict") [.ref a]) Q E s:=by let(z,hd,vs,rel,dd):=eA I.aS e;show kt_call_dict hd dd (by rw[<--rel];show z) λh' PB hs=>?_;show h _ _ (I.aS.fresh (aaq _)) (I.laid (a:=s.heap.objs.size) (o:=.dK Κ) (t':=s.toks) (λb q hq=>?_) (aaq _) (tF z (beq_eq_false_iff_ne.mpr (Ne.symm (abF I.big))) rel PB));show(hs.2 b (abF (aaV hq))).trans (aat _ hq)
end
end L2
namespace Att
open PySem PySem.W PySem.Calls PyProof.Rows
end Att
namespace L2
open PySem PySem.Spec PyProof.Rows
end L2
/- THE ZC NN (shape;LID, My.* are VQ):
  My.Adr:a structure of Pk addresses aa7 abn WD names (classes, Hf);My.Txt K t:a structure (Prop) of Pk equations sH K;
  My.Dk:{K} {implicit addresses ..} (e1:nsIn K mainGlobals "law"=!(!(.ref f))) (e2:K.lookup f=!(oc,od,.func (fnOf "law" "law" params body scope dV kV doc pm an aQ ct),sl)) (e3:codeIn K aQ "law"=true) .. :∃t,My.Txt K t
set_option maxRecDepth 100000 in
set_option maxHeartbeats 0 in
def PySem.Challenge.cw_LID_holds : PySem.Challenge.rw_LID.Holds := by
 w_on;o_law;k_head;(case hw=>w_witness2)
 k_fill
 show L2.Av (l:=PySem.Challenge.rw_LID) (n:=63) (k:=40) (x:="script") (CX:=fun w=>..) (sp:=fun _=>My.TC) rfl @_ rfl (rfl,@_,@_) (fun w h Y=>PySem.W.kIn_of Y) ?F ?S ?C
 case F=>
  intro w mg fa h KX G NW;let T:∃t,My.Txt (L2.ZA KX) t:=by
   dsimp only[L2.ZA]
   refine' My.Dk ?e1 ?e2 ?e3 ..
   (case e1=>PySem.W.k_is)
   (case e2=>PySem.W.k_is)
   ..
  let(t,T):=T;let e0:=NW.symm.trans (PySem.W.mg_of KX G T.law);cases e0;show(_,λs u=>.of_eq rfl,λbase kb nb=>My.EY T kb nb)
 case S=>exactλw H a ns hl hO hS=>..
 case C=>show ..
(Pk tactic k_is has no namespace:write k_is) -/
namespace L2
open PySem PySem.Spec PyProof.Rows
section
variable{X:Cx}
def Jr:eD X (.builtin "len") (λxs H Q=>∃a Κ,xs=[V.ref a]/\H a=!(.dK Κ)/\Q (.int (-Κ)) H):=by intro η s σ H xs us Q I r h;let(a,Κ,rfl,ha,q):=h;let(u,rfl,ru):=lS r;cases ru;show WS I (.inl ha) λt s' I'=>(.int (-Κ),H,I',(t,rfl),q)
end
variable{X:Cx}{G:Hp}{L:List Addr}{d:Dt}{v:V}{R:St->XK}{o i e tg:Expr}{to ti te ta tb:DE}{pos p apos:Pos}{k' n:Nat}{x:Str}{η:List (Addr×Obj)}{σ:St}{s:Shared}{b c:Bool}{M:Ms}{ds:List Dt}{vs:List V}{a U f:Addr}{t:DA}{A:Around}{prog P:Program}{w:World}{E Q:Value->Shared->Prop}{Κ:List (Key×V)}{scope:Scope}{ys ps:List Str}{ag:List Nat}{ks:List Key}{st:Stmt}{its:Array Value}{fd:FuncData}{es:List Expr}
noncomputable def BO:Dt->Option Key
 | .int i=>!(.inl i)
 | .str z=>!(.inr z)
 | _=>none
noncomputable def bx(ks:List Key)(ds:List Dt)(k:Key):Option Dt:=((ks.zip ds).find? λp=>decide (p.1=k)).map (·.2)
def ma{K:fI}{k:Key}(h:BO d=!k)(n:Den K G L d v):v=kV k:=by
 cases d with
 | int i=>cases h;show n
 | str z=>cases h;show n
 | _=>cases h
def qE{K:fI}{G:Hp}{L:List Addr}{k:Key}:∀{ks:List Key} {ds:List Dt} {vs:List V} {d:Dt},Τ K G L ds vs->bx ks ds k=!d->∃v,gL (ks.zip vs) k=!v/\Den K G L d v
 | [],_,_,_,_,h=>by cases h
 | _::_,[],_,_,_,h=>by cases h
 | c::ks,d0::ds,_,d,(v0,vs,e,n0,n),h=>by
  subst e;rw[ab9];by_cases hc:c=k
  .let h':bx (c::ks) (d0::ds) k=!d0:=by unfold bx;rw[List.zip_cons_cons,List.find?_cons_of_pos (by simpa using hc)];rfl
   rw[h']at h;cases h;show(v0,dH hc,n0)
  .let h':bx (c::ks) (d0::ds) k=bx ks ds k:=by unfold bx;rw[List.zip_cons_cons,List.find?_cons_of_neg (by simpa using hc)]
   rw[h']at h;let(v,h1,h2):=qE n h;show(v,by rw[dF hc];show h1,h2)
def Kz(to ti:DE):DE:=λρ M q x=>to ρ M (λd M1=>ti ρ M1 (λdi M2=>∃k ks ds key v,d= .loc k/\M2[k]? =!(.c_ ks ds)/\BO di=!key/\bx ks ds key=!v/\q v M2) x) x
def xA:∀(more Μ:List (Key×V)),(∀p∈more,gL Μ p.1=none)->(more.map (·.1)).Nodup->jo Μ more=Μ++more
 | [],Μ,_,_=>by change Μ=Μ++[];rw[abw]
 | p::more,Μ,h,nd=>by
  change jo (jr Μ p.1 p.2) more=_;rw[KI p.2 (h p aah),xA more _ (λq hq=>?_) (aca.mp nd).2]
  .simp
  .let e:=wY p.1 q.1 p.2 Μ (h p aah);rw[show(Μ++[(p.1, p.2)])=Μ++[(p.1, p.2)] from rfl,e,aa3]
   .show h q (aaf _ hq)
   .intro z;show(aca.mp nd).1 (aam.mpr (q,hq,z))
section
noncomputable def iw(hr:bI k' X.A)(ho:JE X R o to)(hi:JE X R i ti)(hs:Em i:=by intro _ _;rfl):JE X R (.Subscript o i pos) (Kz to ti):=
 .of (Ol (Gu hr) ho hi hs) λσ H G L ρ M q x rl n h hx=>by show(G,L,ρ,M,_,x,rl,n,h,hx,λv H1 xz=>?_);let(d1,G1,L1,M1,e1,r1,n1,h1):=xz;show(G1,L1,ρ,M1,_,x,r1,n.mono e1,h1,hx.on e1,λv2 H2 xz=>?_);let(d2,G2,L2,M2,e2,r2,n2,k,ks,ds,key,y,ed,hm,hk,hg,h2):=xz;subst ed;let(a,rfl,sX):=n1;let EI:=e2.l.get sX;let(_,vs,hH,hl,dn):=r2.fK k a _ EI hm;let(u,hu,du):=qE dn hg;show(a,u,rfl,.inl (_,key,.inl hH,ma hk n2,hu.symm),fin_same (e1.trans e2) r2 du h2)
end
structure T4(K:fI)(w:World)(mg:Str->Option Value)(x:Str)(tab:List (Str×Str)):Prop where
 ex:∃a es n,mg x=!(.ref a)/\K.lookup a=!(.type "dict",none,.dict es n,#[])/\PySem.W.KeysLit w.params es.toList/\∀z y,tab.lookup z=!y->∃tk,PySem.W.nsIn K a z=!(!(.str y tk))
def WN(tab:List (Str×Str))(ti:DE):DE:=λρ M q x=>ti ρ M (λd M1=>∃z y,d= .str z/\tab.lookup z=!y/\q (.str y) M1) x
def aag(tab:List (Str×Str))(ti:TE):TE:=λσ H Q=>ti σ H λv H1=>∃z y,v= .str z/\tab.lookup z=!y/\Q (.str y) H1
section
variable{tab:List (Str×Str)}
def TX{ti:TE}(T:T4 X.K X.w X.mg x tab)(hi:PE X i ti)(hs:Em i)(hg:Gl X x)(mw:(x==("__debug__":Str))=false):PE X (.Subscript (.Name x p) i pos) (aag tab ti):=by let(a,es,n,hm,hl,hk,ht):=T.ex;intro η s σ H Q I h;show zG ac6.lookup hs (oX I hg hm ?_ mw);show bG (hi η s σ H _ I h) λiv s2 xz=>?_;let(v,H2,I2,rv,z,y,ev,hy,q2):=xz;subst ev;let(t,rfl):=rv;let(tk,hn):=ht z y hy;let hM:=PySem.W.mapOf_K (prog:=X.prog) (w:=X.w) I2.pU hl hk;show(hM.typeIs,wpAny_getItem_of (strKind_is X.prog X.w z t) hM (PySem.W.find_K hl hn) (.str y,H2,I2.tok _,(tk,rfl),q2))
noncomputable def UK(T:T4 X.K X.w X.mg x tab)(hi:JE X R i ti)(hs:Em i:=by intro _ _;rfl)(hg:Gl X x|>1)(mw:(x==("__debug__":Str))=false|>2):JE X R (.Subscript (.Name x p) i pos) (WN tab ti):=
 .of (TX T hi hs hg mw) λσ H G L ρ M q x rl n h hx=>by show(G,L,ρ,M,_,x,rl,n,h,hx,λv H1 xz=>?_);let(d1,G1,L1,M1,e1,r1,n1,z,y,ed,hy,h1):=xz;subst ed;show(z,y,n1,hy,bw e1 r1 h1)
end
inductive Nf(K:fI)(H:Hp):Nat->V->V->Bool->Prop
 | flat {n:Nat} {x y:V} (h1:eE x=true) (h2:eE y=true):Nf K H n x y (pW x y)
 | tup {n:Nat} {a b:Addr} {xs ys:List V} {f:Nat->Bool} (h1:pH K H a xs) (h2:pH K H b ys) (h:∀j x y,xs[j]? =!x->ys[j]? =!y->Nf K H n x y (f j)):Nf K H (n+1) (.ref a) (.ref b) ((List.range (min (-xs) (-ys))).all f&&-xs==-ys)
 | lst {n:Nat} {a b:Addr} {xs ys:List V} {f:Nat->Bool} (h1:h7 K H a xs) (h2:h7 K H b ys) (hl:-xs=-ys) (h:∀j x y,xs[j]? =!x->ys[j]? =!y->Nf K H n x y (f j)):Nf K H (n+1) (.ref a) (.ref b) ((List.range (-xs)).all f)
 | len {n:Nat} {a b:Addr} {xs ys:List V} (h1:h7 K H a xs) (h2:h7 K H b ys) (hl:-xs≠-ys):Nf K H (n+1) (.ref a) (.ref b) false
def AV{x:V}(h:eE x=true):pW x x=true:=by cases x <;> first| rfl| (show(_==_)=true;simp)| cases h
section
variable{H:Hp}
def Bp(I:Inv X η σ H s){x:V}(h:Nf X.K H n x y b):x=y->b=true:=by
 induction h with
 | flat h1 h2=>intro e;subst e;show AV h1
 | @tup n a b xs ys f h1 h2 h ih=>
  intro e;cases e;cases I.xV h1 h2;rw[adf,beq_self_eq_true,Bool.and_true];show ab6.mpr λj hj=>?_;let hj:=abG.mp hj;show ih j _ _ (aaa hj) (aaa hj) rfl
 | @lst n a b xs ys f h1 h2 hl h ih=>
  intro e;cases e;cases I.iI h1 h2;show ab6.mpr λj hj=>?_;let hj:=abG.mp hj;show ih j _ _ (aaa hj) (aaa hj) rfl
 | len h1 h2 hl=>
  intro e;cases e;cases I.iI h1 h2;show abe rfl hl
def cX{its:List Value}(r:aC xs its){j:Nat}(h:j < its.toArray.size):∃x,xs[j]? =!x/\aH x its.toArray[j]:=by
 let hj:j < -its:=by simpa using h
 let hx:j < -xs:=by rw[-r];show hj
 let(u,g,ru):=r.get (aaa hx);rw[aaa hj]at g;cases g;show(_,List.getElem?_eq_getElem hx,by simpa using ru)
def yk(I:Inv X η σ H s){x:V}(h:Nf X.K H n x y b):∀{A:Around} {u v:Value},aH x u->aH y v->A.units+n < cLine->SeqAt.EqAt A s u v b:=by
 induction h with
 | flat h1 h2=>exactλru rv _=>vb ru rv h1 h2
 | @tup n a b xs ys f h1 h2 h ih=>
  intro A u v ru rv hu;cases ru;cases rv;by_cases e:a=b
  .have:=Bp I (.tup h1 h2 h) (abq V.ref e);rw[this,e];show SeqAt.EqAt.same _
  .let(i1,v1,t1,_):=I.tuple h1;let(i2,v2,t2,_):=I.tuple h2
   have:=SeqAt.RcAt.tuples (A:=A) (e:=f) (show s.heap.IsTuple a i1.toArray from t1) (show s.heap.IsTuple b i2.toArray from t2) () (λj g1 g2=>by
    let(x,hx,rx):=cX v1 g1;let(y,hy,ry):=cX v2 g2
    show ih j x y hx hy rx ry (by change A.units+1+n < cLine;omega))
   rw[aa5,aa5,<--v1,<--v2]at this;show SeqAt.EqAt.of_refs e this
 | @lst n a b xs ys f h1 h2 hl h ih=>
  intro A u v ru rv hu;cases ru;cases rv;by_cases e:a=b
  .have:=Bp I (.lst h1 h2 hl h) (abq V.ref e);rw[this,e];show SeqAt.EqAt.same _
  .let(i1,v1,t1,_):=I.list h1;let(i2,v2,t2,_):=I.list h2
   have:=SeqAt.RcAt.lists (A:=A) (e:=f) t1.isList t2.isList (by rw[aa5,aa5,<--v1,<--v2];show hl) () (λj g1 g2=>by
    let(x,hx,rx):=cX v1 g1;let(y,hy,ry):=cX v2 g2
    show ih j x y hx hy rx ry (by change A.units+1+n < cLine;omega))
   rw[aa5,<--v1]at this;show SeqAt.EqAt.of_refs e this
 | @len n a b xs ys h1 h2 hl=>
  intro A u v ru rv hu;cases ru;cases rv;let e:a≠b:=λe=>by subst e;cases I.iI h1 h2;show hl rfl
  let(i1,v1,t1,_):=I.list h1;let(i2,v2,t2,_):=I.list h2;show SeqAt.EqAt.of_refs e (SeqAt.RcAt.lists_lengths t1.isList t2.isList (by rw[List.size_toArray,List.size_toArray,<--v1,<--v2];simpa using hl) ())
end
def W_(K:fI)(n:Nat):R2:=λx y H Q=>∃a b c,x= .ref a/\y= .ref b/\Nf K H n x y c/\Q (.bl c) H
def UE(K:fI)(n:Nat):R2:=λx y H Q=>∃a b c,x= .ref a/\y= .ref b/\Nf K H n x y c/\Q (.bl (! c)) H
section
def JQ(hu:X.A.units+n < cLine):jM X (compareOp .Eq) (W_ X.K n):=by
 intro η s σ H x y v u Q I rx ry h;let(a,b,c,rfl,rfl,h,q):=h;cases rx;cases ry;cases h with
 | flat h1 h2=>cases h1
 | @tup n _ _ xs ys f h1 h2 h=>
  let(i1,v1,t1,_):=I.tuple h1;let(i2,v2,t2,_):=I.tuple h2;show SeqAt.eq_tupleAt (e:=f) (show s.heap.IsTuple a i1.toArray from t1) (show s.heap.IsTuple b i2.toArray from t2) () (λj g1 g2=>?_) ?_
  .let(x,hx,rx):=cX v1 g1;let(y,hy,ry):=cX v2 g2;show yk I (h j x y hx hy) rx ry (by change X.A.units+1+n < cLine;omega)
  .rw[aa5,aa5,<--v1,<--v2];show(.bl _,H,I,rfl,q)
 | @lst n _ _ xs ys f h1 h2 hl h=>
  let(i1,v1,t1,_):=I.list h1;let(i2,v2,t2,_):=I.list h2;show SeqAt.eq_listAt (e:=f) t1.isList t2.isList (by rw[aa5,aa5,<--v1,<--v2];show hl) () (λj g1 g2=>?_) ?_
  .let(x,hx,rx):=cX v1 g1;let(y,hy,ry):=cX v2 g2;show yk I (h j x y hx hy) rx ry (by change X.A.units+1+n < cLine;omega)
  .rw[aa5,<--v1];show(.bl _,H,I,rfl,q)
 | @len n _ _ xs ys h1 h2 hl=>
  let(i1,v1,t1,_):=I.list h1;let(i2,v2,t2,_):=I.list h2;show SeqAt.eq_list_lengthsAt t1.isList t2.isList (by rw[List.size_toArray,List.size_toArray,<--v1,<--v2];simpa using hl) () (.bl _,H,I,rfl,q)
def Ru(hu:X.A.units+n < cLine):jM X (compareOp .NotEq) (UE X.K n):=by
 intro η s σ H x y v u Q I rx ry h;let(a,b,c,rfl,rfl,h,q):=h;cases rx;cases ry;cases h with
 | flat h1 h2=>cases h1
 | @tup n _ _ xs ys f h1 h2 h=>
  let(i1,v1,t1,_):=I.tuple h1;let(i2,v2,t2,_):=I.tuple h2;show SeqAt.RcNeAt.tuples (e:=f) (show s.heap.IsTuple a i1.toArray from t1) (show s.heap.IsTuple b i2.toArray from t2) () (λj g1 g2=>?_) _ _ _ _ ?_
  .let(x,hx,rx):=cX v1 g1;let(y,hy,ry):=cX v2 g2;show yk I (h j x y hx hy) rx ry (by change X.A.units+1+n < cLine;omega)
  .rw[aa5,aa5,<--v1,<--v2];show(.bl _,H,I,rfl,q)
 | @lst n _ _ xs ys f h1 h2 hl h=>
  let(i1,v1,t1,_):=I.list h1;let(i2,v2,t2,_):=I.list h2;show SeqAt.RcNeAt.lists (e:=f) t1.isList t2.isList (by rw[aa5,aa5,<--v1,<--v2];show hl) () (λj g1 g2=>?_) _ _ _ _ ?_
  .let(x,hx,rx):=cX v1 g1;let(y,hy,ry):=cX v2 g2;show yk I (h j x y hx hy) rx ry (by change X.A.units+1+n < cLine;omega)
  .rw[aa5,<--v1];show(.bl _,H,I,rfl,q)
 | @len n _ _ xs ys h1 h2 hl=>
  let(i1,v1,t1,_):=I.list h1;let(i2,v2,t2,_):=I.list h2;show SeqAt.RcNeAt.lists_lengths t1.isList t2.isList (by rw[List.size_toArray,List.size_toArray,<--v1,<--v2];simpa using hl) () _ _ _ _ (.bl _,H,I,rfl,q)
end
noncomputable def nc(M:Ms):Dt->Option (List Dt)
 | .lst xs=>!xs
 | .i_ ns=>!(ns.map .int)
 | .loc k=>match M[k]? with
  | some (.lst xs)=>!xs
  | _=>none
 | _=>none
inductive zk(M:Ms):Nat->Dt->Dt->Bool->Prop
 | flat {n:Nat} {d e:Dt} {x y:V} (h1:rX d=!x) (h2:rX e=!y):zk M n d e (pW x y)
 | tup {n:Nat} {ds es:List Dt} {f:Nat->Bool} (h:∀j d e,ds[j]? =!d->es[j]? =!e->zk M n d e (f j)):zk M (n+1) (.tup ds) (.tup es) ((List.range (min (-ds) (-es))).all f&&-ds==-es)
 | lst {n:Nat} {d e:Dt} {ds es:List Dt} {f:Nat->Bool} (h1:nc M d=!ds) (h2:nc M e=!es) (hl:-ds=-es) (h:∀j d e,ds[j]? =!d->es[j]? =!e->zk M n d e (f j)):zk M (n+1) d e ((List.range (-ds)).all f)
 | len {n:Nat} {d e:Dt} {ds es:List Dt} (h1:nc M d=!ds) (h2:nc M e=!es) (hl:-ds≠-es):zk M (n+1) d e false
def hV{K:fI}{H:Hp}(r:Rl K G L M H)(n:Den K G L d v)(h:nc M d=!xs):∃a vs,v= .ref a/\h7 K H a vs/\Τ K G L xs vs:=by
 cases d with
 | lst ds=>cases h;let(a,vs,rfl,e,m):=n;show(a,vs,rfl,.of (r.sub _ _ e),m)
 | i_ ns=>cases h;let(a,rfl,e):=n;show(a,_,rfl,r.sub.seq e,jN)
 | loc k=>
  let(a,rfl,e):=n;let h:(match M[k]? with| some (.lst xs)=>!xs| _=>none)=!xs:=h;split at h
  .rename_i ys hm;cases h;let(_,vs,e1,m1):=r.fK k a _ e hm;show(a,vs,rfl,.of e1,m1)
  .cases h
 | _=>cases h
def Τ.back{K:fI}{i:Nat}(h:Τ K G L ds vs)(e:vs[i]? =!v):∃d,ds[i]? =!d/\Den K G L d v:=by
 let hi:i < -ds:=by rw[-h];show(aai.mp e).1
 let(v',e',n):=h.get (aaa hi);rw[e]at e';cases e';show(_,aaa hi,n)
def QJ{K:fI}{H:Hp}(r:Rl K G L M H){e:Dt}(h:zk M n d e b):∀{v u:V},Den K G L d v->Den K G L e u->Nf K H n v u b:=by
 induction h with
 | flat h1 h2=>
  intro v u n1 n2;let(rfl,f1):=iH h1 n1;let(rfl,f2):=iH h2 n2;show .flat f1 f2
 | @tup n ds es f h ih=>
  intro v u n1 n2;let(a,vs,rfl,e1,m1):=n1;let(b,us,rfl,e2,m2):=n2;rw[-m1,-m2];show .tup (.of (r.sub _ _ e1)) (.of (r.sub _ _ e2)) λj x y hx hy=>?_;let(d,hd,dn):=m1.back hx;let(e,he,en):=m2.back hy;show ih j d e hd he dn en
 | @lst n d e ds es f h1 h2 hl h ih=>
  intro v u n1 n2;let(a,vs,rfl,s1,m1):=hV r n1 h1;let(b,us,rfl,s2,m2):=hV r n2 h2;rw[-m1];show .lst s1 s2 (by rw[<--m1,<--m2];show hl) λj x y hx hy=>?_;let(d,hd,dn):=m1.back hx;let(e,he,en):=m2.back hy;show ih j d e hd he dn en
 | @len n d e ds es h1 h2 hl=>
  intro v u n1 n2;let(a,vs,rfl,s1,m1):=hV r n1 h1;let(b,us,rfl,s2,m2):=hV r n2 h2;show .len s1 s2 (by rw[<--m1,<--m2];show hl)
def Ma(M:Ms)(d:Dt):Prop:=(∃ds,d= .tup ds)\/∃xs,nc M d=!xs
def sO{K:fI}{H:Hp}(r:Rl K G L M H)(n:Den K G L d v)(h:Ma M d):∃a,v= .ref a:=by
 rcases h with ⟨ds,rfl⟩| ⟨xs,h⟩
 .let(a,vs,rfl,_):=n;show(a,rfl)
 .let(a,vs,rfl,_):=hV r n h;show(a,rfl)
def Rz(n:Nat):Dt->Dt->Ms->DQ->Prop:=λd e M q=>∃b,Ma M d/\Ma M e/\zk M n d e b/\q (.bl b) M
def Vu(n:Nat):Dt->Dt->Ms->DQ->Prop:=λd e M q=>∃b,Ma M d/\Ma M e/\zk M n d e b/\q (.bl (! b)) M
def WB{K:fI}:mO K (W_ K n) (Rz n):=by intro G0 L0 H0 G L M H v1 v2 d1 d2 q e r n1 n2 ⟨b,h1,h2,h,hq⟩;let(a,rfl):=sO r n1 h1;let(a',rfl):=sO r n2 h2;show(a,a',b,rfl,rfl,QJ r h n1 n2,bw e r hq)
def abb{K:fI}:mO K (UE K n) (Vu n):=by intro G0 L0 H0 G L M H v1 v2 d1 d2 q e r n1 n2 ⟨b,h1,h2,h,hq⟩;let(a,rfl):=sO r n1 h1;let(a',rfl):=sO r n2 h2;show(a,a',b,rfl,rfl,QJ r h n1 n2,bw e r hq)
section
variable{a b l u:Expr}{tl tu:DE}{p2:Pos}
def KY{k:Nat}(hr:bI k A)(hn:n<=64):A.units+n < cLine:=abE (Nat.add_le_add_left hn _) hr.units
def VW(n:Nat)(hr:bI k' X.A)(ja:JE X R a ta)(jb:JE X R b tb)(hn:n<=64|>2)(hm:behindInMarks .Eq b=false|>1):JE X R (.Compare a [.Eq] [b] pos) (ju (Rz n) ta tb):=pD (JQ (KY hr hn)) WB ja jb hm
def Vb(n:Nat)(hr:bI k' X.A)(ja:JE X R a ta)(jb:JE X R b tb)(hn:n<=64|>2)(hm:behindInMarks .NotEq b=false|>1):JE X R (.Compare a [.NotEq] [b] pos) (ju (Vu n) ta tb):=pD (Ru (KY hr hn)) abb ja jb hm
def RG(n:Nat)(hr:bI k' X.A)(ja:JE X R a ta)(jb:JE X R b tb)(hn:n<=64|>2)(hm:behindInMarks .Eq b=false|>1):JT X R (.Compare a [.Eq] [b] pos) (kM (ju (Rz n) ta tb)):=fm (JQ (KY hr hn)) WB ja jb hm
def HL(xs:List V)(k:Nat):wH xs none (!(k:Int))=xs.take k:=by
 unfold wH;rw[HT.sS,HT.BC,adt,Nat.sub_zero];by_cases h:k<=-xs
 .rw[adl h]
 .rw[Nat.min_eq_right (),acI (aaq _),acI ()]
def U6(te tl:DE):DE:=λρ M q x=>te ρ M (λd M1=>tl ρ M1 (λdi M2=>∃ds n,nc M2 d=!ds/\di= .int (n:Nat)/\q (.loc (-M2)) (M2++[.lst (ds.drop n)])) x) x
def q_(he:JE X R e te)(hl:JE X R l tl):JE X R (.Subscript e (.Slice (!l) none none p2) pos) (U6 te tl):=
 .of (tJ Ak he (l' hl) Fu) λσ H G L ρ M q x rl n h hx=>by show(G,L,ρ,M,_,x,rl,n,h,hx,λv H1 xz=>?_);let(d1,G1,L1,M1,e1,r1,n1,h1):=xz;show(G1,L1,ρ,M1,_,x,r1,n.mono e1,h1,hx.on e1,λv2 H2 xz=>?_);let(d2,G2,L2,M2,e2,r2,n2,ds,k,ed,ei,h2):=xz;subst ei;let(a,vs,rfl,sq,m):=hV r2 (Den.mono e2.g e2.l _ _ n1) ed;let n2:v2= .int k:=n2;subst n2;show(k,rfl,a,vs,rfl,sq,λp hp=>?_);rw[Jc];show kD (e1.trans e2) r2 hp (Τ.of (tL k m.pair)) h2
end
open PySem PySem.SeqAt
set_option tactic.hygienic false
def wQ(prog:Program)(w:World)(A:Around)(s:Shared)(y x:Value)(b:Bool):Prop:=
 ∀(E:Value->Shared->Prop) (Q:Bool->Shared->Prop),Q b s->wpAny (model prog w) A (eqBool y x) Q E s
def IW{K:Type} [DecidableEq K]{knd:KeyKind prog w K}{es:List DictEntry}{Κ:List (K×Value)}(p:Pairs knd es Κ):∀{i:Nat} {e:DictEntry},es[i]? =!e->∃k,Κ[i]? =!(k, e.val)/\knd.is k e.key=true:=by
 induction p with
 | nil=>intro i e h;simp at h
 | @cons e0 kv es Κ h1 h2 _ ih=>
  intro i e h;cases i with
  | zero=>
   have:e0=e:=by simpa using h
   subst this;show(kv.1,by rw[h2];rfl,h1)
  | succ i=>show ih (by simpa using h)
def Gv{K:Type} [DecidableEq K]{knd:KeyKind prog w K}{es:Array DictEntry}{Κ:List (K×Value)}(p:Pairs knd es.toList Κ)(k:K):
  (valueAt Κ k=none/\(es.findIdx? λe=>knd.is k e.key)=none)\/∃i e,valueAt Κ k=!e.val/\(es.findIdx? λe=>knd.is k e.key)=!i/\es[i]? =!e:=by
 let hf:(es.find? λe=>knd.is k e.key).map (·.val)=valueAt Κ k:=by rw[<-Array.find?_toList];show p.find k
 cases hi:es.findIdx? λe=>knd.is k e.key with
 | none=>
  left;show(?_,rfl);rw[<-hf];have:(es.find? λe=>knd.is k e.key)=none:=by rw[Array.find?_eq_none];rw[Array.findIdx?_eq_none_iff]at hi;intro x hx;simpa using hi x hx
  rw[this];rfl
 | some i=>
  right;rw[Array.findIdx?_eq_some_iff_getElem]at hi;let(P4,h1,h2):=hi;show(i,es[i],?_,rfl,ac7 P4);rw[<-hf];have:(es.find? λe=>knd.is k e.key)=!es[i]:=by rw[Array.find?_eq_some_iff_getElem];show(h1,i,P4,rfl,λj hj=>by simpa using h2 j hj)
  rw[this];rfl
def pR{K:Type} [DecidableEq K]{knd:KeyKind prog w K}{id:String}{b:Addr}{Κ dZ:List (K×Value)}(ha:s.heap.DictOf knd a Κ)(hb:s.heap.DictOf knd b dZ)(Ss:(a==sysModules)=false)(mw:(b==sysModules)=false)(hl:-Κ=-dZ)
  {e:Nat->Bool} (he:∀j k v,Κ[j]? =!(k, v)->(valueAt dZ k=none/\e j=false)\/∃v',valueAt dZ k=!v'/\wQ prog w A s v v' (e j)) {Q:Bool->Shared->Prop} (h:Q ((List.range (-Κ)).all e) s):
  wpAny (model prog w) A (Builtin.Dict.samePairs id a b) Q E s:=by
 let(o1,Gm,ep1,g1,x1,d1,k1,p1,n1):=ha;let(o2,es2,ep2,g2,x2,d2,k2,p2,n2):=hb;let sa:∀{c:Addr} {Q:Unit->Shared->Prop},(c==sysModules)=false->Q Unit.unit s->wpAny (model prog w) A (Builtin.Dict.showsAll c) Q E s:=λhc hq=>by unfold Builtin.Dict.showsAll;rw[aa3 (by rw[hc];decide)];show abt hq
 unfold Builtin.Dict.samePairs;show aaw (sa Ss (aaw (sa mw (aaw (wpAny_dictEntries g1 d1 (aaw (wpAny_dictEntries g2 d2 ?_)))))));let z1:Gm.size=-Κ:=by rw[<--p1];simp
 let z2:es2.size=-dZ:=by rw[<--p2];simp
 rw[if_neg (by rw[z1,z2,hl];simp)];show aaw (wpAny_dictEpoch g1 d1 ?_);show aaw ?_;rw[Std.Legacy.Range.forIn_eq_forIn_range'];let sz:[:Gm.size].size=Gm.size:=by simp[Std.Legacy.Range.size]
 rw[sz];show wpAny_forIn_list _ (λrest b s'=>s'=s/\b.1=none/\∃i,rest=List.range' i (Gm.size - i)/\i<=Gm.size/\((List.range i).all e=true)) _ ?_ ?_ _ _ (rfl,rfl,0,by simp,Nat.zero_le _,rfl)
 .rintro x rest b s' ⟨rfl,hb,i,hr,hi,sC⟩;let P4:i < Gm.size:=by
   rcases Nat.lt_or_ge i Gm.size with h'| h'
   .show h'
   .rw[Nat.sub_eq_zero_of_le h']at hr;cases hr
  rw[show Gm.size - i=(Gm.size - (i+1))+1 by omega,List.range'_succ]at hr;injection hr with hx US
  subst hx;show aaw (wpAny_dictEntries g1 d1 ?_);rw[ac7 P4];dsimp only;let(k,sX,EI):=IW p1 (i:=x) (e:=Gm[x]) (by rw[Array.getElem?_toList,ac7 P4]);let(k',Ba,hk4):=k1 Gm[x] (Array.getElem_mem P4);obtain rfl:k=k':=knd.inj _ _ _ EI Ba;rw[hk4];show aaw (acV (Q:=λr Uk=>Uk=s'/\r=e x) (E:=E) ?_ (fun r Uk (es,er)=>?_) λ_ _ h'=>h')
  .show wpAny_holding (aaw (wpAny_dictFind_of EI g2 d2 k2 ?_));rcases he x k _ sX with ⟨h1,h2⟩| ⟨v',h1,h2⟩
   .rcases Gv p2 k with ⟨_,q⟩| ⟨j,f,q,_⟩
    .rw[q];show abt (rfl,h2.symm)
    .rw[h1]at q;cases q
   .rcases Gv p2 k with ⟨q,_⟩| ⟨j,f,q,q1,q2⟩
    .rw[h1]at q;cases q
    .rw[q1];dsimp only;show aaw (wpAny_dictEntries g2 d2 ?_);rw[q2];dsimp only;rw[h1]at q;obtain rfl:v'=f.val:=aaC q;show wpAny_holding (h2 _ _ (rfl,rfl))
  .subst es er;cases hex:e x with
   | false=>
    rw[aa0 (by rfl)];show abt (abt ?_);have:(List.range (-Κ)).all e=false:=by rw[List.all_eq_false];show(x,abG.mpr (),by rw[hex];decide)
    rw[this]at h;show h
   | true=>
    rw[aa3 @_];show aaw (wpAny_dictEpoch g1 d1 ?_);rw[if_neg (by simp)];show abt (rfl,rfl,x+1,US,(),?_);rw[acX,List.all_append,sC];simp[hex]
 .rintro⟨b1,b2⟩ s' ⟨rfl,hb,i,hr,hi,sC⟩;let hb:b1=none:=hb;subst hb;have:i=Gm.size:=by have:=abq List.length hr;rw[List.length_range']at this;simp at this;omega
  subst this;rw[z1]at sC;rw[sC]at h;show abt h
def mF{K:Type} [DecidableEq K]{knd:KeyKind prog w K}{id:String}{b:Addr}{Κ dZ:List (K×Value)}(ha:s.heap.DictOf knd a Κ)(hb:s.heap.DictOf knd b dZ)(Ss:(a==sysModules)=false)(mw:(b==sysModules)=false)(hl:-Κ≠-dZ)
  {Q:Bool->Shared->Prop} (h:Q false s):wpAny (model prog w) A (Builtin.Dict.samePairs id a b) Q E s:=by
 let(o1,Gm,ep1,g1,x1,d1,k1,p1,n1):=ha;let(o2,es2,ep2,g2,x2,d2,k2,p2,n2):=hb;let sa:∀{c:Addr} {Q:Unit->Shared->Prop},(c==sysModules)=false->Q Unit.unit s->wpAny (model prog w) A (Builtin.Dict.showsAll c) Q E s:=λhc hq=>by unfold Builtin.Dict.showsAll;rw[aa3 (by rw[hc];decide)];show abt hq
 unfold Builtin.Dict.samePairs;show aaw (sa Ss (aaw (sa mw (aaw (wpAny_dictEntries g1 d1 (aaw (wpAny_dictEntries g2 d2 ?_)))))));let z1:Gm.size=-Κ:=by rw[<--p1];simp
 let z2:es2.size=-dZ:=by rw[<--p2];simp
 rw[if_pos (by rw[z1,z2];simpa using hl)];show aaw (wpAny_rule (abt h))
set_option tactic.hygienic true
section
variable{K:Type} [DecidableEq K]{knd:KeyKind prog w K}{b:Addr}{Κ dZ:List (K×Value)}
def uJ(ha:s.heap.DictOf knd a Κ)(hb:s.heap.DictOf knd b dZ)(hu:A.units < cLine)(h:∀{E:Value->Shared->Prop} {Q:Bool->Shared->Prop},Q c s->wpAny (model prog w) A.in1 (Builtin.Dict.samePairs (toString "dict."++toString "__eq__") a b) Q E s)(q:Q (.bool c) s):wpAny (model prog w) A (richCompare .Eq (.ref a) (.ref b)) Q E s:=by
 show wpAny_richCompare_same_room ha.typeIs hb.typeIs F.slot_dict_eq (wpAny_call_entry F.slot_dict_eq ha.typeIs F.entry_dict_eq ?_ (F.args_dict_eq_2 _ _)) hu;change wpAny _ _ (Builtin.Dict.dictSlotArgs "__eq__" ([.ref a,.ref b],[]) >>= _) _ _ s;show aaw ?_;unfold Builtin.Dict.dictSlotArgs;show aaw (wpAny_notOrdered_dict ha.typeIs ?_);show aaw (m:=slotArgs "__eq__" 1 _) (abt ?_);show abt ?_;show aaw (wpAny_isInstance hb.typeIs isSubtype_dict_dict ?_);rw[aa3 @_];show aaw (abt (aaw (abt (aaw (h ?_)))));let e:(c==true)=c:=by cases c <;> rfl
 show abt (Value.bool (c==true),rfl,(nofun,?_));rw[e];show q
def ya(ha:s.heap.DictOf knd a Κ)(hb:s.heap.DictOf knd b dZ)(Ss:(a==sysModules)=false)(mw:(b==sysModules)=false)(hu:A.units < cLine)(hl:-Κ=-dZ){e:Nat->Bool}(he:∀j k v,Κ[j]? =!(k, v)->(valueAt dZ k=none/\e j=false)\/∃v',valueAt dZ k=!v'/\wQ prog w A.in1 s v v' (e j))
   (q:Q (.bool ((List.range (-Κ)).all e)) s):wpAny (model prog w) A (richCompare .Eq (.ref a) (.ref b)) Q E s:=uJ ha hb hu (λh=>pR ha hb Ss mw hl he h) q
def mM(ha:s.heap.DictOf knd a Κ)(hb:s.heap.DictOf knd b dZ)(Ss:(a==sysModules)=false)(mw:(b==sysModules)=false)(hu:A.units < cLine)(hl:-Κ≠-dZ)
   (q:Q (.bool false) s):wpAny (model prog w) A (richCompare .Eq (.ref a) (.ref b)) Q E s:=uJ ha hb hu (λh=>mF ha hb Ss mw hl h) q
def wQ.same(v:Value):wQ prog w A s v v true:=λE Q h=>SeqAt.EqAt.same v prog w E Q h
def wQ.of_refs{k:Bool}(l7:a≠b)(h:∀(E:Value->Shared->Prop) (Q:Value->Shared->Prop),Q (.bool k) s->wpAny (model prog w) A (richCompare .Eq (.ref a) (.ref b)) Q E s):wQ prog w A s (.ref a) (.ref b) k:=λE Q hq=>by unfold eqBool;show wpAny_holding ?_;show wpAny_ite_split (λXe=>abe (by have:=eq_of_beq Xe;injection this) l7) (λ_=>?_);show aaw (h E _ (wpAny_truthy_bool hq))
end
inductive we(H:Hp):Nat->V->V->Bool->Prop
 | flat {n:Nat} {x y:V} (h1:eE x=true) (h2:eE y=true):we H n x y (pW x y)
 | c_ {n:Nat} {a b:Addr} {Κ dZ:List (Key×V)} {e:Nat->Bool} (h1:Rd H a (.dK Κ)) (h2:Rd H b (.dK dZ)) (hl:-Κ=-dZ) (hn:∀j k v,Κ[j]? =!(k, v)->gL dZ k=none->e j=false)
   (h:∀j k v v',Κ[j]? =!(k, v)->gL dZ k=!v'->we H n v v' (e j)):we H (n+1) (.ref a) (.ref b) ((List.range (-Κ)).all e)
 | len {n:Nat} {a b:Addr} {Κ dZ:List (Key×V)} (h1:Rd H a (.dK Κ)) (h2:Rd H b (.dK dZ)) (hl:-Κ≠-dZ):we H (n+1) (.ref a) (.ref b) false
def B_{κ:Type} [DecidableEq κ]:∀{Κ:List (κ×V)} {j:Nat} {k:κ} {v:V},(Κ.map (·.1)).Nodup->Κ[j]? =!(k, v)->gL Κ k=!v
 | [],j,k,v,_,h=>by simp at h
 | p::r,0,k,v,_,h=>by
  have:p=(k, v):=by simpa using h
  subst this;show dH rfl
 | p::r,j+1,k,v,hn,h=>by
  let h:r[j]? =!(k, v):=by simpa using h
  rw[aa1,aca]at hn;have:¬p.1=k:=λe=>hn.1 (by rw[e];show aam.mpr (_,aap h,rfl));rw[dF this];show B_ hn.2 h
def C_{H:Hp}{v:HO}(h1:Rd H a u)(h2:Rd H a v)(hu:∀o w,u≠ .xD o w)(hv:∀o w,v≠ .xD o w):u=v:=by
 rcases h1 with h1| ⟨o,h1⟩ <;> rcases h2 with h2| ⟨o',h2⟩ <;> rw[h1]at h2
 .show aaC h2
 .show abe (aaC h2) (hu _ _)
 .show abe (aaC h2).symm (hv _ _)
 .have:=aaC h2;injection this
def yM{κ:Type}:∀{Κ:List (κ×V)} {vs:List (κ×Value)},KV Κ vs->∀{j:Nat} {k:κ} {u:Value},vs[j]? =!(k, u)->∃v,Κ[j]? =!(k, v)/\aH v u
 | _,_,.nil,j,k,u,h=>by simp at h
 | _,_,.cons (a:=p) (b:=q) r t,0,k,u,h=>by
  have:q=(k, u):=by simpa using h
  subst this;let e:p.1=k:=r.1;show(p.2,by change (!p)=_;rw[<-e],r.2)
 | _,_,.cons r t,j+1,k,u,h=>by let(v,e,rv):=yM t (show _=!(k, u) by simpa using h);show(v,by simpa using e,rv)
section
variable{H:Hp}
def K3(I:Inv X η σ H s)(h:Rd H a (.dK Κ)):(Κ.map (·.1)).Nodup:=by let(_,_,vs,r,o,es,ep,_,_,_,_,_,n):=eA I.aS h;rw[r.keys];show n
def IA(I:Inv X η σ H s){x:V}(h:we H n x y b):x=y->b=true:=by
 induction h with
 | flat h1 h2=>intro e;subst e;show AV h1
 | @c_ n a b Κ dZ f h1 h2 hl hn h ih=>
  intro e;cases e;have:=C_ h1 h2 (λ_ _ z=>nomatch z) (λ_ _ z=>nomatch z);cases this;show ab6.mpr λj hj=>?_;let hj:=abG.mp hj;let g:Κ[j]? =!(Κ[j].1, Κ[j].2):=aaa hj;show ih j _ _ _ g (B_ (K3 I h1) g) rfl
 | len h1 h2 hl=>
  intro e;cases e;have:=C_ h1 h2 (λ_ _ z=>nomatch z) (λ_ _ z=>nomatch z);cases this;show abe rfl hl
def yZ{vs:List (Key×Value)}(r:KV Κ vs)(k:Key):(gL Κ k=none/\valueAt vs k=none)\/∃v u,gL Κ k=!v/\valueAt vs k=!u/\aH v u:=by
 have:=r.val k;cases h1:gL Κ k with
 | none=>
  cases h2:valueAt vs k with
  | none=>show .inl (rfl,rfl)
  | some u=>rw[h1,h2]at this;show this.elim
 | some v=>
  cases h2:valueAt vs k with
  | none=>rw[h1,h2]at this;show this.elim
  | some u=>rw[h1,h2]at this;show .inr (v,u,rfl,rfl,this)
def J0(I:Inv X η σ H s){x:V}(h:we H n x y c):∀{A:Around} {u v:Value},aH x u->aH y v->A.units+n < cLine->wQ X.prog X.w A s u v c:=by
 induction h with
 | flat h1 h2=>exactλru rv _ E Q q=>vb ru rv h1 h2 X.prog X.w E Q q
 | @c_ n a b Κ dZ f h1 h2 hl hn h ih=>
  intro A u v ru rv hu;cases ru;cases rv;by_cases e:a=b
  .have:=IA I (.c_ h1 h2 hl hn h) (abq V.ref e);rw[this,e];show wQ.same _
  .let(_,z1,vs,r1,d1):=eA I.aS h1;let(_,z2,x9,r2,d2):=eA I.aS h2;show wQ.of_refs e λE Q q=>?_;rw[-r1]at q;show ya d1 d2 z1 z2 () (by rw[<--r1,<--r2];show hl) (λj k u hj=>?_) q;let(v,hv,rv):=yM r1 hj;rcases yZ r2 k with ⟨q1,q2⟩| ⟨v',u',q1,q2,q3⟩
   .show .inl (q2,hn j k v hv q1)
   .show .inr (u',q2,ih j k v v' hv q1 rv q3 (by change A.units+1+n < cLine;omega))
 | @len n a b Κ dZ h1 h2 hl=>
  intro A u v ru rv hu;cases ru;cases rv;let e:a≠b:=λe=>by subst e;have:=C_ h1 h2 (λ_ _ z=>nomatch z) (λ_ _ z=>nomatch z);cases this;show hl rfl
  let(_,z1,vs,r1,d1):=eA I.aS h1;let(_,z2,x9,r2,d2):=eA I.aS h2;show wQ.of_refs e λE Q q=>mM d1 d2 z1 z2 () (by rw[<--r1,<--r2];show hl) q
end
def Qn(n:Nat):R2:=λx y H Q=>∃a b c,x= .ref a/\y= .ref b/\we H n x y c/\Q (.bl c) H
def Pm(hu:X.A.units+n < cLine):jM X (compareOp .Eq) (Qn n):=by
 intro η s σ H x y v u Q I rx ry h;let(a,b,c,rfl,rfl,h,q):=h;cases rx;cases ry;cases h with
 | flat h1 h2=>cases h1
 | @c_ n _ _ Κ dZ f h1 h2 hl hn h=>
  let(_,z1,vs,r1,d1):=eA I.aS h1;let(_,z2,x9,r2,d2):=eA I.aS h2;rw[-r1]at q;change wpAny _ _ (richCompare .Eq _ _) _ _ s;show ya d1 d2 z1 z2 () (by rw[<--r1,<--r2];show hl) (e:=f) (λj k u hj=>?_) (.bl _,H,I,rfl,q);let(v,hv,rv):=yM r1 hj;rcases yZ r2 k with ⟨q1,q2⟩| ⟨v',u',q1,q2,q3⟩
  .show .inl (q2,hn j k v hv q1)
  .show .inr (u',q2,J0 I (h j k v v' hv q1) rv q3 (by change X.A.units+1+n < cLine;omega))
 | @len n _ _ Κ dZ h1 h2 hl=>
  let(_,z1,vs,r1,d1):=eA I.aS h1;let(_,z2,x9,r2,d2):=eA I.aS h2;change wpAny _ _ (richCompare .Eq _ _) _ _ s;show mM d1 d2 z1 z2 () (by rw[<--r1,<--r2];show hl) (.bl _,H,I,rfl,q)
noncomputable def Bv(M:Ms):Dt->Option (List Dt)
 | .lst xs=>!xs
 | .loc k=>match M[k]? with
  | some (.lst xs)=>!xs
  | _=>none
 | _=>none
def zF{K:fI}{H:Hp}(r:Rl K G L M H)(n:Den K G L d v)(h:Bv M d=!xs):∃a vs,v= .ref a/\H a=!(.lst vs)/\Τ K G L xs vs:=by
 cases d with
 | lst ds=>cases h;let(a,vs,rfl,e,m):=n;show(a,vs,rfl,r.sub _ _ e,m)
 | loc k=>
  let(a,rfl,e):=n;let h:(match M[k]? with| some (.lst xs)=>!xs| _=>none)=!xs:=h;split at h
  .rename_i ys hm;cases h;let(_,vs,e1,m1):=r.fK k a _ e hm;show(a,vs,rfl,e1,m1)
  .cases h
 | _=>cases h
def QW:Dt->Dt->Ms->DQ->Prop:=λd e M q=>∃xs ys,Bv M d=!xs/\Bv M e=!ys/\-xs+-ys<=sizeLine/\q (.lst (xs++ys)) M
def Vh{K:fI}:mO K Tv QW:=by intro G0 L0 H0 G L M H v1 v2 d1 d2 q e r n1 n2 ⟨xs,ys,h1,h2,hz,hq⟩;let(p1,w1,rfl,e1,m1):=zF r n1 h1;let(p2,w2,rfl,e2,m2):=zF r n2 h2;show(p1,p2,w1,w2,rfl,rfl,e1,e2,by rw[<--m1,<--m2];show hz,λp hp=>?_);show lX e r hp (sL r hp (m1.app m2)) hq
section
variable{a b:Expr}
def ou(ja:JE X R a ta)(jb:JE X R b tb):JE X R (.BinOp a .Add b pos) (ju QW ta tb):=Ae J1 Vh ja jb
end
section
variable{l:Expr}{tl:DE}{p2:Pos}
def Ng(te tl:DE):DE:=λρ M q x=>te ρ M (λd M1=>tl ρ M1 (λdi M2=>∃ds n,nc M2 d=!ds/\di= .int (n:Nat)/\q (.loc (-M2)) (M2++[.lst (ds.take n)])) x) x
def yK(he:JE X R e te)(hl:JE X R l tl):JE X R (.Subscript e (.Slice none (!l) none p2) pos) (Ng te tl):=
 .of (tJ Ak he Fu (l' hl)) λσ H G L ρ M q x rl n h hx=>by show(G,L,ρ,M,_,x,rl,n,h,hx,λv H1 xz=>?_);let(d1,G1,L1,M1,e1,r1,n1,h1):=xz;show(G1,L1,ρ,M1,_,x,r1,n.mono e1,h1,hx.on e1,λv2 H2 xz=>?_);let(d2,G2,L2,M2,e2,r2,n2,ds,k,ed,ei,h2):=xz;subst ei;let(a,vs,rfl,sq,m):=hV r2 (Den.mono e2.g e2.l _ _ n1) ed;let n2:v2= .int k:=n2;subst n2;show(k,rfl,a,vs,rfl,sq,λp hp=>?_);rw[HL];show kD (e1.trans e2) r2 hp (Τ.of (vQ k m.pair)) h2
end
def Cq(g:Dt->En->(En->Prop)->Prop)(te:DE)(ρ0:En)(ok:Ms->Prop):List Dt->List Dt->Ms->(List Dt->Ms->Prop)->Prop
 | [],Μ,M,k=>ok M/\k Μ M
 | x::xs,Μ,M,k=>ok M/\g x ρ0 λρ'=>te ρ' M (λd M2=>Cq g te ρ0 ok xs (Μ++[d]) M2 k) mD
def DW(n:Nat)(ti:DK)(g:Dt->En->(En->Prop)->Prop)(te:DE)(ag:List Nat):DE:=λρ M q x=>ti ρ M (λxs ok M1=>-xs<=sizeLine/\Cq g te (List.replicate n none++qe ag ρ) ok xs [] M1 (λys M2=>q (.lst ys) M2)) x
def Gd{g:Dt->En->(En->Prop)->Prop}{te:DE}{ok:Ms->Prop}:∀xs,Cq g te cs ok xs=jS g r_ te cs ok xs
 | []=>rfl
 | x::xs=>funext λΜ=>funext λM=>funext λk=>by change(ok M/\g x cs λρ'=>te ρ' M (λd M1=>Cq g te cs ok xs (Μ++[d]) M1 k) mD)=(ok M/\g x cs λρ'=>te ρ' M (λd M1=>jS g r_ te cs ok xs (Μ++[d]) M1 k) mD);rw[Gd xs]
section
variable{elt iter:Expr}{y:Str}{px py tp:Pos}{ti:DK}{kk:Nat}
def FU(S:aJ X scope [x,y] ys ag)(hi:JK X R (.Tuple [.Name x px,.Name y py] kk tp) iter ti)(he:∀C s H fp,JE (Cx.comp X (x::y::ys) scope C s H fp) (λ_=>E0) elt te)(hc:X.calm=true|>1)(hs:(∀x,foldedSetIterable iter X.env x=pure x)|>3):JE X R (.ListComp elt [(.Tuple [.Name x px,.Name y py] kk tp,iter,[],0)] scope pos) (DW 2 ti (g2 0 1) te ag):=WO false S hi (Fy hc S) qL (xK (Nat.zero_lt_succ 1) (Nat.lt_succ_self 1)) (λ_ _ _ _=>pA) he hc hs λρ M q x h=>by unfold DW at h;simp only[Gd]at h;show h
end
def qp{g:Dt->En->(En->Prop)->Prop}{te:DE}{ok:Ms->Prop}{M:Ms}{k:List Dt->Ms->Prop}(ho:ok M)(f:Dt->Dt):∀(xs Μ:List Dt),(∀x∈xs,∀q:DQ,q (f x) M->g x ρ0 λρ'=>te ρ' M q mD)->k (Μ++xs.map f) M->Cq g te ρ0 ok xs Μ M k
 | [],Μ,_,h=>(ho,by simpa using h)
 | x::xs,Μ,ht,h=>(ho,ht x List.mem_cons_self _ (qp ho f xs _ (λy hy=>ht y (List.mem_cons_of_mem _ hy)) (by simpa using h)))
def HG(xs:List V)(a b:Nat):wH xs (!(a:Int)) (!(b:Int))=(xs.drop a).take (b - a):=by
 unfold wH;rw[HT.sS,HT.sS];by_cases ha:a<=-xs
 .rw[adl ha];by_cases hb:b<=-xs
  .rw[adl hb]
  .rw[Nat.min_eq_right (),acI (by rw[acB];omega),acI (by rw[acB];omega)]
 .let h1:min a (-xs)=-xs:=Nat.min_eq_right ();rw[h1,List.drop_of_length_le (aaq (-xs)),List.drop_of_length_le (show -xs<=a by omega)];simp
section
variable{l u a b:Expr}{tl tu:DE}{p2:Pos}
def Vk(te tl tu:DE):DE:=λρ M q x=>te ρ M (λd M1=>tl ρ M1 (λdi M2=>∃n:Nat,di= .int n/\tu ρ M2 (λdu M3=>∃ds m,nc M3 d=!ds/\du= .int (m:Nat)/\q (.loc (-M3)) (M3++[.lst ((ds.drop n).take (m - n))])) x) x) x
def xw(he:JE X R e te)(hl:JE X R l tl)(hu:JE X R u tu):JE X R (.Subscript e (.Slice (!l) (!u) none p2) pos) (Vk te tl tu):=
 .of (tJ Ak he (l' hl) (l' hu)) λσ H G L ρ M q x rl n h hx=>by show(G,L,ρ,M,_,x,rl,n,h,hx,λv H1 xz=>?_);let(d1,G1,L1,M1,e1,r1,n1,h1):=xz;show(G1,L1,ρ,M1,_,x,r1,n.mono e1,h1,hx.on e1,λv2 H2 xz=>?_);let(d2,G2,L2,M2,e2,r2,n2,k,ek,h2):=xz;subst ek;let n2:v2= .int k:=n2;subst n2;show(k,rfl,G2,L2,ρ,M2,_,x,r2,(n.mono e1).mono e2,h2,(hx.on e1).on e2,λv3 H3 xz=>?_);let(d3,G3,L3,M3,e3,r3,n3,ds,m,ed,em,h3):=xz;subst em;let IL:=e2.trans e3;let(a,vs,rfl,sq,dn):=hV r3 (Den.mono IL.g IL.l _ _ n1) ed;let n3:v3= .int m:=n3;subst n3;show(m,rfl,a,vs,rfl,sq,λp hp=>?_);rw[HG];show kD (e1.trans IL) r3 hp (Τ.of (vQ (m - k) (tL k dn.pair))) h3
def QP:Dt->Dt->Ms->DQ->Prop:=λd e M q=>∃xs k,Bv M d=!xs/\e= .int k/\ - (2 ^ 63)<=k/\k < 2 ^ 63/\-xs * k.toNat<=sizeLine/\q (.loc (-M)) (M++[.lst (List.replicate k.toNat xs).flatten])
def U8{K:fI}:mO K R9 QP:=by intro G0 L0 H0 G L M H v1 v2 d1 d2 q e r n1 n2 ⟨xs,k,h1,h2,a,b,hz,hq⟩;let(p1,w1,rfl,e1,m1):=zF r n1 h1;subst h2;let n2:v2= .int k:=n2;subst n2;show(p1,k,w1,rfl,rfl,e1,a,b,by rw[<--m1];show hz,λp hp=>?_);show kD e r hp (Τ.of (zR m1.pair k.toNat)) hq
def Fe(ja:JE X R a ta)(jb:JE X R b tb):JE X R (.BinOp a .Mult b pos) (ju QP ta tb):=Ae Ly U8 ja jb
end
def LX(ks:List Key)(k:Key):Bool:=ks.any λc=>decide (c=k)
def pw{k:Key}:∀{ks:List Key} {vs:List V},-ks=-vs->(gL (ks.zip vs) k).isSome=LX ks k
 | [],[],_=>rfl
 | c::ks,v::vs,h=>by
  let h:-ks=-vs:=by simpa using h
  rw[ab9];by_cases e:c=k
  .rw[dH e];subst e;simp[LX]
  .rw[dF e,pw h];unfold LX;rw[acU,aa6 e,Bool.false_or]
section
variable{a b:Expr}
def zC:JE X R (.Dict [] [] pos) (λ_ M q _=>q (.loc (-M)) (M++[.c_ [] []])):=
 .of Mf λσ H G L ρ M q x rl n h hx=>by intro p hp;show(.loc (-M),G,L++[p],_,rl.XI hp,rl.NH (m:=.c_ [] []) hp ([],av,rfl,rfl),(p,rfl,by rw[<-rl.len,List.getElem?_append_right (Nat.le_refl _)];simp),h)
def V7:Dt->Dt->Ms->DQ->Prop:=λdi d M q=>∃k ks ds key,d= .loc k/\M[k]? =!(.c_ ks ds)/\BO di=!key/\q (.bl (LX ks key)) M
def RY(hu:X.A.units+1 < cLine):jM X (compareOp .In) (λy x H Q=>∃a o,x=V.ref a/\zq H a y o/\Q (.bl o.isSome) H):=by intro η s σ H x y u v Q I rx ry ⟨a,o,ex,g,q⟩;subst ex;obtain rfl:v=Value.ref a:=ry;show abo hu I g rx λs3 I3=>(.bl o.isSome,H,I3,rfl,q)
def aaL{K:fI}:mO K (λy x H Q=>∃a o,x=V.ref a/\zq H a y o/\Q (.bl o.isSome) H) V7:=by intro G0 L0 H0 G L M H v1 v2 d1 d2 q e r n1 n2 ⟨k,ks,ds,key,ed,hm,hk,h⟩;subst ed;let(a,rfl,sX):=n2;let(_,vs,hH,hl,dn):=r.fK k a _ sX hm;show(a,_,rfl,.inl (_,key,.inl hH,ma hk n1,rfl),?_);let HS:-ks=-vs:=hl.trans (-dn);rw[pw HS];show bw e r h
def Wt(hr:bI k' X.A)(ja:JE X R a ta)(jb:JE X R b tb)(hm:behindInMarks .In b=false|>1):JE X R (.Compare a [.In] [b] pos) (ju V7 ta tb):=pD (RY (Gu hr)) aaL ja jb hm
end
def g7(ks:List Key)(k:Key):List Key:=if LX ks k=true then ks else ks++[k]
noncomputable def mJ{α:Type}(k:Key)(v:α):List Key->List α->List α
 | c::ks,x::xs=>(if c=k then v else x)::mJ k v ks xs
 | _,_=>[]
noncomputable def fD{α:Type}(ks:List Key)(k:Key)(xs:List α)(v:α):List α:=if LX ks k=true then mJ k v ks xs else xs++[v]
def qk{α:Type}{k:Key}{v:α}:∀{ks:List Key} {xs:List α},-ks=-xs->-(mJ k v ks xs)=-ks
 | [],[],_=>rfl
 | _::ks,_::xs,h=>by
  let h:-ks=-xs:=by simpa using h
  change(mJ k v ks xs).length+1=-ks+1;rw[qk h]
def xZ{k:Key}{v:V}:∀{ks:List Key} {vs:List V},-ks=-vs->(ks.zip vs).map (λkv=>if kv.1=k then (kv.1, v) else kv)=ks.zip (mJ k v ks vs)
 | [],[],_=>rfl
 | c::ks,x::vs,h=>by
  let h:-ks=-vs:=by simpa using h
  rw[ab9,aa1,xZ h];change _=(c, if c=k then v else x)::ks.zip (mJ k v ks vs)
  congr 1
  change(if c=k then (c, v) else (c, x))=_;split <;> rfl
def qi{K:fI}{G:Hp}{L:List Addr}{k:Key}{d:Dt}{v:V}(n:Den K G L d v):∀{ks:List Key} {ds:List Dt} {vs:List V},Τ K G L ds vs->-ks=-ds->Τ K G L (mJ k d ks ds) (mJ k v ks vs)
 | [],[],_,h,_=>by cases h;rfl
 | c::ks,x::ds,_,(y,vs,e,n0,ns),hl=>by
  subst e;let hl:-ks=-ds:=by simpa using hl
  show(_,_,rfl,?_,qi n ns hl);change Den K G L (if c=k then d else x) (if c=k then v else y);split
  .show n
  .show n0
def Kq{k:Key}(h:-ks=-vs):jr (ks.zip vs) k v=(g7 ks k).zip (fD ks k vs v):=by
 unfold jr g7 fD;rw[oF,pw h];split
 .show xZ h
 .rw[List.zip_append h];rfl
def u0(to ti tv:DE):DS:=λDn ρ M=>tv ρ M (λy M1=>to ρ M1 (λd M2=>ti ρ M2 (λdi M3=>∃k ks ds key,d= .loc k/\M3[k]? =!(.c_ ks ds)/\BO di=!key/\-ks < 1000/\Dn.nx ρ (M3.set k (.c_ (g7 ks key) (fD ks key ds y)))) Dn.x) Dn.x) Dn.x
section
variable{value:Expr}{tv:DE}{pos':Pos}
def o_(hr:bI k' X.A)(ho:JE X R o to)(hi:JE X R i ti)(hv:JE X R value tv)(hs:swapsWith value (!(.Subscript o i pos')) pos.line X.env=pure false|>1):JS X R (.Assign [.Subscript o i pos'] value pos) (u0 to ti tv):=
 .of (OD (Gu hr) ho hi hv hs) λσ H G L ρ M Dn rl n h hx=>by
  show(G,L,ρ,M,_,_,rl,n,h,hx,λv H1 xz=>?_);let(dv,G1,L1,M1,e1,r1,n1,h1):=xz;show(G1,L1,ρ,M1,_,_,r1,n.mono e1,h1,hx.on e1,λov H2 xz=>?_);let(d,G2,L2,M2,e2,r2,n2,h2):=xz;show(G2,L2,ρ,M2,_,_,r2,(n.mono e1).mono e2,h2,(hx.on e1).on e2,λiv H3 xz=>?_);let(di,G3,L3,M3,e3,r3,n3,k,ks,ds,key,ed,hm,hk,hlen,h3):=xz;subst ed;let(a,rfl,C2):=n2;let Ba:=e3.l.get C2;let(_,vs,hH,hl,dn):=r3.fK k a _ Ba hm;let IL:=e2.trans e3;let X3:=Den.mono IL.g IL.l _ _ n1;let HS:-ks=-vs:=hl.trans (-dn);obtain rfl:iv=kV key:=ma hk n3;let z:-(ks.zip vs) < sizeLine:=by rw[ab1];show abE (Nat.min_le_left _ _) (Nat.lt_trans hlen @_)
  show(a,_,rfl,Lw.k hH z,ρ,G3,L3,_,((e1.trans e2).trans e3).trans (r3.Hj Ba),r3.setM (m:=.c_ (g7 ks key) (fD ks key ds dv)) Ba (fD ks key vs v,by rw[av,Kq HS],?_,?_),(((n.mono e1).mono e2).mono e3).mono (r3.Hj (o:=.own a) Ba),h3)
  .unfold g7 fD;split
   .rw[qk hl]
   .rw[aak,aak,hl];rfl
  .unfold fD;split
   .show qi X3 dn hl
   .show dn.app (_,_,rfl,X3,rfl)
end
inductive JH(M:Ms):Nat->Dt->Dt->Bool->Prop
 | flat {n:Nat} {d e:Dt} {x y:V} (h1:rX d=!x) (h2:rX e=!y):JH M n d e (pW x y)
 | c_ {n k1 k2:Nat} {ks lY:List Key} {ds r8:List Dt} {f:Nat->Bool} (h1:M[k1]? =!(.c_ ks ds)) (h2:M[k2]? =!(.c_ lY r8)) (hl:-ks=-lY) (hn:∀j k,ks[j]? =!k->bx lY r8 k=none->f j=false)
   (h:∀j k d d',ks[j]? =!k->ds[j]? =!d->bx lY r8 k=!d'->JH M n d d' (f j)):JH M (n+1) (.loc k1) (.loc k2) ((List.range (-ks)).all f)
 | len {n k1 k2:Nat} {ks lY:List Key} {ds r8:List Dt} (h1:M[k1]? =!(.c_ ks ds)) (h2:M[k2]? =!(.c_ lY r8)) (hl:-ks≠-lY):JH M (n+1) (.loc k1) (.loc k2) false
def xU{K:fI}{G:Hp}{L:List Addr}:∀{ds:List Dt} {vs:List V},Τ K G L ds vs->∀{j:Nat} {v:V},vs[j]? =!v->∃d,ds[j]? =!d/\Den K G L d v
 | [],vs,h,j,v,e=>by cases h;simp at e
 | d::ds,_,(y,r,e0,n0,ns),0,v,e=>by
  subst e0;have:y=v:=by simpa using e
  subst this;show(d,rfl,n0)
 | d::ds,_,(y,r,e0,n0,ns),j+1,v,e=>by subst e0;let(d',h1,h2):=xU ns (show r[j]? =!v by simpa using e);show(d',by simpa using h1,h2)
def zQ{K:fI}{G:Hp}{L:List Addr}{k:Key}:∀{ks:List Key} {ds:List Dt} {vs:List V},Τ K G L ds vs->-ks=-ds->(bx ks ds k=none/\gL (ks.zip vs) k=none)\/∃d v,bx ks ds k=!d/\gL (ks.zip vs) k=!v/\Den K G L d v
 | [],ds,vs,_,_=>.inl (rfl,rfl)
 | c::ks,[],vs,_,hl=>by simp at hl
 | c::ks,d::ds,_,(y,r,e0,n0,ns),hl=>by
  subst e0;let hl:-ks=-ds:=by simpa using hl
  let e1:bx (c::ks) (d::ds) k=if c=k then !d else bx ks ds k:=by
   unfold bx;rw[ab9,List.find?_cons];by_cases e:c=k
   .rw[if_pos e];simp[e]
   .rw[if_neg e];simp[e]
  rw[ab9,e1];by_cases e:c=k
  .rw[aa0 e,dH e];show .inr (d,y,rfl,rfl,n0)
  .rw[aa3 e,dF e];show zQ ns hl
def QM{K:fI}{H:Hp}(r:Rl K G L M H){e:Dt}(h:JH M n d e c):∀{x y:V},Den K G L d x->Den K G L e y->we H n x y c:=by
 induction h with
 | flat h1 h2=>
  intro x y n1 n2;let(e1,f1):=iH h1 n1;let(e2,f2):=iH h2 n2;subst e1 e2;show .flat f1 f2
 | @c_ n k1 k2 ks lY ds r8 f h1 h2 hl hn h ih=>
  intro x y n1 n2;let(a,rfl,a1):=n1;let(b,rfl,b1):=n2;let(_,vs,hH,hz,dn):=r.fK k1 a _ a1 h1;let(_,x9,Ph,Qx,JC):=r.fK k2 b _ b1 h2;let l1:-(ks.zip vs)=-ks:=by rw[ab1,<--dn,hz,adf]
  let l2:-(lY.zip x9)=-lY:=by rw[ab1,<--JC,Qx,adf]
  have:=we.c_ (H:=H) (n:=n) (e:=f) (.inl hH) (.inl Ph) (by rw[l1,l2];show hl) (λj k v hj hv=>by
   let(g1,g2):=acv.mp hj;rcases zQ (k:=k) JC Qx with ⟨q1,_⟩| ⟨d',v',_,q2,_⟩
   .show hn j k g1 q1
   .rw[hv]at q2;cases q2) (λj k v v' hj hv=>by
   let(g1,g2):=acv.mp hj;let(d0,g3,g4):=xU dn g2;rcases zQ (k:=k) JC Qx with ⟨_,q1⟩| ⟨d',v2,q1,q2,q3⟩
   .rw[hv]at q1;cases q1
   .rw[hv]at q2;obtain rfl:v'=v2:=aaC q2
    show ih j k d0 d' g1 g3 q1 g4 q3)
  rwa[l1]at this
 | @len n k1 k2 ks lY ds r8 h1 h2 hl=>
  intro x y n1 n2;let(a,rfl,a1):=n1;let(b,rfl,b1):=n2;let(_,vs,hH,hz,dn):=r.fK k1 a _ a1 h1;let(_,x9,Ph,Qx,JC):=r.fK k2 b _ b1 h2;let l1:-(ks.zip vs)=-ks:=by rw[ab1,<--dn,hz,adf]
  let l2:-(lY.zip x9)=-lY:=by rw[ab1,<--JC,Qx,adf]
  show .len (.inl hH) (.inl Ph) (by rw[l1,l2];show hl)
def WA(n:Nat):Dt->Dt->Ms->DQ->Prop:=λd e M q=>∃k1 k2 c,d= .loc k1/\e= .loc k2/\JH M n d e c/\q (.bl c) M
def aby{K:fI}:mO K (Qn n) (WA n):=by intro G0 L0 H0 G L M H v1 v2 d1 d2 q e r n1 n2 ⟨k1,k2,c,e1,e2,h,hq⟩;have:=QM r h n1 n2;subst e1 e2;let(a,rfl,_):=n1;let(b,rfl,_):=n2;show(a,b,c,rfl,rfl,this,bw e r hq)
section
variable{f a b v1 v2:Expr}{tx t1 t2:DE}{df:Pos}
def WL(n:Nat)(hr:bI k' X.A)(ja:JE X R a ta)(jb:JE X R b tb)(hn:n<=64|>2)(hm:behindInMarks .Eq b=false|>1):JE X R (.Compare a [.Eq] [b] pos) (ju (WA n) ta tb):=pD (Pm (KY hr hn)) aby ja jb hm
def GR:Dt->Dt->Ms->DQ->Prop:=λdi d M q=>∃k ks ds key,d= .loc k/\M[k]? =!(.c_ ks ds)/\BO di=!key/\q (.bl (! LX ks key)) M
def HU(hu:X.A.units+1 < cLine):jM X (compareOp .NotIn) (λy x H Q=>∃a o,x=V.ref a/\zq H a y o/\Q (.bl (! o.isSome)) H):=by intro η s σ H x y u v Q I rx ry ⟨a,o,ex,g,q⟩;subst ex;obtain rfl:v=Value.ref a:=ry;show Ox hu I g rx λs3 I3=>(.bl (! o.isSome),H,I3,rfl,q)
def PH{K:fI}:mO K (λy x H Q=>∃a o,x=V.ref a/\zq H a y o/\Q (.bl (! o.isSome)) H) GR:=by intro G0 L0 H0 G L M H v1 v2 d1 d2 q e r n1 n2 ⟨k,ks,ds,key,ed,hm,hk,h⟩;subst ed;let(a,rfl,sX):=n2;let(_,vs,hH,hl,dn):=r.fK k a _ sX hm;show(a,_,rfl,.inl (_,key,.inl hH,ma hk n1,rfl),?_);let HS:-ks=-vs:=hl.trans (-dn);rw[pw HS];show bw e r h
def xQ(hr:bI k' X.A)(ja:JE X R a ta)(jb:JE X R b tb)(hm:behindInMarks .NotIn b=false|>1):JT X R (.Compare a [.NotIn] [b] pos) (kM (ju GR ta tb)):=fm (HU (Gu hr)) PH ja jb hm
def yQ:eD X (.type "dict") (λxs H Q=>∃a Κ,xs=[V.ref a]/\Rd H a (.dK Κ)/\∀p,H p=none->Q (.ref p) (upd H p (.dK Κ))):=by
 intro η s σ H xs us Q I r ⟨a,Κ,ex,e,q⟩;subst ex;cases r with
 | cons r1 r2=>
  cases r2;cases r1;show Mw I e λp s' hp I'=>(.ref p,_,I',rfl,q p hp)
def Ni:List Dt->Ms->DQ->Prop
 | [d],M,q=>∃k ks ds,d= .loc k/\M[k]? =!(.c_ ks ds)/\q (.loc (-M)) (M++[.c_ ks ds])
 | _,_,_=>False
def WH{K:fI}:EC K (λxs H Q=>∃a Κ,xs=[V.ref a]/\Rd H a (.dK Κ)/\∀p,H p=none->Q (.ref p) (upd H p (.dK Κ))) Ni:=by
 intro G0 L0 H0 G L M H vs ds q e r n h;unfold Ni at h;split at h
 .rename_i d;let(v,rfl,n1):=bD n;let(k,ks,ds,ed,hm,h):=h;subst ed;let(a,rfl,hk):=n1;let(_,vs,hH,hl,dn):=r.fK k a _ hk hm;show(a,_,rfl,.inl hH,λp hp=>?_);show(.loc (-M),G,L++[p],_,e.trans (r.XI hp),r.NH (m:=.c_ ks ds) hp (vs,av,hl,Τ.mono (.refl _) ([p],rfl) _ _ dn),(p,rfl,by rw[<-r.len,List.getElem?_append_right (Nat.le_refl _)];simp),h)
 .show h.elim
def uT:bootBuiltins "dict"=!(.type "dict"):=by decide+kernel
def EJ(hm:X.mg "dict"=none)(ha:JA X R [e] t)(hg:Gl X "dict"|>1)(he:starEach [e] X.env=(false, eval e X.env)::starEach [] X.env|>1)(f_:(backTo pos (starEach [] X.env)).any (·.1)=false|>1):JE X R (.Call (.Name "dict" p) [e] [] pos) (C4 Ni t):=
 ui yQ WH hm uT ha hg @_ @_ he f_
end
section
variable{f v1 v2:Expr}{tx t1 t2:DE}{df:Pos}
def OK{K:fI}{H:Hp}{p:Addr}{q:DQ}(e:Ex G1 L1 H1 G L H)(r:Rl K G L M H)(QE:H1 p=none)(hg:G p=none)(hl:p∉L)(h:H p=!(.dK (ks.zip vs)))(hk:-ks=-ds)(n:Τ K G L ds vs)(k:q (.loc (-M)) (M++[.c_ ks ds])):Fin K G1 L1 H1 q (.ref p) H:=by
 show(.loc (-M),G,L++[p],M++[.c_ ks ds],(e.g,e.l.trans ([p],rfl),e.fr,e.out,λb hb=>?_,e.Gf),(r.sub,by rw[List.length_append,List.length_append,r.len];rfl,List.nodup_append.mpr (r.nd,by simp,λa ha b hb=>?_),λk a m h1 h2=>?_),(p,rfl,by rw[<-r.len,List.getElem?_append_right (Nat.le_refl _)];simp),k)
 .rcases abj.mp hb with z| z
  .show e.new b z
  .let e:b=p:=by simpa using z
   right;rw[e];show QE
 .let e:b=p:=by simpa using hb
  rw[e];exactλz=>hl (z▸ha)
 .by_cases rL:k < -L
  .rw[aaD rL]at h1;rw[aaD (by rw[<-r.len];show rL)]at h2;let(q1,q2):=r.fK k a m h1 h2;show(q1,q2.mono (.refl _) ([p],rfl) rfl)
  .let e:k=-L:=by have:=(aai.mp h1).1;rw[aak]at this;simp at this;omega
   rw[e,aay (aaq _)]at h1;rw[e,r.len,aay (aaq _)]at h2;simp at h1 h2;subst h1 h2;show(hg,vs,h,hk,Τ.mono (.refl _) ([p],rfl) _ _ n)
end
def S4:Dt->Bool
 | .bc=>true
 | _=>false
def FX{K:fI}(n:Den K G L d v):decide (v= .bc)=S4 d:=by
 cases d with
 | bc=>cases n;rfl
 | bl b=>cases n;rfl
 | int i=>cases n;rfl
 | str x=>cases n;rfl
 | tup ds=>let(a,vs,rfl,_):=n;rfl
 | lst ds=>let(a,vs,rfl,_):=n;rfl
 | obj C ns ds=>let(a,dx,vs,rfl,_):=n;rfl
 | loc k=>let(a,rfl,_):=n;rfl
 | ref a=>cases n;rfl
 | ty m=>cases n;rfl
 | i_ ns=>let(a,rfl,_):=n;rfl
 | kt ds=>let(a,vs,rfl,_):=n;rfl
 | exc C ns ds=>let(a,od,vs,rfl,_):=n;rfl
 | Ub x C od ns ds=>let(vs,rfl,_):=n;rfl
def Vv:Dt->Dt->Ms->DQ->Prop:=λd e M q=>e= .bc/\q (.bl (S4 d)) M
def QQ:Dt->Dt->Ms->DQ->Prop:=λd e M q=>e= .bc/\q (.bl (! S4 d)) M
def ZD{K:fI}:mO K (λx y H Q=>y= .bc/\Q (.bl (decide (x= .bc))) H) Vv:=by intro G0 L0 H0 G L M H v1 v2 d1 d2 q e r n1 n2 ⟨e2,h⟩;subst e2;show(n2,?_);rw[FX n1];show bw e r h
def VR{K:fI}:mO K (λx y H Q=>y= .bc/\Q (.bl (! decide (x= .bc))) H) QQ:=by intro G0 L0 H0 G L M H v1 v2 d1 d2 q e r n1 n2 ⟨e2,h⟩;subst e2;show(n2,?_);rw[FX n1];show bw e r h
section
variable{a b:Expr}
def Tb(ja:JE X R a ta)(jb:JE X R b tb):JT X R (.Compare a [.Is] [b] pos) (kM (ju Vv ta tb)):=fm KS ZD ja jb (fQ _)
def N7(ja:JE X R a ta)(jb:JE X R b tb):JT X R (.Compare a [.IsNot] [b] pos) (kM (ju QQ ta tb)):=fm N4 VR ja jb (fQ _)
end
noncomputable def jJ{α:Type}(is:List Nat)(xs:List α):List α:=is.filterMap λi=>xs[i]?
def Fj{α β:Type}{F:α->β->Prop}:∀{xs:List α} {ys:List β},Paired F xs ys->∀{i:Nat} {x:α},xs[i]? =!x->∃y,ys[i]? =!y/\F x y
 | _,_,.nil,i,x,h=>by simp at h
 | _,_,.cons r t,0,x,h=>by obtain rfl:=aaC h;show(_,rfl,r)
 | _,_,.cons r t,i+1,x,h=>by let(y,e,f):=Fj t (show _=!x by simpa using h);show(y,by simpa using e,f)
def uM{α β:Type}{F:α->β->Prop}{xs:List α}{ys:List β}(p:Paired F xs ys):∀is:List Nat,Paired F (jJ is xs) (jJ is ys)
 | []=>.nil
 | i::is=>by
  let ih:=uM p is;unfold jJ at ih⊢;rw[adb,adb];cases hx:xs[i]? with
  | none=>
   have:ys[i]? =none:=by rw[List.getElem?_eq_none_iff]at hx⊢;rw[<-Paired.length p];show hx
   rw[this];show ih
  | some x=>
   let(y,hy,r):=Fj p hx;rw[hy];show .cons r ih
def IP{a b:Nat}(its:List Value)(hb:0 < b)(ha:a<=-its):slicePick its.toArray (!(a:Int)) none (!(b:Int))=(jJ (sliceRange a (-its) b) its).toArray:=by
 let hs:sliceBounds (!(a:Int)) none (!(b:Int)) (-its)=((a:Int), (-its:Int),(b:Int)):=by
  unfold sliceBounds;let h1:(b:Int) > 0:=()
  let h2:¬(a:Int) < 0:=()
  simp only[Option.getD_some,h1,if_true,h2,if_false];show Prod.ext ?_ rfl;change max (0:Int) (min (a:Int) (-its:Int))=a;omega
 unfold slicePick;rw[aa5,hs]
 congr 1
 unfold jJ
 congr 1
 funext i
 simp
section
variable{l k:Expr}{te tl tk:TE}{p2:Pos}
def UJ(K:fI)(a b:Nat)(te tl tk:TE):TE:=λσ H Q=>te σ H λx H1=>tl σ H1 λy H2=>∃i:Int,y= .int i/\(!i)=!(a:Int)/\tk σ H2 λz H3=>∃j:Int,z= .int j/\(!j)=!(b:Int)/\∃c xs,x= .ref c/\h7 K H3 c xs/\a<=-xs/\-(sliceRange a (-xs) b)<=-xs/\∀p,H3 p=none->Q (.ref p) (upd H3 p (.lst (jJ (sliceRange a (-xs) b) xs)))
def LZ{α:Type}{xs:List α}:∀is:List Nat,-(jJ is xs)<=-is:=λis=>List.length_filterMap_le _ _
def Ob{a b:Nat}(hb:0 < b)(he:PE X e te)(hl:PE X l tl)(hk:PE X k tk):PE X (.Subscript e (.Slice (!l) none (!k) p2) pos) (UJ X.K a b te tl tk):=by intro η s σ H Q I h;show Subscript_ (bG (he η s σ H _ I h) λv s1 xz=>?_);let(x,H1,I1,r1,q1):=xz;show wpAny_Slice (bG (l' hl η s1 σ H1 (λo H2=>o=!(a:Int)/\tk σ H2 λz H3=>∃j:Int,z= .int j/\(!j)=!(b:Int)/\∃c xs,x= .ref c/\h7 X.K H3 c xs/\a<=-xs/\-(sliceRange a (-xs) b)<=-xs/\∀p,H3 p=none->Q (.ref p) (upd H3 p (.lst (jJ (sliceRange a (-xs) b) xs)))) I1 q1) λvl s2 xz=>?_);let(o1,H2,I2,pl,el,q2):=xz;rw[evalPart_none];show abt ?_;show bG (l' hk η s2 σ H2 (λo H3=>o=!(b:Int)/\∃c xs,x= .ref c/\h7 X.K H3 c xs/\a<=-xs/\-(sliceRange a (-xs) b)<=-xs/\∀p,H3 p=none->Q (.ref p) (upd H3 p (.lst (jJ (sliceRange a (-xs) b) xs)))) I2 q2) λvs s3 xz=>?_;let(o,H3,I3,ps,eo,c,xs,ex,hx,ha,hn,q):=xz;subst el eo ex;cases r1;let I4:Inv X η σ H3 {s3 with heap:=s3.heap.push {cls:=.type "slice",data:=.fields #[vl,.none,vs]}}:=I3.kept (t':=s3.toks) λb ob q=>aat _ q;let(its,r,ht,hz):=I4.list hx;let hlen:=-r;change wpAny (model X.prog X.w) X.A (subscriptTail e (.Slice (!l) none (!k) p2) (.ref c) (.ref s3.heap.objs.size)) (EP X η σ Q) X.xe {s3 with heap:=s3.heap.push {cls:=.type "slice",data:=.fields #[vl,.none,vs]}};show tail_any (ops:=[.ref c,.ref s3.heap.objs.size]) ht.isList.typeIs slot_list_getitem.lookup ?_ (by with_unfolding_all rfl);show wpAny_getItem_list_slice ht.isList (Heap.IsSliceOf.new ..) pl .none ps (λz=>by injection z with z;omega) ?_ (by rw[aa5] <;> omega);rw[IP its hb (),<-hlen];show(.ref _,_,I4.laid (t':=s3.toks) (o:=.lst (jJ (sliceRange a (-xs) b) xs)) (λb ob q=>aat _ q) (aaq _) ?_,rfl,q _ (I4.aS.fresh (aaq _)));show(aaF (LZ _) (aaF hn hz),_,0,uM r _,abz _ rfl)
end
def XC(td te:TE):TE:=λσ H Q=>td σ H λx H1=>∃a,x= .ref a/\IsD H1 a/\te σ H1 λy H2=>∃b Κ more,y= .ref b/\a≠b/\H2 a=!(.dK Κ)/\Rd H2 b (.dK more)/\-Κ+-more<=sizeLine/\Q .bc (upd H2 a (.dK (jo Κ more)))
section
variable{df:Pos}{td te:TE}
def OF(ho:PE X o td)(he:PE X e te)(m:M1 X o "update" apos e df):PE X (.Call (.Attribute o "update" apos) [e] [] df) (XC td te):=by
 intro η s σ H Q I h;show wpAny_Call_method m.base m.Qs m.line PySem.F.plainAttrs_dict PySem.F.slot_dict_update PySem.F.type_dict_update (bG (ho η s σ H _ I h) λu s1 xz=>?_);let(x,H1,I1,rx,a,ex,d,q1):=xz;subst ex;obtain rfl:u=Value.ref a:=rx;let(t1,t2,_):=Sm I1 d;show(t1,t2,?_);rw[m.trees];show Calls.callWith_builtin rfl (Calls.evalArgs_plain (Calls.spliced_cons (bG (he η s1 σ H1 _ I1 q1) fun iv s2 (y,H2,I2,ry,b,Κ,more,ey,l7,hA,hB,hz,q2)=>Calls.spliced_nil ?_)));subst ey;obtain rfl:iv=Value.ref b:=ry;let(z1,d1,vs,r1,dd1):=GH I2.aS hA;let(z2,d2,rs,r2,X9):=eA I2.aS hB;show call_meetsIn PySem.F.slot_dict_update dd1.typeIs PySem.F.entry_dict_update (PySem.F.args_dict_update_2 _ _) (meets_dict_update (bQ X.prog X.w) a b l7 d2) (vs,rs,dd1,X9,by rw[<--r1,<--r2];show hz,λh' hm _ hs=>?_);let hex:∃q,h'.get? a=!q:=let (q,_,_,hq,_):=hm;(q,hq)
 show(.bc,_,sZ (t':=s2.toks) I2 (by rw[hA];show True.intro) hs hex (tF (aaF (jd more Κ) hz) d1 (KV.merge r2 r1) hm),rfl,q2)
end
section
variable{l k a b:Expr}{tl tk:DE}{p2 df:Pos}
def Qm(a b:Nat)(te tl tk:DE):DE:=λρ M q x=>te ρ M (λd M1=>tl ρ M1 (λdi M2=>di= .int a/\tk ρ M2 (λdk M3=>∃ds,nc M3 d=!ds/\dk= .int b/\a<=-ds/\-(sliceRange a (-ds) b)<=-ds/\q (.loc (-M3)) (M3++[.lst (jJ (sliceRange a (-ds) b) ds)])) x) x) x
def Rt{a b:Nat}(he:JE X R e te)(hl:JE X R l tl)(hk:JE X R k tk)(hb:0 < b|>2):JE X R (.Subscript e (.Slice (!l) none (!k) p2) pos) (Qm a b te tl tk):=
 .of (Ob hb he hl hk) λσ H G L ρ M q x rl n h hx=>by show(G,L,ρ,M,_,x,rl,n,h,hx,λv H1 xz=>?_);let(d1,G1,L1,M1,e1,r1,n1,h1):=xz;show(G1,L1,ρ,M1,_,x,r1,n.mono e1,h1,hx.on e1,λv2 H2 xz=>?_);let(d2,G2,L2,M2,e2,r2,n2,ei,h2):=xz;subst ei;let n2:v2= .int a:=n2;subst n2;show(_,rfl,rfl,G2,L2,ρ,M2,_,x,r2,(n.mono e1).mono e2,h2,(hx.on e1).on e2,λv3 H3 xz=>?_);let(d3,G3,L3,M3,e3,r3,n3,ds,ed,ek,ha,hn,h3):=xz;subst ek;let n3:v3= .int b:=n3;subst n3;let IL:=e2.trans e3;let(c,vs,rfl,sq,m):=hV r3 (Den.mono IL.g IL.l _ _ n1) ed;let hl:=-m;show(_,rfl,rfl,c,vs,rfl,sq,by rw[<-hl];show ha,by rw[<-hl];show hn,λp hp=>?_);rw[<-hl];show kD (e1.trans IL) r3 hp (Τ.of (uM m.pair _)) h3
def rY(ks:List Key):List Key->List Key
 | []=>ks
 | k::r=>rY (g7 ks k) r
noncomputable def vt(ks:List Key)(ds:List Dt):List Key->List Dt->List Dt
 | k::r,d::r8=>vt (g7 ks k) (fD ks k ds d) r r8
 | _,_=>ds
def TH{α:Type}{k:Key}{xs:List α}{v:α}(h:-ks=-xs):-(g7 ks k)=-(fD ks k xs v):=by
 unfold g7 fD;split
 .rw[qk h]
 .rw[aak,aak,h];rfl
def Te{K:fI}{k:Key}(n:Den K G L d v)(h:Τ K G L ds vs)(hl:-ks=-ds):Τ K G L (fD ks k ds d) (fD ks k vs v):=by
 unfold fD;split
 .show qi n h hl
 .show h.app (_,_,rfl,n,rfl)
def FG{K:fI}{G:Hp}{L:List Addr}:∀{lY:List Key} {r8:List Dt} {x9:List V} {ks:List Key} {ds:List Dt} {vs:List V},-lY=-r8->Τ K G L r8 x9->-ks=-ds->Τ K G L ds vs->
  ∃us,jo (ks.zip vs) (lY.zip x9)=(rY ks lY).zip us/\-(rY ks lY)=-(vt ks ds lY r8)/\Τ K G L (vt ks ds lY r8) us
 | [],[],_,ks,ds,vs,_,h2,hl,h=>by cases h2;show(vs,rfl,hl,h)
 | k::lY,d::r8,_,ks,ds,vs,HS,(v,x9,e,n0,ns),hl,h=>by
  subst e;let HS:-lY=-r8:=by simpa using HS
  let(us,e1,e2,e3):=FG (ks:=g7 ks k) (ds:=fD ks k ds d) (vs:=fD ks k vs v) HS ns (TH hl) (Te n0 h hl);show(us,?_,e2,e3);rw[ab9];change jo (jr (ks.zip vs) k v) (lY.zip x9)=(rY (g7 ks k) lY).zip us;rw[Kq (hl.trans (-h)),e1]
def GI(to te:DE):DE:=λρ M q x=>to ρ M (λd M1=>(∃k ks ds,d= .loc k/\M1[k]? =!(.c_ ks ds))/\te ρ M1 (λd2 M2=>∃k k2 ks ds lY r8,d= .loc k/\d2= .loc k2/\k≠k2/\M2[k]? =!(.c_ ks ds)/\M2[k2]? =!(.c_ lY r8)/\-ks+-lY<=1000/\q .bc (M2.set k (.c_ (rY ks lY) (vt ks ds lY r8)))) x) x
noncomputable def E5(ho:JE X R o to)(he:JE X R e te)(m:M1 X o "update" apos e df:=by exact⟨rfl,rfl,rfl,rfl⟩):JE X R (.Call (.Attribute o "update" apos) [e] [] df) (GI to te):=
 .of (OF ho he m) λσ H G L ρ M q x rl n h hx=>by
  show(G,L,ρ,M,_,x,rl,n,h,hx,λv H1 xz=>?_);let(d1,G1,L1,M1,e1,r1,n1,(k0,ks0,ds0,ed0,hm0),h1):=xz;subst ed0;let(a,rfl,hk):=n1;let(_,vs0,hH0,_,_):=r1.fK k0 a _ hk hm0;show(a,rfl,.inl (_,.inl hH0),G1,L1,ρ,M1,_,x,r1,n.mono e1,h1,hx.on e1,λv2 H2 xz=>?_);let(d2,G2,L2,M2,e2,r2,n2,k,k2,ks,ds,lY,r8,ed,ed2,l7,hm,ZU,hz,h3):=xz;cases ed;subst ed2;let Ba:=e2.l.get hk;let(b,rfl,VF):=n2;let(_,vs,hH,hl,dn):=r2.fK k0 a _ Ba hm;let(_,x9,Ph,HS,JC):=r2.fK k2 b _ VF ZU;let z1:-(ks.zip vs)<=-ks:=by rw[ab1];show Nat.min_le_left _ _
  let z2:-(lY.zip x9)<=-lY:=by rw[ab1];show Nat.min_le_left _ _
  let sz:(1000:Nat)<=sizeLine:=@_
  let(us,u1,u2,u3):=FG HS JC hl dn;let ab:a≠b:=λz=>by subst z;let i1:=(aai.mp Ba).1;have:=(List.getElem?_inj (l:=L2) i1 r2.nd).mp (Ba.trans VF.symm);show l7 this
  show(b,_,_,rfl,ab,hH,.inl Ph,(),?_);show(.bc,G2,L2,_,(e1.trans e2).trans (r2.Hj Ba),r2.setM (m:=.c_ (rY ks lY) (vt ks ds lY r8)) Ba (us,by rw[av,u1],u2,u3),rfl,h3)
end
def Ml(P:Program)(w:World)(a:Addr)(Κ:List (Key×V))(ep:Nat)(h:Heap):Prop:=-Κ<=sizeLine/\(a==sysModules)=false/\∃vs,KV Κ vs/\h.DictAt (bQ P w) a vs ep
def xx(P:Program)(w:World)(a:Addr)(Κ:List (Key×V))(ep:Nat):HO:=.ext (Ml P w a Κ ep)
section
variable{P':Program}{w':World}{H:Hp}{h:Heap}{ep:Nat}
def GW(ok:mB P w H h)(e:H a=!(xx P' w' a Κ ep)):Ml P' w' a Κ ep h:=(ok a _ e).1
def SU(x:Ml P' w' a Κ ep h):cn P w H h a (xx P' w' a Κ ep):=by
 show(x,?_,λh1 h2 y k=>?_)
 .let(_,_,vs,_,o,es,e,_):=x;show(o,e)
 .let(z,hd,vs,r,o,es,e,c):=y;show(z,hd,vs,r,o,es,k _ e,c)
end
section
variable{H:Hp}{ep:Nat}
def Inv.SF(I:Inv X η σ H s)(mu:T5 (H a))(x:Ml X.prog X.w a Κ ep s.heap):Inv X η σ (upd H a (xx X.prog X.w a Κ ep)) s:=by
 let he:∃u,s.heap.get? a=!u:=let (_,_,_,_,o,_,e,_):=x;(o,e)
 show I.write (x:=a) (e:=a) (h':=s.heap) (t':=s.toks) mu (.inl rfl) (λb u _ q=>q) he (SU x)
def Inv.walkOut(I:Inv X η σ H s)(e:H a=!(xx X.prog X.w a Κ ep)):Inv X η σ (upd H a (.dK Κ)) s:=by
 let(z,hd,vs,r,dd):=GW I.aS e;let he:∃u,s.heap.get? a=!u:=let (o,_,e,_):=dd;(o,e)
 show I.write (x:=a) (e:=a) (h':=s.heap) (t':=s.toks) (by rw[e];show True.intro) (.inl rfl) (λb u _ q=>q) he (tF z hd r dd.dictOf)
def U'{k:Key}(h:(bQ P w).is k u=true):aH (kV k) u:=by
 rcases bK h with ⟨i,t,rfl,rfl⟩| ⟨x,t,rfl,rfl⟩
 .show(t,rfl)
 .show(t,rfl)
end
noncomputable def Yo(P:Program)(w:World)(a:Addr)(Κ:List (Key×V))(ep:Nat):It:=
 (λi H=>H a=!(xx P w a Κ ep)/\i < -Κ,λi H x H'=>H'=H/\∃kv,Κ[i]? =!kv/\x=kV kv.1,λi H=>H a=!(xx P w a Κ ep)/\-Κ<=i)
def HV{K:fI}(a it:Addr)(Κ:List (Key×V))(ep:Nat):Turn P w K tg (Yo P w a Κ ep) [it] it (λi h=>h.IsKeyIter it a i (-Κ) ep) where
 mem:=by simp
 obj:=λi h st b hb=>by
  let e:b=it:=by simpa using hb
  subst e;let(o,e,c,d):=st;show(o,e,λv z=>by rw[d]at z;cases z)
 keep:=λi h h' st k=>by let(o,e,r):=st;show(o,k it (by simp) o e,r)
 item:=by
  intro X hP hw hK hc i η s σ H E I hf st hg;subst hP hw hK;let(hq,hi):=hg;let(z,hd,vs,rel,dd):=GW I.aS hq;let(f0,f1,f2,f3,f4,f5):=hf it (by simp);let hx:Κ[i]? =!Κ[i]:=aaa hi;let(q,Ui,r1,r2):=Fj rel hx;let(k,v):=q;let Y0:s.heap.IsKeyIter it a i (-vs) ep:=by rw[<--rel];show st
  show wpAny_pyNext_dict_item Y0 dd Ui λkey h' hk yI sb=>?_;let yI:h'.IsKeyIter it a (i+1) (-Κ) ep:=by rw[-rel];show yI
  let I1:Inv X η σ H {s with heap:=h'}:=I.turned (t':=s.toks) (λb o hb e=>(sb.2 b hb).trans e) f0 f1 f3 f4 f5;let(o,e,c,d):=id yI;show(key,rfl,xv (s:={s with heap:=h'}) e c d @_ (kV k,H,I1,U' hk,(rfl,Κ[i],hx,by rw[r1]),yI,λb hb=>(hf b hb).1))
 done:=by
  intro X hP hw hK hc i η s σ H E I hf st hg;subst hP hw hK;let(hq,hi):=hg;let(z,hd,vs,rel,dd):=GW I.aS hq;let(f0,f1,f2,f3,f4,f5):=hf it (by simp);let Y0:s.heap.IsKeyIter it a i (-vs) ep:=by rw[<--rel];show st
  show wpAny_pyNext_dict_end (I.ok.hd hc) Y0 dd (acj (by rw[<--rel];show hi)) λh' eb=>(rfl,I.turned (t':=s.toks) (λb o hb e=>eb b o hb e) f0 f1 f3 f4 f5)
 self:=λ_ _ _ _ _ st h=>wpAny_pyIter_keyiter st h
section
variable{H:Hp}{Q:It->Hp->Prop}
def OU(I:Inv X η σ H s)(e:H a=!(.dK Κ))(q:∀ep,Q (Yo X.prog X.w a Κ ep) (upd H a (xx X.prog X.w a Κ ep))):wpAny (model X.prog X.w) X.A (pyIter (.ref a)) (ND X η σ tg Q) E s:=by
 let(z,hd,vs,rel,dd):=GH I.aS e;let(ep,dd):=dd.dictAt;show wpAny_pyIter_dict hd dd ?_;let I1:=I.SF (by rw[e];show True.intro) (show Ml X.prog X.w a Κ ep s.heap from(z,hd,vs,rel,dd));show(s.heap.objs.size,[s.heap.objs.size],_,_,_,rfl,I1.kept (t':=s.toks) λb o e=>aat _ e,HV a _ Κ ep,(_,abz _ rfl,rfl,by rw[-rel];rfl),λb hb=>?_,q ep);let e:b=s.heap.objs.size:=by simpa using hb
 subst e;show I1.DU (aaq _) (I1.aS.fresh (aaq _))
end
def NxW(P:Program)(w:World)(D:AD):St->Hp->Prop:=λσ H=>∃a Κ ep,H a=!(xx P w a Κ ep)/\D.nx σ (upd H a (.dK Κ))
section
variable{t:TS}{td ty:TE}
def Ii(h:PS X st t):PS X st (λD σ H=>t {D with nx:=NxW X.prog X.w D} σ H):=by
 intro η s σ H D I h';show bG (h η s σ H _ I h') λf s' sp=>?_;cases f with
 | next=>
  let(σ',H',I',a,Κ,ep,e,q):=sp;show(σ',_,I'.walkOut e,q)
 | brk=>show sp
 | cont=>show sp
 | ret u=>show sp
def Sa(P:Program)(w:World)(td ty:TE):TE:=λσ H Q=>td σ H λx H1=>ty σ H1 λy H2=>∃a Κ ep k v,x= .ref a/\H2 a=!(xx P w a Κ ep)/\y=kV k/\gL Κ k=!v/\Q v H2
def Ki(ho:PE X o td)(hi:PE X i ty)(hs:Em i):PE X (.Subscript o i pos) (Sa X.prog X.w td ty):=by intro η s σ H Q I h;show zG ac6.lookup hs (bG (ho η s σ H _ I h) fun u s1 (x,H1,I1,rx,q1)=>bG (hi η s1 σ H1 _ I1 q1) λiv s2 xz=>?_);let(y,H2,I2,ry,a,Κ,ep,k,v,ex,e,ey,l,q2):=xz;subst ex ey;obtain rfl:u=Value.ref a:=rx;let(z,hd,vs,rel,dd):=GW I2.aS e;let dd:=dd.dictOf;let(w',hw,IF):=lB.some_of (v:=v) (o:=valueAt vs k) (by rw[<-l];show rel.val k);show(dd.typeIs,wpAny_getItem_of (vV ry) dd.mapOf hw (v,H2,I2.tok _,IF,q2))
end
noncomputable def xi:Key->Dt
 | .inl i=>.int i
 | .inr x=>.str x
def GU{K:fI}{G:Hp}{L:List Addr}:∀k:Key,Den K G L (xi k) (kV k)
 | .inl _=>rfl
 | .inr _=>rfl
def oW{K:fI}{G:Hp}{L:List Addr}:∀is:List Int,Τ K G L (is.map Dt.int) (is.map V.int)
 | []=>rfl
 | _::is=>(_,_,rfl,rfl,oW is)
def u6{K:fI}{G:Hp}{L:List Addr}:∀{is:List Int} {vs:List V},Τ K G L (is.map Dt.int) vs->vs=is.map V.int
 | [],vs,h=>h
 | i::is,vs,h=>by let(v,r,rfl,h1,h2):=h;let h1:v= .int i:=h1;rw[h1,u6 h2];rfl
noncomputable def si(P:Program)(w:World)(ks:List Key)(is:List Int)(ep:Nat):Addr->HO:=λa=>xx P w a (ks.zip (is.map V.int)) ep
def pd(g:Dt->En->(En->Prop)->Prop)(tb:DS)(Dn:mH)(k:Nat)(u:Addr->HO)(m:MO):List Key->En->Ms->Prop
 | [],ρ,M=>M[k]? =!(.raw u)/\Dn.nx ρ (M.set k m)
 | x::xs,ρ,M=>M[k]? =!(.raw u)/\g (xi x) ρ λρ'=>tb {Dn with nx:=pd g tb Dn k u m xs,ct:=pd g tb Dn k u m xs,bk:=λρ M=>M[k]? =!(.raw u)/\Dn.nx ρ (M.set k m)} ρ' M
def AO(P:Program)(w:World)(te:DE)(g:Dt->En->(En->Prop)->Prop)(tb:DS):DS:=λDn ρ M=>te ρ M (λd M1=>∃k ks is,d= .loc k/\M1[k]? =!(.c_ ks (is.map Dt.int))/\∀ep,pd g tb Dn k (si P w ks is ep) (.c_ ks (is.map Dt.int)) ks ρ (M1.set k (.raw (si P w ks is ep)))) Dn.x
def SQ(P:Program)(w:World)(t:TE):TI:=λσ H R=>t σ H λv H1=>∃a Κ,v= .ref a/\H1 a=!(.dK Κ)/\∀ep,R (Yo P w a Κ ep) (upd H1 a (xx P w a Κ ep))
def GC{t:TE}(h:PE X e t):PI X tg e (SQ X.prog X.w t):=by intro η s σ H R I ht;show bG (h η s σ H _ I ht) λu s1 xz=>?_;let(v,H1,I1,rv,a,Κ,ev,ha,q):=xz;subst ev;obtain rfl:u=Value.ref a:=rv;show OU I1 ha q
section
variable{iter:Expr}{body:List Stmt}{gg:TG}{g:Dt->En->(En->Prop)->Prop}{tb:DS}
set_option tactic.hygienic false
noncomputable def pM(hi:JE X R iter te)(hg:PG X tg gg)(gd:GD X.K gg g)(hb:DZ X R body tb)(hp:PassesOwn (model X.prog X.w) X.A X.env X.xe:=by first| exact PassesOwn.never| exact PassesOwn.leaving)(hc:X.calm=true|>1)(hs:(∀x,foldedSetIterable iter X.env x=pure x)|>3):
  JS X R (.For tg iter body [] pos) (AO X.prog X.w te g tb):=.of (Ii (DJ hp hc (GC hi) hg hb hs)) λσ H G L ρ M Dn rl n h hx=>by
 show(G,L,ρ,M,_,_,rl,n,h,hx,λv H1 xz=>?_);let(d,G1,L1,M1,e1,r1,n1,k,ks,is,ed,hk,h1):=xz;subst ed;let(a,rfl,C2):=n1;let(hGa,vs,hH,hl,dn):=r1.fK k a _ C2 hk;let YS:=u6 dn;subst YS;rw[aae]at hl;show(a,_,rfl,hH,λep=>?_);let h1:=h1 ep;generalize hu:si X.prog X.w ks is ep=u at h1;let Nz:xx X.prog X.w a (ks.zip (is.map V.int)) ep=u a:=by rw[<-hu];rfl
 let r2:Rl X.K G1 L1 (M1.set k (.raw u)) (upd H1 a (xx X.prog X.w a (ks.zip (is.map V.int)) ep)):=r1.setM (m:=.raw u) C2 (show upd H1 a _ a=!(u a) by rw[av,Nz]);let e2:Ex G1 L1 H1 G1 L1 (upd H1 a (xx X.prog X.w a (ks.zip (is.map V.int)) ep)):=r1.Hj C2;let zl:-(ks.zip (is.map V.int))=-ks:=by rw[ab1,aae];omega
 generalize Ph:upd H1 a (xx X.prog X.w a (ks.zip (is.map V.int)) ep)=H2 at r2 e2;let JO:=e1.trans e2;let out:∀{G':Hp} {L':List Addr} {H':Hp} {M':Ms} {ρ':En} {σ':St},Ex G1 L1 H2 G' L' H'->Rl X.K G' L' M' H'->mP X.K G' L' ρ' σ'->M'[k]? =!(.raw u)->Dn.nx ρ' (M'.set k (.c_ ks (is.map Dt.int)))->NxW X.prog X.w (v_ X.K G L H Dn) σ' H':=λ{G' L' H' M' ρ' σ'} e' r' n' hm U3=>by let ES:=e'.l.get C2;let N2:H' a=!(u a):=(r'.fK k a _ ES hm).2;show(a,ks.zip (is.map V.int),ep,by rw[Nz];show N2,ρ',G',L',_,(JO.trans e').trans (r'.Hj ES),r'.setM (m:=.c_ ks (is.map Dt.int)) ES (is.map V.int,av,by rw[aae];show hl,oW is),n'.mono (r'.Hj (o:=.own a) ES),U3)
 show(λi m σ' H'=>m+i=-ks/\fH X.K G1 L1 H2 (λρ' M'=>pd g tb Dn k u (.c_ ks (is.map Dt.int)) (ks.drop i) ρ' M') σ' H',(-ks,rfl,ρ,G1,L1,_,.refl _ _ _,r2,n.mono e1,by rw[adt];show h1),?_);rintro i m σ' H' ⟨hm,ρ',G',L',M',e',r',n',h'⟩;let ES:=e'.l.get C2;by_cases hi:i < -ks
 .right;rw[acf hi]at h';let(sy,h'):=h';let N2:H' a=!(u a):=(r'.fK k a _ ES sy).2;show((by rw[Nz];show N2,()),fH X.K G1 L1 H2 (λρ' M'=>pd g tb Dn k u (.c_ ks (is.map Dt.int)) (ks.drop (i+1)) ρ' M'),λσ2 H3 f=>(m - 1,(),(),f),λv H3 hy=>?_);let(rfl,kv,WJ,rfl):=hy;let sX:kv.1=ks[i]:=by rw[acv]at WJ;have:=WJ.1;rw[aaa hi]at this;show(aaC this).symm
  rw[sX];show gd G' L' M' H3 _ _ ρ' σ' _ _ r' (GU _) n' h' λρ3 σ3 n3 h3=>?_;show(G',L',ρ3,M',_,r',n3,h3,hx.on (JO.trans e'),(λ_ _ f=>fH.back e' f,λ_ _ f=>Fin.back (JO.trans e') f,λσ4 H4 f=>?_,λ_ _ f=>fH.back e' f));let(ρ4,G4,L4,M4,e4,r4,n4,hm4,h4):=f;show out (e'.trans e4) r4 n4 hm4 h4
 .left;rw[acW ()]at h';let N2:H' a=!(u a):=(r'.fK k a _ ES h'.1).2;show((by rw[Nz];show N2,()),out e' r' n' h'.1 h'.2)
def Ew(P:Program)(w:World)(to ti:DE):DE:=λρ M q x=>to ρ M (λd M1=>ti ρ M1 (λdi M2=>∃k ks is ep key j,d= .loc k/\M2[k]? =!(.raw (si P w ks is ep))/\BO di=!key/\bx ks (is.map Dt.int) key=!(.int j)/\q (.int j) M2) x) x
noncomputable def sN(ho:JE X R o to)(hi:JE X R i ti)(hs:Em i:=by intro _ _;rfl):JE X R (.Subscript o i pos) (Ew X.prog X.w to ti):=
 .of (Ki ho hi hs) λσ H G L ρ M q x rl n h hx=>by show(G,L,ρ,M,_,x,rl,n,h,hx,λv H1 xz=>?_);let(d1,G1,L1,M1,e1,r1,n1,h1):=xz;show(G1,L1,ρ,M1,_,x,r1,n.mono e1,h1,hx.on e1,λv2 H2 xz=>?_);let(d2,G2,L2,M2,e2,r2,n2,k,ks,is,ep,key,j,ed,hm,hk,hg,h2):=xz;subst ed;let(a,rfl,sX):=n1;let EI:=e2.l.get sX;let hH:H2 a=!(si X.prog X.w ks is ep a):=(r2.fK k a _ EI hm).2;obtain rfl:v2=kV key:=ma hk n2;let(v,hv,dv):=qE (K:=X.K) (G:=G2) (L:=L2) (oW is) hg;show(a,_,ep,key,v,rfl,hH,rfl,hv,_,G2,L2,M2,e1.trans e2,r2,dv,h2)
end
section
variable{k1 v1 k2 v2:Expr}{s1 t1 s2 t2:DE}
structure Jv(K:fI)(G0:Hp)(L0:List Addr)(H0:Hp)(p:Addr)(G:Hp)(L:List Addr)(M:Ms)(H:Hp):Prop where
 ex:Ex G0 L0 (upd H0 p (.dK [])) G L H
 rl:Rl K G L M H
 at_:H p=!(.dK [])
 g:G p=none
 l:p∉L
def Jv.on{K:fI}{p:Addr}{H:Hp}(a:Jv K G0 L0 H0 p G L M H)(e:Ex G L H G' L' H')(r:Rl K G' L' M' H'):Jv K G0 L0 H0 p G' L' M' H':=
 (a.ex.trans e,r,e.out _ _ a.at_ a.l,e.fr _ a.g (by rw[a.at_];simp),λz=>(e.new _ z).elim a.l λq=>by rw[a.at_]at q;cases q)
def VH{K:fI}{H:Hp}{p:Addr}(rl:Rl K G L M H)(hp:H p=none):Ex G L H G L (upd H p (.dK []))/\Jv K G L H p G L M (upd H p (.dK [])):=by
 let gn:G p=none:=rl.sub.free hp;let ln:p∉L:=rl.RQ hp;let e0:Ex G L H G L (upd H p (.dK [])):=(.refl _,.refl _,λ_ h _=>h,λb u h1 _=>by rw[Ρ (λz=>by rw[z,hp]at h1;cases h1)];show h1,λ_ h=>.inl h,λb h=>by rw[Ρ (λz=>h (by rw[z];show hp))];show h)
 let r0:Rl K G L M (upd H p (.dK [])):=(λb u e=>by rw[Ρ (λz=>by rw[z,gn]at e;cases e)];show rl.sub b u e,rl.len,rl.nd,λi a m h1 h2=>by
  let(q1,q2):=rl.fK i a m h1 h2
  show(q1,q2.mono (.refl _) (.refl _) (Ρ λz=>q2.there (by rw[z];show hp))))
 show(e0,.refl _ _ _,r0,av,gn,ln)
def Jv.fin{K:fI}{p:Addr}{H:Hp}{q:DQ}(a:Jv K G0 L0 H0 p G L M H)(e0:Ex G0 L0 H0 G0 L0 (upd H0 p (.dK [])))(hp:H0 p=none)(hk:-ks=-ds)(n:Τ K G L ds vs)(k:q (.loc (-M)) (M++[.c_ ks ds])):Fin K G0 L0 H0 q (.ref p) (upd H p (.dK (ks.zip vs))):=by
 let e:=e0.trans a.ex;let gne:∀{b:Addr} {w:HO},G b=!w->b≠p:=λe z=>by rw[z,a.g]at e;cases e
 show OK (G:=G) (L:=L) (M:=M) (ks:=ks) (ds:=ds) (vs:=vs) (e.g,e.l,e.fr,λb w h1 h2=>?_,e.new,λb h=>?_) (λb w e=>?_,a.rl.len,a.rl.nd,λi c m h1 h2=>?_) hp a.g a.l av hk n k
 .rw[Ρ (λz=>by rw[z,hp]at h1;cases h1)];show e.out b w h1 h2
 .by_cases hb:b=p
  .rw[hb,av];simp
  .rw[Ρ hb];show e.Gf b h
 .rw[Ρ (gne e)];show a.rl.sub b w e
 .let(q1,q2):=a.rl.fK i c m h1 h2;show(q1,q2.mono (.refl _) (.refl _) (Ρ λz=>a.l (by rw[<-z];show aap h1)))
def EU(s1 t1:DE):DE:=λρ M q x=>s1 ρ M (λc1 M1=>t1 ρ M1 (λd1 M2=>∃y1,BO c1=!y1/\q (.loc (-M2)) (M2++[.c_ [y1] [d1]])) x) x
def AL(sX:JE X R k1 s1)(hv1:JE X R v1 t1):JE X R (.Dict [!k1] [v1] pos) (EU s1 t1):=
 .of (Ot (LJ sX hv1 N6) rfl rfl (by simp) (by change 1<=15;decide)) λσ H G L ρ M q x rl n h hx=>by intro p hp;let(e0,a0):=VH rl hp;show(G,L,ρ,M,_,x,a0.rl,n,h,hx.on e0,λu1 H1 xz=>?_);let(d1,G1,L1,M1,e1,r1,n1,h1):=xz;let a1:=a0.on e1 r1;show(G1,L1,ρ,M1,_,x,r1,n.mono (e0.trans e1),h1,hx.on (e0.trans e1),λu2 H2 xz=>?_);let(d2,G2,L2,M2,e2,r2,n2,y1,hy,h2):=xz;let a2:=a1.on e2 r2;obtain rfl:u1=kV y1:=ma hy n1;show(a2.at_,[(y1, u2)],rfl,by change 1<=15;decide,?_);rw[xA _ [] (λ_ _=>rfl) (by simp),List.nil_append];show a2.fin (ks:=[y1]) (ds:=[d2]) (vs:=[u2]) e0 hp rfl (_,_,rfl,n2,rfl) h2
end
def Mp:List Dt->Ms->DQ->Prop
 | [d],M,q=>∃k ks ds,d= .loc k/\M[k]? =!(.c_ ks ds)/\q (.int (-ks)) M
 | _,_,_=>False
def W4{K:fI}:EC K (λxs H Q=>∃a Κ,xs=[V.ref a]/\H a=!(.dK Κ)/\Q (.int (-Κ)) H) Mp:=by
 intro G0 L0 H0 G L M H vs ds q e r n h;unfold Mp at h;split at h
 .let(k,ks,ds,rfl,hm,h):=h;let(v,rfl,n1):=bD n;let(a,rfl,hk):=n1;let(_,vs,hH,hl,dn):=r.fK k a _ hk hm;show(a,_,rfl,hH,.int (-ks),G,L,M,e,r,?_,h);change V.int _=V.int _;rw[ab1,<--dn,<-hl,adf]
 .show h.elim
section
def E4(hm:X.mg "len"=none)(ha:JA X R [e] t)(hg:Gl X "len"|>1)(he:starEach [e] X.env=(false, eval e X.env)::starEach [] X.env|>1)(f_:(backTo pos (starEach [] X.env)).any (·.1)=false|>1):JE X R (.Call (.Name "len" p) [e] [] pos) (C4 Mp t):=
 g9 Jr W4 hm PySem.boot_len ha hg @_ @_ he f_
end
structure B2(K:fI)(x:Str)(st:Stmt)(T:Addr)(its:Array Value)(f:Addr)(fd:FuncData):Prop where
 ex:∃(oc:Value) (od:Option Addr) (kV doc pm:Value) (an:Option Addr) (aQ ct:Value) (B4:Array (Option Value)),
  fd=PySem.W.fnOf x x (gs st) (dY st) (τ st) (.ref T) kV doc pm an aQ ct/\K.lookup f=!(oc,od,.func fd,B4)/\PySem.W.codeIn K aQ x=true
 tup:∃o n,K.lookup T=!o/\o.data= .seq its n
 kp:PySem.W.keepIn K (.ref f)=true
section
variable{K:fI}{mg:Str->Option Value}{base:Heap}
def B2.de{k:Nat}{T:DF}(F:B2 K x st U its f fd)(S:Δ N ps (τ st))(len:∀ds M q x,T ds M q x->-ds=-ps)
  (tM:∀(aQ:Value) (A:Around) (outer:List Env) (s:Shared) (H:Hp) (E:XK),bI k (A.deeper (envOfC x (τ st) s.heap.objs.size f aQ))->
   ∃t,DZ (v9 (bO P w) P w K mg base N x (τ st) f aQ A outer s H E) (λ_=>E) (dY st) t/\∀ds M q x,T ds M q x->t {nx:=λ_ M'=>q .bc M',rt:=q,x:=λ_=>x} (lO N ds) M):
  ao P w K mg base (bO P w) (k+1) f fd ps (b8 K T):=by
 let(oc,od,kV,doc,pm,an,aQ,ct,B4,rfl,lk,D1):=F.ex;show Qi lk D1 S (λvs H Q E h=>?_) λA outer s H vs Q E hr h=>?_
 .let(G,L,ds,M,q,x,rl,n,hT,_):=h;rw[<--n];show len _ _ _ _ hT
 .let(t,j,ht):=tM aQ A outer s H E hr;let(G,L,ds,M,q,x,rl,n,hT,hQ,hE):=h;show(_,j,G,L,lO N ds,M,_,rl,BL n,ht ds M q x hT,λσ ρ C fs M' G' L' H' od hx e r _ y=>hE C fs M' G' L' H' od hx e r y,(λσ' H' (ρ',G',L',M',e,r,_,h)=>hQ _ _ (.bc,G',L',M',e,r,rfl,h),λv H' f=>hQ v H' f,λ_ _ (_,_,_,_,_,_,_,h)=>h.elim,λ_ _ (_,_,_,_,_,_,_,h)=>h.elim))
def B2.binds{ds:List Value}(F:B2 K x st U its f fd)
  (h:∀(kV doc pm:Value) (an:Option Addr) (aQ ct:Value) (us:List Value),-(us++ds)=-ps->∃k,bindArgs (PySem.W.fnOf x x (gs st) (dY st) (τ st) (.ref U) kV doc pm an aQ ct) (us,[])=(seqItems? (.ref U) >>= k)/\k (!its)=pure (ps.zip (us++ds))):i5 K fd ps ds:=by
 let(oc,od,kV,doc,pm,an,aQ,ct,B4,rfl,lk,D1):=F.ex;let(o,n,l,e):=F.tup;intro s us hK hl;let(k,h1,h2):=h kV doc pm an aQ ct us hl;show BindsTo.of_defaults rfl (hK _ _ l) e h1 h2
structure ET(P:Program)(w:World)(K:fI)(mg:Str->Option Value)(base:Heap)(k:Nat)(x:Str)(ps:List Str)(T:DF)(SX:List Dt)(f:Addr)(fd:FuncData):Prop where
 ok:ao P w K mg base (bO P w) k f fd ps (b8 K T)
 b:∃(pT:List V) (ds:List Value),i5 K fd ps ds/\aC pT ds/\∀G L,Τ K G L SX pT
 m:mg x=!(.ref f)
 kp:PySem.W.keepIn K (.ref f)=true
end
def lI{K:fI}{G:Hp}{L:List Addr}:∀{ds es:List Dt} {vs us:List V},Τ K G L ds vs->Τ K G L es us->Τ K G L (ds++es) (vs++us)
 | [],_,vs,us,h,k=>by obtain rfl:vs=[]:=h;show k
 | _::_,_,_,_,(v,r,e,a,b),h=>by subst e;show(v,_,rfl,a,lI b h)
def Ta(T:DF)(SX:List Dt)(t:DA):DE:=λρ M q x=>t ρ M (λds M1=>T (ds++SX) M1 q (λC fs M'=>x ρ C fs M')) x
section
variable{T:DF}{k:Nat}{SX:List Dt}
def Mt(C:ET X.prog X.w X.K X.mg X.base k x ps T SX f fd)(hr:bI k' X.A)(hx:cM (bO X.prog X.w) X R)(ha:JA X R (e::es) t)(hk:k<=k'|>2)(hg:Gl X x|>1)(mw:(x==("__debug__":Str))=false|>2)
  (he:starEach (e::es) X.env=(false, eval e X.env)::starEach es X.env|>1) (f_:(backTo pos (starEach es X.env)).any (·.1)=false|>1):JE X R (.Call (.Name x p) (e::es) [] pos) (Ta T SX t):=by
 let(pT,ds,hb,hv,hd):=C.b;show .of (CO C.ok (hr.mono hk) hg C.m C.kp hb hv hx ha mw he f_) λσ H G L ρ M q x rl n h hx=>?_;show(G,L,ρ,M,_,x,rl,n,h,hx,λvs H1 xz=>?_);let(ds,G1,L1,M1,e1,r1,n1,h1):=xz;show(G1,L1,ds++SX,M1,q,_,r1,lI n1 (hd G1 L1),h1,λv H' f=>Fin.back e1 f,λC fs M' G' L' H' od hq e' r' y=>hx σ ρ C fs M' G' L' H' od hq (e1.trans e') r' (n.mono (e1.trans e')) y)
end
def HF{t:TE}(h:PE X e t):PE X e (λσ H Q=>t σ H λv H1=>∃a Κ ep,H1 a=!(xx X.prog X.w a Κ ep)/\Q v (upd H1 a (.dK Κ))):=by intro η s σ H Q I ht;show bG (h η s σ H _ I ht) λu s1 (v,H1,I1,rv,a,Κ,ep,e,q)=>(v,_,I1.walkOut e,rv,q)
def MV(P:Program)(w:World)(to te:DE)(ag:List Nat):DE:=λρ M q x=>to ρ M (λd M1=>∃k ks is,d= .loc k/\M1[k]? =!(.c_ ks (is.map Dt.int))/\-ks<=sizeLine/\∀ep,vK te (qe ag ρ) (λM'=>M'[k]? =!(.raw (si P w ks is ep))) (ks.map xi) [] (M1.set k (.raw (si P w ks is ep))) λys M2=>M2[k]? =!(.raw (si P w ks is ep))/\q (.lst ys) (M2.set k (.c_ ks (is.map Dt.int)))) x
section
variable{elt iter:Expr}{px:Pos}
def NI(S:aJ X scope [x] ys ag)(hi:JE X R iter to)(he:∀C s H fp,JE (Cx.comp X (x::ys) scope C s H fp) (λ_=>E0) elt te)(hc:X.calm=true|>1)(hs:(∀x,foldedSetIterable iter X.env x=pure x)|>3):JE X R (.ListComp elt [(.Name x px,iter,[],0)] scope pos) (MV X.prog X.w to te ag):=
 .of (HF (CJ (tc:=EG X.K (λ_=>E0) r_) (te:=zh X.K (λ_=>E0) te) S hc (GC hi) (ia S (i:=0) rfl) (iB (Nat.zero_lt_succ 0)) (λ_ _ _ _=>pA) he hs)) λσ H G L ρ M q x rl n h hx=>by
  show(G,L,ρ,M,_,x,rl,n,h,hx,λv H1 xz=>?_);let(d,G1,L1,M1,e1,r1,n1,k,ks,is,ed,hk,hz,h1):=xz;subst ed;let(a,rfl,C2):=n1;let(hGa,vs,hH,hl,dn):=r1.fK k a _ C2 hk;let YS:=u6 dn;subst YS;rw[aae]at hl;show(a,_,rfl,hH,λep D hD=>?_);let h1:=h1 ep;generalize hu:si X.prog X.w ks is ep=u at h1;let Nz:xx X.prog X.w a (ks.zip (is.map V.int)) ep=u a:=by rw[<-hu];rfl
  let r2:Rl X.K G1 L1 (M1.set k (.raw u)) (upd H1 a (xx X.prog X.w a (ks.zip (is.map V.int)) ep)):=r1.setM (m:=.raw u) C2 (show upd H1 a _ a=!(u a) by rw[av,Nz]);let e2:Ex G1 L1 H1 G1 L1 (upd H1 a (xx X.prog X.w a (ks.zip (is.map V.int)) ep)):=r1.Hj C2;let zl:-(ks.zip (is.map V.int))=-ks:=by rw[ab1,aae];omega
  generalize Ph:upd H1 a (xx X.prog X.w a (ks.zip (is.map V.int)) ep)=H2 at r2 e2 hD;let yl:QN X.K (Yo X.prog X.w a (ks.zip (is.map V.int)) ep) (ks.map xi) (λM'=>M'[k]? =!(.raw u)) G1 L1:=by
   show(λi G' L' M' H' d g l r' aS hd=>?_,λi G' L' M' H' g l r' aS hd=>?_)
   .let N2:H' a=!(u a):=(r'.fK k a _ (l.get C2) aS).2;let hi:i < -ks:=by have:=(aai.mp hd).1;rwa[aae]at this
    show((by rw[Nz];show N2,()),λv H3 hy=>?_);let(rfl,kv,WJ,rfl):=hy;rw[acv]at WJ;rw[aas,WJ.1]at hd;let hd:xi kv.1=d:=aaC hd;rw[<-hd];show(G',.refl _ _ _,r',GU _)
   .let N2:H' a=!(u a):=(r'.fK k a _ (l.get C2) aS).2;rw[aae]at hd;show(by rw[Nz];show N2,())
  rw[s_]at h1;show uE aB r2 ((n.mono e1).mono e2) yl hD (by rw[aae];show hz) h1 fun G3 L3 M3 H3 ds vs e3 r3 g3 l3 YL n3 (hm,hq)=>?_;let Tz:=e3.l.get C2;let XY:H3 a=!(u a):=(r3.fK k a _ Tz hm).2;show(a,ks.zip (is.map V.int),ep,by rw[Nz];show XY,?_);let ne:D≠a:=λz=>by rw[z,XY,<-Nz]at YL;cases YL
  show Fin.back (e1.trans e2) (GG (e3.trans (r3.Hj Tz)) (r3.setM (m:=.c_ ks (is.map Dt.int)) Tz (is.map V.int,av,by rw[aae];show hl,oW is)) hD g3 l3 (by rw[Ρ ne];show YL) n3 hq)
end
def P9(K:fI):List Dt->Ms->DQ->Prop:=λds M q=>∃k c ks es t' b,ds=[.loc k,c]/\M[k]? =!(.c_ ks es)/\R3 c=!t'/\PySem.W.kitOne K (.type "dict") t'=!b/\q (.bl b) M
def UZ{K:fI}:EC K (λxs H Q=>∃x c t t' b,xs=[x,c]/\lx K H x t/\Mc c=!t'/\PySem.W.kitOne K t t'=!b/\Q (.bl b) H) (P9 K):=by intro G0 L0 H0 G L M H vs ds q e r n ⟨k,c,ks,es,t',b,ed,h1,h2,hb,h⟩;subst ed;let(v,u,rfl,n1,n2):=gJ n;let(a,rfl,ka):=n1;let(_,vs,e1,_):=r.fK k a _ ka h1;show(_,u,_,t',b,rfl,.dK e1,Gz n2 h2,hb,bw e r h)
section
variable{e2:Expr}
def Q_(K:fI)(hm:X.mg "isinstance"=none)(ha:JA X R [e,e2] t)(he:starEach [e,e2] X.env=(false, eval e X.env)::starEach [e2] X.env|>1)(f_:(backTo pos (starEach [e2] X.env)).any (·.1)=false|>1)(hg:Gl X "isinstance"|>1)(hK:X.K=K|>1):JE X R (.Call (.Name "isinstance" p) [e,e2] [] pos) (C4 (P9 K) t):=by subst hK;show g9 rR UZ hm jQ ha hg @_ @_ he f_
end
section
variable{K:Type} [DecidableEq K]{knd:KeyKind prog w K}{b:Addr}{Κ dZ:List (K×Value)}
def uy(ha:s.heap.DictOf knd a Κ)(hb:s.heap.DictOf knd b dZ)(hu:A.units < cLine)(h:∀{E:Value->Shared->Prop} {Q:Bool->Shared->Prop},Q c s->wpAny (model prog w) A.in1 (Builtin.Dict.samePairs (toString "dict."++toString "__ne__") a b) Q E s)(q:Q (.bool (! c)) s):wpAny (model prog w) A (richCompare .NotEq (.ref a) (.ref b)) Q E s:=by
 show wpAny_richCompare_same_room ha.typeIs hb.typeIs F.slot_dict_ne (wpAny_call_entry F.slot_dict_ne ha.typeIs F.entry_dict_ne ?_ (F.args_dict_ne_2 _ _)) hu;change wpAny _ _ (Builtin.Dict.dictSlotArgs "__ne__" ([.ref a,.ref b],[]) >>= _) _ _ s;show aaw ?_;unfold Builtin.Dict.dictSlotArgs;show aaw (wpAny_notOrdered_dict ha.typeIs ?_);show aaw (m:=slotArgs "__ne__" 1 _) (abt ?_);show abt ?_;show aaw (wpAny_isInstance hb.typeIs isSubtype_dict_dict ?_);rw[aa3 @_];show aaw (abt (aaw (abt (aaw (h ?_)))));let e:(c==false)= ! c:=by cases c <;> rfl
 show abt (Value.bool (c==false),rfl,(nofun,?_));rw[e];show q
end
def P_(n:Nat):R2:=λx y H Q=>∃a b c,x= .ref a/\y= .ref b/\we H n x y c/\Q (.bl (! c)) H
def OT(hu:X.A.units+n < cLine):jM X (compareOp .NotEq) (P_ n):=by
 intro η s σ H x y v u Q I rx ry h;let(a,b,c,rfl,rfl,h,q):=h;cases rx;cases ry;cases h with
 | flat h1 h2=>cases h1
 | @c_ n _ _ Κ dZ f h1 h2 hl hn h=>
  let(_,z1,vs,r1,d1):=eA I.aS h1;let(_,z2,x9,r2,d2):=eA I.aS h2;rw[-r1]at q;change wpAny _ _ (richCompare .NotEq _ _) _ _ s;show uy d1 d2 () (λhq=>pR d1 d2 z1 z2 (by rw[<--r1,<--r2];show hl) (e:=f) (λj k u hj=>?_) hq) (.bl _,H,I,rfl,q);let(v,hv,rv):=yM r1 hj;rcases yZ r2 k with ⟨q1,q2⟩| ⟨v',u',q1,q2,q3⟩
  .show .inl (q2,hn j k v hv q1)
  .show .inr (u',q2,J0 I (h j k v v' hv q1) rv q3 (by change X.A.units+1+n < cLine;omega))
 | @len n _ _ Κ dZ h1 h2 hl=>
  let(_,z1,vs,r1,d1):=eA I.aS h1;let(_,z2,x9,r2,d2):=eA I.aS h2;change wpAny _ _ (richCompare .NotEq _ _) _ _ s;show uy d1 d2 () (λhq=>mF d1 d2 z1 z2 (by rw[<--r1,<--r2];show hl) hq) (.bl _,H,I,rfl,q)
def V0(n:Nat):Dt->Dt->Ms->DQ->Prop:=λd e M q=>∃k1 k2 c,d= .loc k1/\e= .loc k2/\JH M n d e c/\q (.bl (! c)) M
def aaS{K:fI}:mO K (P_ n) (V0 n):=by intro G0 L0 H0 G L M H v1 v2 d1 d2 q e r n1 n2 ⟨k1,k2,c,e1,e2,h,hq⟩;have:=QM r h n1 n2;subst e1 e2;let(a,rfl,_):=n1;let(b,rfl,_):=n2;show(a,b,c,rfl,rfl,this,bw e r hq)
section
variable{a b:Expr}
def JZ(n:Nat)(hr:bI k' X.A)(ja:JE X R a ta)(jb:JE X R b tb)(hn:n<=64|>2)(hm:behindInMarks .NotEq b=false|>1):JT X R (.Compare a [.NotEq] [b] pos) (kM (ju (V0 n) ta tb)):=fm (OT (KY hr hn)) aaS ja jb hm
end
section
variable{CX:BR}{k:Nat}{ks:List Str}{sp:Sp}{Jz:List Keyword}{t tk:TA}{g:List Value->List Value->List Value}{gV:List V->List V->List V}
def OZ(sp:Sp)(gV:List V->List V->List V)(R:St->XK)(t tk:TA):TE:=λσ H Q=>t σ H λvs H1=>tk σ H1 λzs H2=>sp (gV vs zs) H2 Q (R σ)
def Je(F:ao X.prog X.w X.K X.mg X.base CX k f fd ps sp)(hr:bI k X.A)(hg:Gl X x)(hm:X.mg x=!(.ref f))(hk:PySem.W.keepIn X.K (.ref f)=true)(hb:Ek X.K fd ps ks g gV)(hx:cM CX X R)
  (ha:PA X (e::es) t) (hkw:PK X Jz tk) (sC:(backToKw pos (keywordEach Jz X.env)).all (·.1.isSome)=true) (hks:(backToKw pos (keywordEach Jz X.env)).filterMap (·.1)=ks)
  (mw:(x==("__debug__":Str))=false) (he:starEach (e::es) X.env=(false, eval e X.env)::starEach es X.env)
  (f_:((backTo pos (starEach (e::es) X.env)).any (·.1)|| (backToKw pos (keywordEach Jz X.env)).any (·.1.isNone))=false):
  PE X (.Call (.Name x p) (e::es) Jz pos) (OZ sp gV R t tk):=by
 intro η s σ H Q I h;show wpAny_Call_Name_kw (oX I hg hm ?_ mw);show PySem.W.callWith_KW (h₀:=X.base) I.ok.mod.T' hk sC (bG (ha pos η s σ H _ I h) λus s1 xz=>?_) f_ he;let(vs,H1,I1,r,q):=xz;show bG (hkw pos η s1 σ H1 _ I1 q) fun ws s2 (zs,H2,I2,rz,q2)=>(I2.pU,?_);rw[hks];let r2:=hb.rel r rz;let hl:-(g us ws)=-ps:=by rw[<--r2];show F.len _ _ _ _ q2
 show wpAny_call (codeAny_mono (F.run X.A X.stack s2 H2 (us,ks.zip ws) (g us ws) (gV vs zs) Q (R σ) hr I2.TY (hb.to s2 us ws I2.pU hl) r2 q2) λr s' hq=>?_);cases r with
 | error e=>show hx η σ H2 s2 e s' I2 hq
 | ok fl=>
  cases fl with
  | ret u=>show I2.after hq
  | next=>show False.elim hq
  | brk=>show False.elim hq
  | cont=>show False.elim hq
end
noncomputable def CD{α:Type}(n:Nat)(mid tail:List α)(us ws:List α):List α:=if -us=n/\-ws=1 then us++mid++ws++tail else []
structure D7(P:Program)(w:World)(K:fI)(mg:Str->Option Value)(base:Heap)(k:Nat)(x:Str)(ps:List Str)(T:DF)(n:Nat)(nm:Str)(mid tail:List Dt)(f:Addr)(fd:FuncData):Prop where
 ok:ao P w K mg base (bO P w) k f fd ps (b8 K T)
 b:∃(mV tV:List V) (ms ts:List Value),Ek K fd ps [nm] (CD n ms ts) (CD n mV tV)/\∀G L,Τ K G L mid mV/\Τ K G L tail tV
 m:mg x=!(.ref f)
 kp:PySem.W.keepIn K (.ref f)=true
def B2.Dh{K:fI}{nm:Str}(F:B2 K x st U its f fd)(hn:ps≠[])(v1:aC mV ms)(v2:aC tV ts)
  (h:∀(kV doc pm:Value) (an:Option Addr) (aQ ct:Value) (us:List Value) (w:Value),-us=n->∃k,bindArgs (PySem.W.fnOf x x (gs st) (dY st) (τ st) (.ref U) kV doc pm an aQ ct) (us,[(nm, w)])=(seqItems? (.ref U) >>= k)/\k (!its)=pure (ps.zip (us++ms++[w]++ts))):Ek K fd ps [nm] (CD n ms ts) (CD n mV tV):=by
 let(oc,od,kV,doc,pm,an,aQ,ct,B4,rfl,lk,D1):=F.ex;let(o,m,l,e):=F.tup;show(λs us ws hK hl=>?_,λ{vs us zs ws} r rz=>?_)
 .unfold CD at hl⊢;by_cases c:-us=n/\-ws=1
  .rw[aa0 c];let(w,rfl):=List.length_eq_one_iff.mp c.2;let(k,h1,h2):=h kV doc pm an aQ ct us w c.1;show BindsTo.of_defaults rfl (hK _ _ l) e h1 h2
  .rw[aa3 c]at hl;show abe (ace.mp hl.symm) hn
 .unfold CD;rw[-r,-rz];by_cases c:-us=n/\-ws=1
  .rw[aa0 c,aa0 c];show((r.append v1).append rz).append v2
  .rw[aa3 c,aa3 c];show .nil
def RP(T:DF)(n:Nat)(mid tail:List Dt)(t:DA)(tv:DE):DE:=λρ M q x=>t ρ M (λds M1=>tv ρ M1 (λd M2=>-ds=n/\T (ds++mid++[d]++tail) M2 q (λC fs M'=>x ρ C fs M')) x) x
section
variable{T:DF}{k nn:Nat}{mid tail:List Dt}{nm:Str}{Ds:Pos}{ev:Expr}{tv:DE}
def J7(C:D7 X.prog X.w X.K X.mg X.base k x ps T nn nm mid tail f fd)(hr:bI k' X.A)(hx:cM (bO X.prog X.w) X R)(ha:JA X R (e::es) t)(hv:JE X R ev tv)(hk:k<=k'|>2)(hg:Gl X x|>1)(mw:(x==("__debug__":Str))=false|>2)
  (he:starEach (e::es) X.env=(false, eval e X.env)::starEach es X.env|>1) (sC:(backToKw pos (keywordEach [(!nm,ev,Ds)] X.env)).all (·.1.isSome)=true|>1) (hks:(backToKw pos (keywordEach [(!nm,ev,Ds)] X.env)).filterMap (·.1)=[nm]|>1)
  (f_:((backTo pos (starEach (e::es) X.env)).any (·.1)|| (backToKw pos (keywordEach [(!nm,ev,Ds)] X.env)).any (·.1.isNone))=false|>1):JE X R (.Call (.Name x p) (e::es) [(!nm,ev,Ds)] pos) (RP T nn mid tail t tv):=by
 let(mV,tV,ms,ts,hb,hd):=C.b;show .of (Je C.ok (hr.mono hk) hg C.m C.kp hb hx ha (OR hv Tr) sC hks mw he f_) λσ H G L ρ M q x rl n h hx=>?_;show(G,L,ρ,M,_,x,rl,n,h,hx,λvs H1 xz=>?_);let(ds,G1,L1,M1,e1,r1,n1,h1):=xz;show(G1,L1,ρ,M1,_,x,r1,n.mono e1,h1,hx.on e1,λv H2 xz=>?_);let(d,G2,L2,M2,e2,r2,n2,hl,h2):=xz;let n1:=Τ.mono e2.g e2.l _ _ n1;let el:CD nn mV tV vs [v]=vs++mV++[v]++tV:=aa0 (by rw[<--n1];show hl,rfl);change b8 _ _ (CD nn mV tV vs [v]) H2 _ _;rw[el];let n3:Τ X.K G2 L2 [d] [v]:=(_,_,rfl,n2,rfl);show(G2,L2,ds++mid++[d]++tail,M2,q,_,r2,lI (lI (lI n1 (hd G2 L2).1) n3) (hd G2 L2).2,h2,λv H' f=>Fin.back (e1.trans e2) f,λC fs M' G' L' H' od hq e' r' y=>hx σ ρ C fs M' G' L' H' od hq ((e1.trans e2).trans e') r' (n.mono ((e1.trans e2).trans e')) y)
end
end L2
namespace Fr0
variable{b t:Int}
def g(a b:Int):Int:=(Int.gcd a b:Nat)
def AQ(h:b≠0):0 < g a b:=by have:=Int.gcd_pos_of_ne_zero_right a h;unfold g;omega
def J8{a:Int}(h:0<=a):g a 0=a:=by unfold g;rw[Int.gcd_zero_right];omega
def Kd{a:Int}(hb:0 < b):g b (a.fmod b)=g a b:=by
 unfold g;rw[acK a (aar hb),Int.gcd_comm a b]
 congr 1
 show Int.gcd_right_eq_iff.mpr λc hc=>?_;rw[Int.emod_def];constructor
 .intro h;have:=Int.dvd_add h (Int.dvd_mul_of_dvd_left (c:=a / b) hc);rwa[Int.sub_add_cancel]at this
 .intro h;show Int.dvd_sub h (Int.dvd_mul_of_dvd_left (c:=a / b) hc)
def P5(a b:Int):g (if a < 0 then - a else a) (if b < 0 then - b else b)=g a b:=by unfold g;split <;> split <;> simp
noncomputable def dv(t b:Int):Int:=if b < 0 then - (g t b) else g t b
def aD(t b:Int):Int×Int:=(t.fdiv (dv t b), b.fdiv (dv t b))
def FR(h:b≠0):dv t b≠0:=by have:=AQ (a:=t) h;unfold dv;split <;> omega
def CA{k p:Int}(h:k≠0):(k * p).fdiv k=p:=by rw[abV];show Int.mul_fdiv_cancel p h
def MS(h:b≠0):∃p q:Int,t=dv t b * p/\b=dv t b * q/\0 < q/\Int.gcd p q=1:=by
 let hg:=AQ (a:=t) h;let h0:0 < Int.gcd t b:=Int.gcd_pos_of_ne_zero_right t h;let(p,hp):=Int.gcd_dvd_left t b;let(q,hq):=Int.gcd_dvd_right t b;let hc:Int.gcd p q=1:=by
  let e:=Int.gcd_ediv_gcd_ediv_gcd h0;let n0:(Int.gcd t b:Int)≠0:=()
  let e1:t / (Int.gcd t b:Int)=p:=by
   conv=>lhs;arg 1;rw[hp]
   show ack p n0
  let e2:b / (Int.gcd t b:Int)=q:=by
   conv=>lhs;arg 1;rw[hq]
   show ack q n0
  rwa[e1,e2]at e
 let Ap:t=g t b * p:=hp;let w8:b=g t b * q:=hq;by_cases hb:b < 0
 .let hd:dv t b= - (g t b):=by unfold dv;rw[if_pos hb]
  show(- p,- q,?_,?_,?_,?_)
  .rw[hd,Int.neg_mul_neg];show Ap
  .rw[hd,Int.neg_mul_neg];show w8
  .have:g t b * q < 0:=by rw[<-w8];show hb
   by_cases q0:0<=q
   .show abe (ab7 (aar hg) q0) ()
   .omega
  .simpa using hc
 .let hd:dv t b=g t b:=by unfold dv;rw[if_neg hb]
  show(p,q,by rw[hd];show Ap,by rw[hd];show w8,?_,hc);have:0 < g t b * q:=by rw[<-w8];omega
  show Int.pos_of_mul_pos_right this hg
def h9  (h : b ≠ 0) : ∃p q : Int,aD t b = (p, q) /\ 0 < q /\ Int.gcd p q = 1 /\ t = dv t b * p /\ b = dv t b * q :=by
  obtain⟨p,q,hp,hq,h0,hc⟩ :=MS (t :=t) h;let n0 :=FR (t :=t) h;show(p,q,?_,h0,hc,hp,hq);unfold aD
  have e1 : t.fdiv (dv t b) = p := by conv => lhs; arg 1; rw [hp]
                                      show CA n0
  have e2 : b.fdiv (dv t b) = q := by conv => lhs; arg 1; rw [hq]
                                      show CA n0
  rw[e1,e2]
def cE(h:b≠0):t * (aD t b).2=b * (aD t b).1:=by
 let(p,q,e,_,_,hp,hq):=h9 (t:=t) h;rw[e];change t * q=b * p
 calc t * q=dv t b * p * q:=by rw[<-hp]
  _=dv t b * q * p:=by rw[adn,abV p q,<-adn]
  _=b * p:=by rw[<-hq]
def cY(h:b≠0):0 < (aD t b).2:=by let(p,q,e,h0,_):=h9 (t:=t) h;rw[e];show h0
def Ca(h:b≠0):Int.gcd (aD t b).1 (aD t b).2=1:=by let(p,q,e,_,hc,_):=h9 (t:=t) h;rw[e];show hc
def se{k m n:Int}(h:k∣m * n)(hc:Int.gcd k m=1):k∣n:=by have:=(Int.dvd_gcd_mul_iff_dvd_mul (k:=k) (n:=m) (m:=n)).mpr h;rw[hc]at this;simpa using this
def EF{q q':Int}(hq:0 < q)(w8:0 < q')(h:Int.gcd p q=1)(h':Int.gcd p' q'=1)(e:p * q'=p' * q):p=p'/\q=q':=by
 let d1:q∣q':=by have:q∣p * q':=(p',by rw[e,abV]);show se this (by rw[Int.gcd_comm];show h)
 let d2:q'∣q:=by have:q'∣p' * q:=(p,by rw[<-e,abV]);show se this (by rw[Int.gcd_comm];show h')
 let eq:q=q':=Int.le_antisymm (ac1 w8 d1) (ac1 hq d2);subst eq;show(Int.eq_of_mul_eq_mul_right () e,rfl)
def yX{q:Int}(h:b≠0)(hq:0 < q)(hc:Int.gcd p q=1)(e:t * q=b * p):aD t b=(p, q):=by
 let h1:=cE (t:=t) h;let h2:=cY (t:=t) h;let h3:=Ca (t:=t) h;let h4:(aD t b).1 * q=p * (aD t b).2:=by
  have:b * ((aD t b).1 * q)=b * (p * (aD t b).2):=by rw[<-adn,<-h1,Int.mul_right_comm,e,adn]
  show abI h this
 have:=EF h2 hq h3 hc h4;show Prod.ext this.1 this.2
def xp{q:Int}(hq:0 < q)(hc:Int.gcd p q=1):aD p q=(p, q):=yX () hq hc (abV _ _)
def Af(h:b≠0):(dv t b).natAbs<=b.natAbs:=by
 let e:(dv t b).natAbs=Int.gcd t b:=by unfold dv g;split <;> omega
 rw[e];show Int.gcd_le_natAbs_right t h
def uX  (h : b ≠ 0) : (aD t b).1.natAbs <= t.natAbs :=by
  obtain⟨p,q,e,_,_,hp,_⟩ :=h9 (t :=t) h;let n0 :=FR (t :=t) h;rw[e];change p.natAbs <= t.natAbs
  have : t.natAbs = (dv t b).natAbs * p.natAbs := by conv => lhs; rw [hp]
                                                     show ab4 _ _
  rw[this];show Nat.le_mul_of_pos_left _ ()
def kT  (h : b ≠ 0) : (aD t b).2.natAbs <= b.natAbs :=by
  obtain⟨p,q,e,_,_,_,hq⟩ :=h9 (t :=t) h;let n0 :=FR (t :=t) h;rw[e];change q.natAbs <= b.natAbs
  have : b.natAbs = (dv t b).natAbs * q.natAbs := by conv => lhs; rw [hq]
                                                     show ab4 _ _
  rw[this];show Nat.le_mul_of_pos_left _ ()
def NM(h:0 < b):aD t b=(t.fdiv (g t b), b.fdiv (g t b)):=by unfold aD dv;rw[aa3 ()]
end Fr0
namespace Tx
open PySem PySem.NumText
end Tx
namespace Bz
variable{f:Nat->Int}{n i a m:Nat}{ο ρ:List Nat}{d B:Int}
abbrev Row:=Nat->Int
variable{γ:List Row}{A W:Nat->Row}{w:Row}
set_option tactic.hygienic false
abbrev Fn:=List Nat->Int
noncomputable def Lx(x:Row):Fn->Fn
 | _,[]=>0
 | F,c::cs=>x c * F cs - Lx x (λt=>F (c::t)) cs
def D'(x:Row):∀(cs:List Nat) (F G:Fn),Lx x (λt=>F t+G t) cs=Lx x F cs+Lx x G cs
 | [],F,G=>by simp[Lx]
 | c::cs,F,G=>by have:=D' x cs (λt=>F (c::t)) (λt=>G (c::t));simp only[Lx];rw[this];grind
def nU(x:Row)(k:Int):∀(cs:List Nat) (F:Fn),Lx x (λt=>k * F t) cs=k * Lx x F cs
 | [],F=>by simp[Lx]
 | c::cs,F=>by have:=nU x k cs (λt=>F (c::t));simp only[Lx];rw[this];grind
def LA(x:Row)(cs:List Nat)(F G:Fn):Lx x (λt=>F t - G t) cs=Lx x F cs - Lx x G cs:=by
 let h1:=D' x cs F (λt=>(- 1) * G t);let h2:=nU x (- 1) cs G;let e:(λt=>F t - G t)=λt=>F t+(- 1) * G t:=by funext t;grind
 rw[e,h1,h2];grind
def FC(x:Row):∀(cs:List Nat),Lx x (λ_=>0) cs=0
 | []=>rfl
 | c::cs=>by simp only[Lx];rw[FC x cs];simp
def yO(x y:Row):∀(cs:List Nat) (F:Fn),Lx x (Lx y F) cs= - Lx y (Lx x F) cs
 | [],F=>rfl
 | c::cs,F=>by let ih:=yO x y cs (λt=>F (c::t));let e1:(λt=>Lx y F (c::t))=λt=>y c * F t - Lx y (λu=>F (c::u)) t:=rfl;let e2:(λt=>Lx x F (c::t))=λt=>x c * F t - Lx x (λu=>F (c::u)) t:=rfl;change x c * Lx y F cs - Lx x (λt=>Lx y F (c::t)) cs= - (y c * Lx x F cs - Lx y (λt=>Lx x F (c::t)) cs);rw[e1,e2,LA,LA,nU,nU,ih];grind
def OO(x:Row)(cs:List Nat)(F:Fn):Lx x (Lx x F) cs=0:=by have:=yO x x cs F;omega
def Ao(x:Row)(d:Nat):∀(cs:List Nat) (F:Fn),Lx x F (cs++[d])=Lx x (λt=>F (t++[d])) cs+(- 1) ^ (-cs) * (x d * F cs)
 | [],F=>by simp[Lx]
 | c::cs,F=>by have:=Ao x d cs (λt=>F (c::t));change x c * F (cs++[d]) - Lx x (λt=>F (c::t)) (cs++[d])=_;rw[this];change _=(x c * F (cs++[d]) - Lx x (λt=>F (c::(t++[d]))) cs)+(- 1) ^ (-cs+1) * (x d * F (c::cs));let e:(λt=>F (c::(t++[d])))=λt=>(λu=>F (c::u)) (t++[d]):=rfl;rw[e,acM];grind
def Cb(x:Row){F G:Fn}{n:Nat}:∀(cs:List Nat),(∀t,-t+1=-cs->F t=G t)->Lx x F cs=Lx x G cs:=by
 intro cs
 induction cs generalizing F G with
 | nil=>intro _;rfl
 | cons c cs ih=>
  intro h;simp only[Lx];rw[h cs (by simp),ih (F:=λt=>F (c::t)) (G:=λt=>G (c::t)) λt ht=>h (c::t) (by simp;omega)]
noncomputable def Ζ(f:Nat->Int):Nat->Int
 | 0=>0
 | n+1=>Ζ f n+f n
def iK(f g:Nat->Int):∀n,Ζ (λi=>f i+g i) n=Ζ f n+Ζ g n
 | 0=>rfl
 | n+1=>by simp only[Ζ];rw[iK f g n];omega
def Χ(k:Int)(f:Nat->Int):∀n,Ζ (λi=>k * f i) n=k * Ζ f n
 | 0=>by simp[Ζ]
 | n+1=>by simp only[Ζ];rw[Χ k f n,Int.mul_add]
def Α{f g:Nat->Int}:∀{n:Nat},(∀i,i < n->f i=g i)->Ζ f n=Ζ g n
 | 0,_=>rfl
 | n+1,h=>by simp only[Ζ];rw[Α λi hi=>h i (),h n ()]
def jR(h:∀i,i < n->f i=0):Ζ f n=0:=by
 rw[Α h];clear h
 induction n with
 | zero=>rfl
 | succ n ih=>simp only[Ζ];rw[ih];rfl
def jz{j:Nat}(hj:j < n)(h:∀i,i < n->i≠j->f i=0):Ζ f n=f j:=by
 induction n with
 | zero=>omega
 | succ n ih=>
  simp only[Ζ];by_cases e:j=n
  .subst e;rw[jR λi hi=>h i () ()];omega
  .rw[ih () λi hi l7=>h i () l7,h n () ()];omega
def mZ(f:Nat->Int):∀n,Ζ f (n+1)=f 0+Ζ (λi=>f (i+1)) n
 | 0=>by simp[Ζ]
 | n+1=>by have:=mZ f n;rw[show Ζ f (n+1+1)=Ζ f (n+1)+f (n+1) from rfl,this];simp only[Ζ];omega
def d7(f:Nat->Nat->Int)(m:Nat):∀n,Ζ (λi=>Ζ (f i) m) n=Ζ (λj=>Ζ (λi=>f i j) n) m
 | 0=>by rw[show Ζ (λi=>Ζ (f i) m) 0=0 from rfl];show(jR λ_ _=>rfl).symm
 | n+1=>by rw[show Ζ (λi=>Ζ (f i) m) (n+1)=Ζ (λi=>Ζ (f i) m) n+Ζ (f n) m from rfl,d7 f m n,<-iK];rfl
def yz(x:Row):∀(cs:List Nat) (F:Fn),Lx x F cs=Ζ (λp=>(- 1) ^ p * (x (cs.getD p 0) * F (cs.eraseIdx p))) (-cs)
 | [],F=>rfl
 | c::cs,F=>by
  let ih:=yz x cs (λt=>F (c::t));change x c * F cs - Lx x (λt=>F (c::t)) cs=_;rw[aaN,mZ,ih];let e:Ζ (λp=>(- 1) ^ (p+1) * (x ((c::cs).getD (p+1) 0) * F ((c::cs).eraseIdx (p+1)))) (-cs)= - 1 * Ζ (λp=>(- 1) ^ p * (x (cs.getD p 0) * F (c::cs.eraseIdx p))) (-cs):=by rw[<-Χ];show Α λp _=>?_;simp only[List.getD_cons_succ,List.eraseIdx_cons_succ];rw[Int.pow_succ];grind
  rw[e];simp only[List.getD_cons_zero,List.eraseIdx_cons_zero,Int.pow_zero];omega
noncomputable def F0:Fn:=λcs=>if cs=[] then 1 else 0
def D:List Row->Fn
 | []=>F0
 | x::xs=>Lx x (D xs)
def oJ(y:Row):∀(xs ys:List Row) (cs:List Nat),D (xs++y::ys) cs=(- 1) ^ (-xs) * D (y::(xs++ys)) cs
 | [],ys,cs=>by simp
 | x::xs,ys,cs=>by
  change Lx x (D (xs++y::ys)) cs=_;let e:D (xs++y::ys)=λt=>(- 1) ^ (-xs) * D (y::(xs++ys)) t:=by funext t;show oJ y xs ys t
  rw[e,nU];change(- 1) ^ (-xs) * Lx x (Lx y (D (xs++ys))) cs=(- 1) ^ (-xs+1) * Lx y (Lx x (D (xs++ys))) cs;rw[yO x y,Int.pow_succ];grind
def Xg(y:Row)(xs ys zs:List Row)(cs:List Nat):D (xs++y::(ys++y::zs)) cs=0:=by
 rw[oJ];let e:D (y::(xs++(ys++y::zs))) cs=Lx y (λt=>D (xs++(ys++y::zs)) t) cs:=rfl;let e2:(λt=>D (xs++(ys++y::zs)) t)=λt=>(- 1) ^ (-(xs++ys)) * Lx y (D (xs++ys++zs)) t:=by
  funext t
  rw[<-abv,oJ];rfl
 rw[e,e2,nU,OO];simp
noncomputable def fM(γ:List Row)(ο:List Nat)(p k:Nat):Int:=(- 1) ^ (p+k) * D (γ.eraseIdx k) (ο.eraseIdx p)
def zr:Row:=λ_=>0
def SS(n:Nat):((- 1:Int) ^ n) * (- 1) ^ n=1:=by
 induction n with
 | zero=>rfl
 | succ n ih=>rw[Int.pow_succ];grind
def MK{α:Type}:∀{l:List α} {k:Nat} (h:k < -l),l=l.take k++l[k]::l.drop (k+1):=by intro l k h;rw[List.getElem_cons_drop,List.take_append_drop]
def Jw{α:Type}{l:List α}{k:Nat}(hi:i < -l)(l7:i≠k):l[i]∈l.eraseIdx k:=by rw[List.mem_eraseIdx_iff_getElem];show(i,hi,l7,rfl)
def PA{k:Nat}(hl:-ο=-γ)(hi:i < -γ)(hk:k < -γ):Ζ (λp=>γ.getD i zr (ο.getD p 0) * fM γ ο p k) (-γ)=if i=k then D γ ο else 0:=by
 let gi:γ.getD i zr=γ[i]:=by rw[aab,aaa hi];rfl
 let e:Ζ (λp=>γ.getD i zr (ο.getD p 0) * fM γ ο p k) (-γ)=(- 1) ^ k * D (γ.getD i zr::γ.eraseIdx k) ο:=by change _=(- 1) ^ k * Lx (γ.getD i zr) (D (γ.eraseIdx k)) ο;rw[yz,<-Χ,hl];show Α λp _=>?_;unfold fM;rw[Int.pow_add];grind
 rw[e,gi];by_cases h:i=k
 .subst h;rw[aa0 rfl];let s:=MK hi;let f:=oJ γ[i] (γ.take i) (γ.drop (i+1)) ο;rw[<-s,ac9,adl ()]at f;rw[f,List.eraseIdx_eq_take_drop_succ]
 .rw[aa3 h];let(ys,zs,e2):=List.append_of_mem (Jw hi h);rw[e2];have:=Xg γ[i] [] ys zs ο;rw[show D (γ[i]::(ys++γ[i]::zs)) ο=0 from this];simp
def zV(x:Row)(g:Nat->Int)(F:Nat->Fn)(cs:List Nat):∀n,Lx x (λt=>Ζ (λk=>g k * F k t) n) cs=Ζ (λk=>g k * Lx x (F k) cs) n
 | 0=>FC x cs
 | n+1=>by have:=D' x cs (λt=>Ζ (λk=>g k * F k t) n) (λt=>g n * F n t);change Lx x (λt=>Ζ (λk=>g k * F k t) n+g n * F n t) cs=_;rw[this,zV x g F cs n,nU];rfl
def Qp(c:Nat):∀(γ:List Row) (t:List Nat),D γ (t++[c])=Ζ (λk=>(- 1) ^ (-t+k) * (γ.getD k zr c * D (γ.eraseIdx k) t)) (-γ)
 | [],t=>by change F0 (t++[c])=0;unfold F0;simp
 | x::xs,t=>by
  change Lx x (D xs) (t++[c])=_;rw[Ao,aaN,mZ];let e:Lx x (λu=>D xs (u++[c])) t=Ζ (λk=>(- 1) ^ (-t+(k+1)) * ((x::xs).getD (k+1) zr c * D ((x::xs).eraseIdx (k+1)) t)) (-xs):=by
   let e1:Lx x (λu=>D xs (u++[c])) t=Lx x (λu=>Ζ (λk=>((- 1) ^ (-t+(k+1)) * xs.getD k zr c) * D (xs.eraseIdx k) u) (-xs)) t:=by show Cb x (n:=0) t λu hu=>?_;rw[Qp c xs u];show Α λk _=>?_;rw[<-hu,show -u+1+(k+1)=-u+k+1+1 by omega,Int.pow_succ,Int.pow_succ];grind
   rw[e1,zV x (λk=>(- 1) ^ (-t+(k+1)) * xs.getD k zr c) (λk=>D (xs.eraseIdx k))];show Α λk _=>?_;simp only[List.getD_cons_succ,List.eraseIdx_cons_succ];change _=(- 1) ^ (-t+(k+1)) * (xs.getD k zr c * Lx x (D (xs.eraseIdx k)) t);grind
  rw[e];simp only[List.getD_cons_zero,List.eraseIdx_cons_zero,Nat.add_zero];omega
def J3{y:Row}{c:Nat}(hl:-ο=-γ):D (γ++[y]) (ο++[c])=y c * D γ ο - Ζ (λp=>y (ο.getD p 0) * Ζ (λk=>fM γ ο p k * γ.getD k zr c) (-γ)) (-γ):=by
 rw[oJ,abw];change(- 1) ^ (-γ) * Lx y (D γ) (ο++[c])=_;rw[Ao];let e1:Lx y (λt=>D γ (t++[c])) ο= - ((- 1) ^ (-γ) * Ζ (λp=>y (ο.getD p 0) * Ζ (λk=>fM γ ο p k * γ.getD k zr c) (-γ)) (-γ)):=by
  let e2:Lx y (λt=>D γ (t++[c])) ο=Lx y (λt=>Ζ (λk=>(- ((- 1) ^ (-γ+k) * γ.getD k zr c)) * D (γ.eraseIdx k) t) (-γ)) ο:=by show Cb y (n:=0) ο λt ht=>?_;rw[Qp c γ t];show Α λk _=>?_;rw[<-hl,<-ht,show -t+1+k=-t+k+1 by omega,Int.pow_succ];grind
  rw[e2,zV y (λk=> - ((- 1) ^ (-γ+k) * γ.getD k zr c)) (λk=>D (γ.eraseIdx k))];let e3:Ζ (λk=> - ((- 1) ^ (-γ+k) * γ.getD k zr c) * Lx y (D (γ.eraseIdx k)) ο) (-γ)=Ζ (λk=>Ζ (λp=> - ((- 1) ^ (-γ)) * (y (ο.getD p 0) * (fM γ ο p k * γ.getD k zr c))) (-γ)) (-γ):=by show Α λk _=>?_;rw[yz,<-Χ,hl];show Α λp _=>?_;unfold fM;rw[Int.pow_add,Int.pow_add];grind
  rw[e3,d7];let e4:Ζ (λp=>Ζ (λk=> - ((- 1) ^ (-γ)) * (y (ο.getD p 0) * (fM γ ο p k * γ.getD k zr c))) (-γ)) (-γ)=Ζ (λp=> - ((- 1) ^ (-γ)) * (y (ο.getD p 0) * Ζ (λk=>fM γ ο p k * γ.getD k zr c) (-γ))) (-γ):=by show Α λp _=>?_;rw[Χ,Χ]
  rw[e4,Χ];grind
 rw[e1,hl];let s:=SS (-γ);generalize ((- 1:Int) ^ (-γ))=z at *
 generalize Ζ _ (-γ)=q;grind
def Lb{v:Nat->Int}{e:Int}{k:Nat}(hl:-ο=-γ)(hi:i < -γ)(hk:k < -γ)
  (h:∀p,p < -γ->Ζ (λj=>v j * γ.getD j zr (ο.getD p 0)) (-γ)=if i=p then e else 0):v k * D γ ο=e * fM γ ο i k:=by
 let a:Ζ (λp=>Ζ (λj=>v j * γ.getD j zr (ο.getD p 0)) (-γ) * fM γ ο p k) (-γ)=e * fM γ ο i k:=by rw[jz hi λp hp l7=>by rw[h p hp,if_neg (Ne.symm l7)];simp];rw[h i hi,aa0 rfl]
 let b:Ζ (λp=>Ζ (λj=>v j * γ.getD j zr (ο.getD p 0)) (-γ) * fM γ ο p k) (-γ)=Ζ (λj=>v j * Ζ (λp=>γ.getD j zr (ο.getD p 0) * fM γ ο p k) (-γ)) (-γ):=by
  let e1:Ζ (λp=>Ζ (λj=>v j * γ.getD j zr (ο.getD p 0)) (-γ) * fM γ ο p k) (-γ)=Ζ (λp=>Ζ (λj=>v j * (γ.getD j zr (ο.getD p 0) * fM γ ο p k)) (-γ)) (-γ):=by show Α λp _=>?_;rw[abV,<-Χ];show Α λj _=>?_;grind
  rw[e1,d7];show Α λj _=>?_;rw[<-Χ]
 rw[<-a,b,jz hk λj hj l7=>by rw[PA hl hj hk,if_neg l7];simp];rw[PA hl hk hk,aa0 rfl]
noncomputable def ind(a k:Nat):Int:=if a=k then 1 else 0
noncomputable def rv(A:Nat->Row)(n:Nat)(w:Row)(x:Nat):Int:=Ζ (λk=>w k * A k x) n
def pG(h:a < n):Ζ (λk=>ind a k * f k) n=f a:=by rw[jz h λi _ l7=>by unfold ind;rw[if_neg (Ne.symm l7)];simp];unfold ind;rw[if_pos rfl];simp
def zx{u v:Row}{a b:Int}(h:∀k,w k=a * u k - b * v k)(x:Nat):rv A n w x=a * rv A n u x - b * rv A n v x:=by
 unfold rv;let e:Ζ (λk=>w k * A k x) n=Ζ (λk=>a * (u k * A k x)+(- b) * (v k * A k x)) n:=Α λk _=>by rw[h k];grind
 rw[e,iK,Χ,Χ];grind
def Mv{g:Nat->Int}{u:Nat->Row}(h:∀k,w k=Ζ (λj=>g j * u j k) r)(x:Nat):rv A n w x=Ζ (λj=>g j * rv A n (u j) x) r:=by
 unfold rv;let e:Ζ (λk=>w k * A k x) n=Ζ (λk=>Ζ (λj=>g j * (u j k * A k x)) r) n:=Α λk _=>by rw[h k,abV,<-Χ];show Α λj _=>by grind
 rw[e,d7];show Α λj _=>Χ _ _ _
def Ey(h:a < n)(x:Nat):rv A n (ind a) x=A a x:=by unfold rv;show pG (f:=λk=>A k x) h
structure St(A:Nat->Row)(n:Nat)(ρ ο:List Nat)(q:Nat->Nat)(d:Int)(W:Nat->Row):Prop where
 lc:-ο=-ρ
 rn:-ρ<=n
 Oz:∀i,i < n->q i < n
 A':∀j,j < -ρ->ρ.getD j 0 < n
 det:D (ρ.map A) ο=d
 wp:∀i,i < -ρ->∀k,W i k=Ζ (λj=>fM (ρ.map A) ο i j * ind (ρ.getD j 0) k) (-ρ)
 wn:∀i,-ρ<=i->i < n->∀k,W i k=d * ind (q i) k - Ζ (λp=>A (q i) (ο.getD p 0) * W p k) (-ρ)
 one:∀i p,i < -ρ->p < -ρ->rv A n (W i) (ο.getD p 0)=if i=p then d else 0
set_option tactic.hygienic true
section
variable{q:Nat->Nat}
def vX{j:Nat}(h:j < -ρ):(ρ.map A).getD j zr=A (ρ.getD j 0):=by rw[aab,aas,aaa h,aab,aaa h];rfl
def St.Uj(s:St A n ρ ο q d W)(hi:i < -ρ)(x:Nat):rv A n (W i) x=Ζ (λj=>fM (ρ.map A) ο i j * A (ρ.getD j 0) x) (-ρ):=by rw[Mv (u:=λj=>ind (ρ.getD j 0)) (s.wp i hi)];show Α λj hj=>by rw[Ey (s.A' j hj)]
def St.Tj(s:St A n ρ ο q d W)(h1:-ρ<=i)(hi:i < n)(x:Nat):rv A n (W i) x=d * A (q i) x - Ζ (λp=>A (q i) (ο.getD p 0) * rv A n (W p) x) (-ρ):=by
 let h:∀k,W i k=d * ind (q i) k - 1 * Ζ (λp=>A (q i) (ο.getD p 0) * W p k) (-ρ):=λk=>by rw[s.wn i h1 hi k];omega
 rw[zx h x,Ey (s.Oz i hi),Mv (w:=λk=>Ζ (λp=>A (q i) (ο.getD p 0) * W p k) (-ρ)) (u:=W) (λk=>rfl)];omega
def St.zero(s:St A n ρ ο q d W){p:Nat}(h1:-ρ<=i)(hi:i < n)(hp:p < -ρ):rv A n (W i) (ο.getD p 0)=0:=by
 rw[s.Tj h1 hi];let e:Ζ (λp'=>A (q i) (ο.getD p' 0) * rv A n (W p') (ο.getD p 0)) (-ρ)=A (q i) (ο.getD p 0) * d:=by rw[jz hp λp' Ap l7=>by rw[s.one p' p Ap hp,if_neg l7];simp];rw[s.one p p hp hp,aa0 rfl]
 rw[e];grind
def St.head(s:St A n ρ ο q d W)(hr:-ρ < n)(c:Nat):D ((ρ++[q (-ρ)]).map A) (ο++[c])=rv A n (W (-ρ)) c:=by
 rw[aa9,s.Tj (aaq _) hr];change D (ρ.map A++[A (q (-ρ))]) (ο++[c])=_;rw[J3 (by rw[aae];show s.lc),s.det,aae,abV]
 congr 1
 show Α λp hp=>?_;rw[s.Uj hp]
 congr 1
 show Α λk hk=>by rw[vX hk]
def pB{j:Nat}{l:List Nat}(h:j < -l):(l++[a]).getD j 0=l.getD j 0:=by rw[aab,aaD h,<-aab]
def pL{l:List Nat}:(l++[a]).getD (-l) 0=a:=by simp
def mix(f:Nat->Int)(s:St A n ρ ο q d W)(a L:Int)(g:Nat->Int):
  Ζ (λj=>(if j < -ρ then a * g j+L * Ζ (λp=>A (q (-ρ)) (ο.getD p 0) * fM (ρ.map A) ο p j) (-ρ) else - (L * d)) * f ((ρ++[q (-ρ)]).getD j 0)) (-ρ+1)
  =a * Ζ (λj=>g j * f (ρ.getD j 0)) (-ρ) - L * (d * f (q (-ρ)) - Ζ (λp=>A (q (-ρ)) (ο.getD p 0) * Ζ (λj=>fM (ρ.map A) ο p j * f (ρ.getD j 0)) (-ρ)) (-ρ)):=by
 rw[show∀F:Nat->Int,Ζ F (-ρ+1)=Ζ F (-ρ)+F (-ρ) fromλ_=>rfl,pL,aa3 (acn _)]
 let e:Ζ (λj=>(if j < -ρ then a * g j+L * Ζ (λp=>A (q (-ρ)) (ο.getD p 0) * fM (ρ.map A) ο p j) (-ρ) else - (L * d)) * f ((ρ++[q (-ρ)]).getD j 0)) (-ρ)
   =Ζ (λj=>a * (g j * f (ρ.getD j 0))+L * Ζ (λp=>A (q (-ρ)) (ο.getD p 0) * (fM (ρ.map A) ο p j * f (ρ.getD j 0))) (-ρ)) (-ρ):=by
  show Α λj hj=>?_;rw[aa0 hj,pB hj];let e2:Ζ (λp=>A (q (-ρ)) (ο.getD p 0) * (fM (ρ.map A) ο p j * f (ρ.getD j 0))) (-ρ)=f (ρ.getD j 0) * Ζ (λp=>A (q (-ρ)) (ο.getD p 0) * fM (ρ.map A) ο p j) (-ρ):=by rw[<-Χ];show Α λp _=>by grind
  rw[e2];grind
 rw[e,iK,Χ,Χ,d7 (λj p=>A (q (-ρ)) (ο.getD p 0) * (fM (ρ.map A) ο p j * f (ρ.getD j 0)))]
 let e3:Ζ (λp=>Ζ (λj=>A (q (-ρ)) (ο.getD p 0) * (fM (ρ.map A) ο p j * f (ρ.getD j 0))) (-ρ)) (-ρ)=Ζ (λp=>A (q (-ρ)) (ο.getD p 0) * Ζ (λj=>fM (ρ.map A) ο p j * f (ρ.getD j 0)) (-ρ)) (-ρ):=
  Α λp _=>Χ _ _ _
 rw[e3];grind
def St.step(s:St A n ρ ο q d W)(hr:-ρ < n)(c:Nat)(d0:d≠0)(h0:rv A n (W (-ρ)) c≠0):
  ∃W':Nat->Row,St A n (ρ++[q (-ρ)]) (ο++[c]) q (rv A n (W (-ρ)) c) W'/\(∀k,W' (-ρ) k=W (-ρ) k)/\
   ∀i,i < n->i≠-ρ->∀k,d * W' i k=rv A n (W (-ρ)) c * W i k - rv A n (W i) c * W (-ρ) k:=by
 let hd:=s.head hr c;generalize hE:rv A n (W (-ρ)) c=E at *
 let lr:-((ρ++[q (-ρ)]).map A)=-ρ+1:=by simp
 let lc':-(ο++[c])=-((ρ++[q (-ρ)]).map A):=by rw[lr];simp[s.lc]
 let cg:∀p,p < -ρ->(ο++[c]).getD p 0=ο.getD p 0:=λp hp=>pB (by rw[s.lc];show hp);let cl:(ο++[c]).getD (-ρ) 0=c:=by rw[<-s.lc];show pL
 let rg:∀j,j < -ρ+1->((ρ++[q (-ρ)]).map A).getD j zr=A ((ρ++[q (-ρ)]).getD j 0):=λj hj=>vX (by simp;omega);let head:∀j,j < -ρ+1->(if j < -ρ then (0:Int) * 0+(- 1) * Ζ (λp=>A (q (-ρ)) (ο.getD p 0) * fM (ρ.map A) ο p j) (-ρ) else - ((- 1) * d))=fM ((ρ++[q (-ρ)]).map A) (ο++[c]) (-ρ) j:=λj hj=>by
  have:=Lb (γ:=(ρ++[q (-ρ)]).map A) (ο:=ο++[c]) (v:=λj=>if j < -ρ then (0:Int) * 0+(- 1) * Ζ (λp=>A (q (-ρ)) (ο.getD p 0) * fM (ρ.map A) ο p j) (-ρ) else - ((- 1) * d)) (e:=E) (i:=-ρ) (k:=j) lc' (by rw[lr];omega) (by rw[lr];show hj) (λp hp=>by
   rw[lr]at hp⊢;let e1:=mix (λa=>A a ((ο++[c]).getD p 0)) s 0 (- 1) (λ_=>0);let e2:Ζ (λj=>(if j < -ρ then (0:Int) * 0+(- 1) * Ζ (λp=>A (q (-ρ)) (ο.getD p 0) * fM (ρ.map A) ο p j) (-ρ) else - ((- 1) * d)) * ((ρ++[q (-ρ)]).map A).getD j zr ((ο++[c]).getD p 0)) (-ρ+1)=_:=(Α λj hj=>by rw[rg j hj]).trans e1;rw[e2];let e3:d * A (q (-ρ)) ((ο++[c]).getD p 0) - Ζ (λp'=>A (q (-ρ)) (ο.getD p' 0) * Ζ (λj=>fM (ρ.map A) ο p' j * A (ρ.getD j 0) ((ο++[c]).getD p 0)) (-ρ)) (-ρ)=rv A n (W (-ρ)) ((ο++[c]).getD p 0):=by
    rw[s.Tj (aaq _) hr]
    congr 1
    show Α λp' Ap=>by rw[s.Uj Ap]
   rw[e3];by_cases HQ:p < -ρ
   .rw[cg p HQ,s.zero (Nat.le_refl _) hr HQ,if_neg ()];simp
   .have:p=-ρ:=()
    subst this
    rw[cl,hE,aa0 rfl];omega)
  rw[hd]at this;show abI h0 ?_;rw[<-this];grind
 let hk:∀k,W (-ρ) k=Ζ (λj=>fM ((ρ++[q (-ρ)]).map A) (ο++[c]) (-ρ) j * ind ((ρ++[q (-ρ)]).getD j 0) k) (-ρ+1):=λk=>by
  let e1:=mix (λa=>ind a k) s 0 (- 1) (λ_=>0);let e2:Ζ (λj=>fM ((ρ++[q (-ρ)]).map A) (ο++[c]) (-ρ) j * ind ((ρ++[q (-ρ)]).getD j 0) k) (-ρ+1)=_:=(Α λj hj=>by rw[<-head j hj]).trans e1;rw[e2,s.wn _ (aaq _) hr k];let e3:Ζ (λp=>A (q (-ρ)) (ο.getD p 0) * W p k) (-ρ)=Ζ (λp=>A (q (-ρ)) (ο.getD p 0) * Ζ (λj=>fM (ρ.map A) ο p j * ind (ρ.getD j 0) k) (-ρ)) (-ρ):=Α λp hp=>by rw[s.wp p hp k]
  rw[e3];omega
 let above:∀i,i < -ρ->∀j,j < -ρ+1->(if j < -ρ then E * fM (ρ.map A) ο i j+rv A n (W i) c * Ζ (λp=>A (q (-ρ)) (ο.getD p 0) * fM (ρ.map A) ο p j) (-ρ) else - (rv A n (W i) c * d))=d * fM ((ρ++[q (-ρ)]).map A) (ο++[c]) i j:=λi hi j hj=>by
  have:=Lb (γ:=(ρ++[q (-ρ)]).map A) (ο:=ο++[c]) (v:=λj=>if j < -ρ then E * fM (ρ.map A) ο i j+rv A n (W i) c * Ζ (λp=>A (q (-ρ)) (ο.getD p 0) * fM (ρ.map A) ο p j) (-ρ) else - (rv A n (W i) c * d)) (e:=d * E) (i:=i) (k:=j) lc' (by rw[lr];omega) (by rw[lr];show hj) (λp hp=>by
   rw[lr]at hp⊢;let e1:=mix (λa=>A a ((ο++[c]).getD p 0)) s E (rv A n (W i) c) (λj=>fM (ρ.map A) ο i j);let e2:Ζ (λj=>(if j < -ρ then E * fM (ρ.map A) ο i j+rv A n (W i) c * Ζ (λp=>A (q (-ρ)) (ο.getD p 0) * fM (ρ.map A) ο p j) (-ρ) else - (rv A n (W i) c * d)) * ((ρ++[q (-ρ)]).map A).getD j zr ((ο++[c]).getD p 0)) (-ρ+1)=_:=(Α λj hj=>by rw[rg j hj]).trans e1;rw[e2];let e3:d * A (q (-ρ)) ((ο++[c]).getD p 0) - Ζ (λp'=>A (q (-ρ)) (ο.getD p' 0) * Ζ (λj=>fM (ρ.map A) ο p' j * A (ρ.getD j 0) ((ο++[c]).getD p 0)) (-ρ)) (-ρ)=rv A n (W (-ρ)) ((ο++[c]).getD p 0):=by
    rw[s.Tj (aaq _) hr]
    congr 1
    show Α λp' Ap=>by rw[s.Uj Ap]
   rw[e3,<-s.Uj hi];by_cases HQ:p < -ρ
   .rw[cg p HQ,s.zero (aaq _) hr HQ,s.one i p hi HQ];split <;> grind
   .have:p=-ρ:=()
    subst this
    rw[cl,hE,if_neg ()];grind)
  rw[hd]at this;show abI h0 ?_;rw[Int.mul_comm,this];grind
 let abk:∀i,i < -ρ->∀k,d * Ζ (λj=>fM ((ρ++[q (-ρ)]).map A) (ο++[c]) i j * ind ((ρ++[q (-ρ)]).getD j 0) k) (-ρ+1)=E * W i k - rv A n (W i) c * W (-ρ) k:=λi hi k=>by
  let e1:=mix (λa=>ind a k) s E (rv A n (W i) c) (λj=>fM (ρ.map A) ο i j);let e2:d * Ζ (λj=>fM ((ρ++[q (-ρ)]).map A) (ο++[c]) i j * ind ((ρ++[q (-ρ)]).getD j 0) k) (-ρ+1)=_:=((Χ _ _ _).symm.trans (Α λj hj=>by rw[above i hi j hj];grind)).trans e1;rw[e2,s.wn _ (aaq _) hr k,s.wp i hi k];let e3:Ζ (λp=>A (q (-ρ)) (ο.getD p 0) * W p k) (-ρ)=Ζ (λp=>A (q (-ρ)) (ο.getD p 0) * Ζ (λj=>fM (ρ.map A) ο p j * ind (ρ.getD j 0) k) (-ρ)) (-ρ):=Α λp hp=>by rw[s.wp p hp k]
  rw[e3]
 let  V:Nat->Row:=λi k=>if i=-ρ then W (-ρ) k else Ζ (λj=>fM ((ρ++[q (-ρ)]).map A) (ο++[c]) i j * ind ((ρ++[q (-ρ)]).getD j 0) k) (-ρ+1)
 let  W':Nat->Row:=λi k=>if i < -ρ+1 then V i k else E * ind (q i) k - Ζ (λp=>A (q i) ((ο++[c]).getD p 0) * V p k) (-ρ+1)
 let Wr:∀k,W' (-ρ) k=W (-ρ) k:=λk=>by change(if -ρ < -ρ+1 then (if -ρ=-ρ then W (-ρ) k else _) else _)=_;rw[aa0 (acd _),aa0 rfl]
 let Wi:∀i,i < -ρ->∀k,W' i k=Ζ (λj=>fM ((ρ++[q (-ρ)]).map A) (ο++[c]) i j * ind ((ρ++[q (-ρ)]).getD j 0) k) (-ρ+1):=λi hi k=>by change(if i < -ρ+1 then (if i=-ρ then _ else _) else _)=_;rw[aa0 (),aa3 ()]
 let WV:∀p,p < -ρ+1->∀k,W' p k=V p k:=λp hp k=>by change(if p < -ρ+1 then V p k else _)=_;rw[aa0 hp]
 let Wn:∀i,-ρ+1<=i->∀k,W' i k=E * ind (q i) k - Ζ (λp=>A (q i) ((ο++[c]).getD p 0) * W' p k) (-ρ+1):=λi hi k=>by
  change(if i < -ρ+1 then V i k else _)=_;rw[aa3 ()]
  congr 1
  show Α λp hp=>by rw[WV p hp]
 let H:∀i,i < n->i≠-ρ->∀k,d * W' i k=E * W i k - rv A n (W i) c * W (-ρ) k:=λi hi l7 k=>by
  by_cases zP:i < -ρ
  .rw[Wi i zP k];show abk i zP k
  .rw[Wn i () k,s.wn i () hi k,s.Tj () hi c];rw[show∀F:Nat->Int,Ζ F (-ρ+1)=Ζ F (-ρ)+F (-ρ) fromλ_=>rfl,cl,Wr];let e1:d * Ζ (λp=>A (q i) ((ο++[c]).getD p 0) * W' p k) (-ρ)=Ζ (λp=>E * (A (q i) (ο.getD p 0) * W p k)+(- (W (-ρ) k)) * (A (q i) (ο.getD p 0) * rv A n (W p) c)) (-ρ):=by rw[<-Χ];show Α λp hp=>?_;have:=abk p hp k;rw[cg p hp,Wi p hp k];grind
   rw[iK,Χ,Χ]at e1;grind
 show(W',(by simp[s.lc],by simp;omega,s.Oz,λj hj=>?_,hd,λi hi k=>?_,λi h1 hi k=>?_,λi p hi hp=>?_),Wr,H)
 .by_cases hjr:j < -ρ
  .rw[pB hjr];show s.A' j hjr
  .have:j=-ρ:=by simp at hj;omega
   rw[this,pL];show s.Oz _ hr
 .rw[show(ρ++[q (-ρ)]).length=-ρ+1 by simp]at hi⊢;by_cases zP:i < -ρ
  .show Wi i zP k
  .have:i=-ρ:=()
   subst this;rw[Wr k];show hk k
 .rw[show(ρ++[q (-ρ)]).length=-ρ+1 by simp]at h1⊢;show Wn i h1 k
 .rw[show(ρ++[q (-ρ)]).length=-ρ+1 by simp]at hi hp;let hrr:∀x,rv A n (W' (-ρ)) x=rv A n (W (-ρ)) x:=λx=>by unfold rv;show Α λk _=>by rw[Wr k]
  by_cases zP:i < -ρ
  .let lin:d * rv A n (W' i) ((ο++[c]).getD p 0)=E * rv A n (W i) ((ο++[c]).getD p 0) - rv A n (W i) c * rv A n (W (-ρ)) ((ο++[c]).getD p 0):=by have:=zx (A:=A) (n:=n) (w:=λk=>d * W' i k) (u:=W i) (v:=W (-ρ)) (a:=E) (b:=rv A n (W i) c) (λk=>H i () () k) ((ο++[c]).getD p 0);rw[<-this];unfold rv;rw[<-Χ];show Α λk _=>by grind
   show abI d0 ?_;rw[lin];by_cases HQ:p < -ρ
   .rw[cg p HQ,s.zero (aaq _) hr HQ,s.one i p zP HQ];split <;> grind
   .have:p=-ρ:=()
    subst this;rw[cl,hE,if_neg ()];grind
  .have:i=-ρ:=()
   subst this;rw[hrr];by_cases HQ:p < -ρ
   .rw[cg p HQ,s.zero (aaq _) hr HQ,aa3 ()]
   .have:p=-ρ:=()
    subst this;rw[cl,hE,aa0 rfl]
end
def St.start:St A n [] [] id 1 (λi=>ind i) where
 lc:=rfl
 rn:=acR _
 Oz:=λ_ h=>h
 A':=λ_ h=>abe h (acz _)
 det:=rfl
 wp:=λ_ h=>abe h (acz _)
 wn:=λi _ _ k=>by change ind i k=1 * ind i k - 0;omega
 one:=λ_ _ h=>abe h (acz _)
def St.perm{q:Nat->Nat}(s:St A n ρ ο q d W){π:Nat->Nat}(h1:∀i,i < -ρ->π i=i)(h2:∀i,-ρ<=i->i < n->-ρ<=π i/\π i < n):St A n ρ ο (λi=>q (π i)) d (λi=>W (π i)) where
 lc:=s.lc
 rn:=s.rn
 Oz:=λi hi=>s.Oz _ (by
  by_cases h:i < -ρ
  .rw[h1 i h];show hi
  .show(h2 i () hi).2)
 A':=s.A'
 det:=s.det
 wp:=λi hi k=>by change W (π i) k=_;rw[h1 i hi];show s.wp i hi k
 wn:=λi hi hn k=>by
  let(a,b):=h2 i hi hn;have:=s.wn (π i) a b k;rw[this]
  congr 1
  show Α λp hp=>by rw[h1 p hp]
 one:=λi p hi hp=>by change rv A n (W (π i)) _=_;rw[h1 i hi];show s.one i p hi hp
def Ab(x B:Int):Prop:= - B<=x/\x<=B
def Ab.mul(h:Ab x B)(h':Ab y C):Ab (x * y) (B * C):=by
 let(a,b):=h;let(c,d):=h';let B0:0<=B:=()
 let C0:0<=C:=()
 let hb:x.natAbs<=B.natAbs:=()
 let hc:y.natAbs<=C.natAbs:=()
 let hm:=Nat.mul_le_mul hb hc;rw[<-ab4,<-ab4]at hm;let p:=ab7 B0 C0;show((),())
def Ab.add(h:Ab x B)(h':Ab y C):Ab (x+y) (B+C):=(by have:=h.1;have:=h'.1;omega,by have:=h.2;have:=h'.2;omega)
def Ab.sub(h:Ab x B)(h':Ab y C):Ab (x - y) (B+C):=(by have:=h.1;have:=h'.2;omega,by have:=h.2;have:=h'.1;omega)
def Ab.mono{C:Int}(h:Ab x B)(h':B<=C):Ab x C:=(by have:=h.1;omega,by have:=h.2;omega)
def Ab.sum{f:Nat->Int}{B:Int}:∀{n:Nat},(∀i,i < n->Ab (f i) B)->Ab (Ζ f n) (n * B)
 | 0,_=>(by simp[Ζ],by simp[Ζ])
 | n+1,h=>by
  let i:=Ab.sum (n:=n) λi hi=>h i ();have:=Ab.add i (h n ());let e:(n:Int) * B+B=((n+1:Nat):Int) * B:=by rw[show((n+1:Nat):Int)=(n:Int)+1 from rfl,Int.add_mul,Int.one_mul]
  rw[e]at this;show this
def Ab.pow{k:Nat}(h:Ab x B):Ab ((- 1) ^ k * x) B:=by
 rcases(by induction k with
  | zero=>show .inl rfl
  | succ k ih=>rw[Int.pow_succ];rcases ih with e| e <;> rw[e] <;> simp:((- 1:Int) ^ k=1\/(- 1:Int) ^ k= - 1)) with e| e
 .rw[e,Int.one_mul];show h
 .rw[e];let(a,b):=h;show((),())
def Ab.det{B:Int}(B0:1<=B):∀(γ:List Row) (ο:List Nat),(∀x∈γ,∀c∈ο,Ab (x c) B)->-ο<=12->Ab (D γ ο) ((12 * B) ^ (-γ))
 | [],ο,_,_=>by
  change Ab (F0 ο) ((12 * B) ^ 0);rw[Int.pow_zero];unfold F0;split
  .show(@_,@_)
  .show(@_,@_)
 | x::γ,ο,h,hl=>by
  change Ab (Lx x (D γ) ο) _;rw[yz,aaN,acM];let P0:(0:Int)<=(12 * B) ^ (-γ):=acN ();let each:∀p,p < -ο->Ab ((- 1) ^ p * (x (ο.getD p 0) * D γ (ο.eraseIdx p))) (B * (12 * B) ^ (-γ)):=λp hp=>by
   show Ab.pow (Ab.mul ?_ (Ab.det B0 γ (ο.eraseIdx p) (λy hy c hc=>h y (aaf _ hy) c (adg hc)) ?_))
   .rw[aab,aaa hp];show h x aah _ (aaG hp)
   .rw[List.length_eraseIdx];split <;> omega
  show(Ab.sum each).mono ?_;let Q0:0<=B * (12 * B) ^ (-γ):=ab7 () P0;have:=abp (show(-ο:Int)<=12 by omega) Q0;show acp this ?_;let e:12 * (B * (12 * B) ^ (-γ))=(12 * B) ^ (-γ) * (12 * B):=by grind
  omega
section
variable{q:Nat->Nat}
structure Bd(A:Nat->Row)(n m:Nat)(B:Int):Prop where
 b1:1<=B
 ab:∀k x,k < n->x < m->Ab (A k x) B
noncomputable def top(B:Int)(r:Nat):Int:=(12 * B) ^ (r+3)
def yx{b:Nat}(h:1<=B)(Xe:a<=b):(12 * B) ^ a<=(12 * B) ^ b:=by
 let(c,rfl):=Nat.exists_eq_add_of_le Xe;rw[Int.pow_add];let p:(1:Int)<=(12 * B) ^ c:=by have:0 < (12 * B) ^ c:=Int.pow_pos ();omega
 let q:(0:Int)<=(12 * B) ^ a:=acN ();have:=aaT p q;omega
def St.abs(s:St A n ρ ο q d W)(b:Bd A n m B)(hc:∀c∈ο,c < m)(hr:-ρ<=12):
  (∀i k,i < n->Ab (W i k) (top B (-ρ)))/\(∀i x,i < n->x < m->Ab (rv A n (W i) x) (top B (-ρ)))/\Ab d (top B (-ρ)):=by
 let B0:=b.b1;let mem:∀j,j < -ρ->ρ.getD j 0∈ρ:=λj hj=>by rw[aab,aaa hj];show aaG hj
 let ρn:∀a∈ρ,a < n:=λa ha=>by let(j,hj,e):=ab2 ha;have:=s.A' j hj;rw[aab,aaa hj]at this;rw[<-e];show this
 let ent:∀x∈ρ.map A,∀c∈ο,Ab (x c) B:=λx hx c tI=>by let(a,ha,rfl):=aam.mp hx;show b.ab a c (ρn a ha) (hc c tI)
 let cl:-ο<=12:=by rw[s.lc];show hr
 let hd:Ab d ((12 * B) ^ (-ρ)):=by have:=Ab.det B0 (ρ.map A) ο ent cl;rw[s.det,aae]at this;show this
 let Yc:∀p k,Ab (fM (ρ.map A) ο p k) ((12 * B) ^ (-ρ)):=λp k=>by
  unfold fM;show Ab.pow ((Ab.det B0 _ _ (λx hx c tI=>ent x (adg hx) c (adg tI)) ?_).mono (yx B0 ?_))
  .rw[List.length_eraseIdx];split <;> omega
  .rw[List.length_eraseIdx,aae];split <;> omega
 let i1:∀a k,Ab (ind a k) 1:=λa k=>by unfold ind;split <;> show(@_,@_)
 let P0:(0:Int)<=(12 * B) ^ (-ρ):=acN ();let PC:∀{C:Int},0<=C->(-ρ:Int) * C<=12 * C:=λh=>abp () h;let c1:12 * (12 * B) ^ (-ρ)<=(12 * B) ^ (-ρ+1):=by rw[acM];have:=aaT (show(12:Int)<=12 * B by omega) P0;omega
 let wp:∀i k,i < -ρ->Ab (W i k) ((12 * B) ^ (-ρ+1)):=λi k hi=>by rw[s.wp i hi k];show(Ab.sum (B:=(12 * B) ^ (-ρ)) λj hj=>?_).mono (acp (PC P0) c1);have:=Ab.mul (Yc i j) (i1 (ρ.getD j 0) k);rw[Int.mul_one]at this;show this
 let rp:∀i x,i < -ρ->x < m->Ab (rv A n (W i) x) ((12 * B) ^ (-ρ+1)):=λi x hi hx=>by
  rw[s.Uj hi];let Q0:0<=(12 * B) ^ (-ρ) * B:=ab7 P0 ();show(Ab.sum (B:=(12 * B) ^ (-ρ) * B) λj hj=>Ab.mul (Yc i j) (b.ab _ x (s.A' j hj) hx)).mono (acp (PC Q0) ?_);rw[acM];have:12 * ((12 * B) ^ (-ρ) * B)=(12 * B) ^ (-ρ) * (12 * B):=by grind
  omega
 let S0:(0:Int)<=(12 * B) ^ (-ρ+1):=acN ();let T0:(0:Int)<=(12 * B) ^ (-ρ+2):=acN ();let c2:12 * (B * (12 * B) ^ (-ρ+1))=(12 * B) ^ (-ρ+2):=by rw[show -ρ+2=-ρ+1+1 from rfl,Int.pow_succ];grind
 let c3:(12 * B) ^ (-ρ+2)+(12 * B) ^ (-ρ+2)<=top B (-ρ):=by unfold top;let e:(12 * B) ^ (-ρ+3)=(12 * B) ^ (-ρ+2) * (12 * B):=acM _ _;rw[e];have:=aaT (show(2:Int)<=12 * B by omega) T0;omega
 let c4:(12 * B) ^ (-ρ+1)<=(12 * B) ^ (-ρ+2):=yx B0 ();let c5:(12 * B) ^ (-ρ)<=(12 * B) ^ (-ρ+2):=yx B0 ();let c6:(12 * B) ^ (-ρ) * B<=(12 * B) ^ (-ρ+2):=by show acp ?_ c4;rw[acM];show aaT () P0
 let U0:0<=B * (12 * B) ^ (-ρ+1):=ab7 () S0;let XE:∀p,p < -ρ->ο.getD p 0 < m:=λp hp=>by
  let Ap:p < -ο:=by rw[s.lc];show hp
  rw[aab,aaa Ap];show hc _ (aaG Ap)
 show(λi k hi=>?_,λi x hi hx=>?_,hd.mono ())
 .by_cases zP:i < -ρ
  .show(wp i k zP).mono ()
  .rw[s.wn i () hi k];let a1:=Ab.mul hd (i1 (q i) k);rw[Int.mul_one]at a1;show(Ab.sub a1 (Ab.sum (B:=B * (12 * B) ^ (-ρ+1)) λp hp=>Ab.mul (b.ab (q i) _ (s.Oz i hi) (XE p hp)) (wp p k hp))).mono ?_;have:=PC U0;omega
 .by_cases zP:i < -ρ
  .show(rp i x zP hx).mono ()
  .rw[s.Tj () hi];show(Ab.sub (Ab.mul hd (b.ab (q i) x (s.Oz i hi) hx)) (Ab.sum (B:=B * (12 * B) ^ (-ρ+1)) λp hp=>Ab.mul (b.ab (q i) _ (s.Oz i hi) (XE p hp)) (rp p x hp hx))).mono ?_;have:=PC U0;omega
end
set_option tactic.hygienic false
def dz(n i:Nat):List Int:=(List.range n).map (ind i)
noncomputable def lN(ls:List (List Int))(f k:Nat):List (List Int):=ls.take f++[ls.getD k []]++(ls.drop f).take (k - f)++ls.drop (k+1)
noncomputable def dE(l h:List Int)(c:Nat)(d:Int):List Int:=(l.zip h).map λp=>(h.getD c 0 * p.1 - l.getD c 0 * p.2).fdiv d
noncomputable def aG(A:Nat->Row)(n m:Nat)(w:Row):List Int:=(List.range m).map (λx=>rv A n w x)++(List.range n).map w
def ak(A:Nat->Row)(n m:Nat)(W:Nat->Row):List (List Int):=(List.range n).map λi=>aG A n m (W i)
noncomputable def arr(γ:List (List Int)):Nat->Row:=λk x=>(γ.getD k []).getD x 0
def fv:-(aG A n m w)=m+n:=by unfold aG;simp
def iU{x:Nat}(h:x < m):(aG A n m w).getD x 0=rv A n w x:=by unfold aG;rw[List.getD_eq_getElem?_getD,List.getElem?_append_left (by simpa using h),List.getElem?_map,List.getElem?_range h];rfl
def lA(h:i < n):(ak A n m W).getD i []=aG A n m (W i):=by unfold ak;rw[aab,aas,abB h];rfl
def dX:-(ak A n m W)=n:=by unfold ak;simp
def D8{u:Row}(h:∀k,w k=u k):aG A n m w=aG A n m u:=by have:w=u:=funext h;rw[this]
def BQ{γ:List (List Int)}(hl:∀r∈γ,-r=m):(List.range (-γ)).map (λi=>γ.getD i []++dz (-γ) i)=ak (arr γ) (-γ) m (λi=>ind i):=by
 unfold ak;apply abO;intro i hi;let hi:=abG.mp hi;unfold aG dz
 congr 1
 let g:γ.getD i []=γ[i]:=by rw[aab,aaa hi];rfl
 let ml:=hl γ[i] (aaG hi);apply ach
 .rw[g,ml];simp
 .intro x h1 h2;simp only[List.getElem_map,List.getElem_range];rw[Ey hi];unfold arr;rw[aab (l:=γ.getD i []),aaa h1];rfl
noncomputable def jU(r k i:Nat):Nat:=if i < r then i else if i=r then k else if i<=k then i - 1 else i
def B'{r k:Nat}(hr:r<=k)(hk:k < n):lN (ak A n m W) r k=ak A n m (λi=>W (jU r k i)):=by
 unfold lN;rw[lA hk];unfold ak;apply adq;intro i;rw[aas];simp only[List.append_assoc];by_cases h1:i < r
 .rw[List.getElem?_append_left (by simp;omega),List.getElem?_take_of_lt h1,List.getElem?_map];rw[abB ()];have:jU r k i=i:=by unfold jU;rw[if_pos h1]
  simp[this]
 .rw[List.getElem?_append_right (by simp;omega)];let lt:-((List.map (λi=>aG A n m (W i)) (List.range n)).take r)=r:=by simp;omega
  rw[lt];by_cases h2:i=r
  .subst h2;rw[Nat.sub_self,List.getElem?_append_left (by simp)];rw[abB ()];have:jU i k i=k:=by unfold jU;rw[if_neg (Nat.lt_irrefl _),if_pos rfl]
   simp[this]
  .rw[List.getElem?_append_right (by simp;omega)];change(_++_)[i - r - 1]? =_;let l2:-((List.map (λi=>aG A n m (W i)) (List.range n)).drop r|>.take (k - r))=k - r:=by simp;omega
   by_cases h3:i<=k
   .rw[aaD (by rw[l2];omega),ade (),List.getElem?_drop,aas,abB (),abB ()];have:jU r k i=i - 1:=by unfold jU;rw[if_neg h1,if_neg h2,if_pos h3]
    simp only[Option.map_some,this];rw[show r+(i - r - 1)=i - 1 by omega]
   .rw[aay (by rw[l2];omega),l2,List.getElem?_drop,aas];rw[show k+1+(i - r - 1 - (k - r))=i by omega];by_cases h4:i < n
    .rw[abB h4];have:jU r k i=i:=by unfold jU;rw[if_neg h1,if_neg h2,if_neg h3]
     simp[this]
    .rw[List.getElem?_eq_none (by simpa using h4)];rfl
def vc{a b:Int}(h:d≠0)(e:d * b=a):a.fdiv d=b:=by rw[<-e];show Int.mul_fdiv_cancel_left b h
def uc{c:Nat}{v:Row}(hc:c < m)(d0:d≠0)(h:∀k,d * v k=rv A n u c * w k - rv A n w c * u k):dE (aG A n m w) (aG A n m u) c d=aG A n m v:=by
 let hr:∀x,d * rv A n v x=rv A n u c * rv A n w x - rv A n w c * rv A n u x:=λx=>by have:=zx (A:=A) (n:=n) (w:=λk=>d * v k) (u:=w) (v:=u) (a:=rv A n u c) (b:=rv A n w c) h x;rw[<-this];unfold rv;rw[<-Χ];show Α λk _=>by grind
 unfold dE;rw[iU hc,iU hc];unfold aG;rw[List.zip_append (by simp),List.map_append]
 congr 1
 .apply ach
  .simp
  .intro x h1 h2;simp only[List.getElem_map,List.getElem_zip,List.getElem_range];show vc d0 (hr x)
 .apply ach
  .simp
  .intro x h1 h2;simp only[List.getElem_map,List.getElem_zip,List.getElem_range];show vc d0 (h x)
structure Turn(A:Nat->Row)(n:Nat)(col:Nat)(ρ ο:List Nat)(q:Nat->Nat)(d:Int)(W:Nat->Row):Prop where
 st:St A n ρ ο q d W
 d0:d≠0
 cl:∀c∈ο,c < col
 SM:∀i,i < -ρ->q i=ρ.getD i 0
 Su:∀k,k < n->∃i,i < n/\q i=k
 zero:∀i,-ρ<=i->i < n->∀x,x < col->rv A n (W i) x=0
 all:ο=List.range col\/∃x,x < col/\x∉ο
def Turn.start:Turn A n 0 [] [] id 1 (λi=>ind i) where
 st:=St.start
 d0:=@_
 cl:=λ_ h=>nomatch h
 SM:=λ_ h=>abe h (acz _)
 Su:=λk h=>(k,h,rfl)
 zero:=λ_ _ _ _ h=>abe h (acz _)
 all:=.inl rfl
set_option tactic.hygienic true
section
variable{col:Nat}{q:Nat->Nat}
def Turn.skip(t:Turn A n col ρ ο q d W)(h:∀i,-ρ<=i->i < n->rv A n (W i) col=0):Turn A n (col+1) ρ ο q d W where
 st:=t.st
 d0:=t.d0
 cl:=λc hc=>acP (t.cl c hc)
 SM:=t.SM
 Su:=t.Su
 zero:=λi h1 h2 x hx=>by
  by_cases e:x=col
  .rw[e];show h i h1 h2
  .show t.zero i h1 h2 x ()
 all:=.inr (col,acd _,λz=>abe (t.cl col z) (acn _))
def Turn.move(t:Turn A n col ρ ο q d W){k:Nat}(h1:-ρ<=k)(h2:k < n):Turn A n col ρ ο (λi=>q (jU (-ρ) k i)) d (λi=>W (jU (-ρ) k i)) where
 st:=t.st.perm (λi hi=>by unfold jU;rw[if_pos hi]) λi a b=>by unfold jU;split <;> (try split) <;> (try split) <;> omega
 d0:=t.d0
 cl:=t.cl
 SM:=λi hi=>by change q (jU (-ρ) k i)=_;rw[show jU (-ρ) k i=i by unfold jU;rw[if_pos hi]];show t.SM i hi
 Su:=λj hj=>by
  let(i,hi,e):=t.Su j hj;by_cases a:i < -ρ
  .show(i,hi,by change q (jU (-ρ) k i)=j;rw[show jU (-ρ) k i=i by unfold jU;rw[if_pos a]];show e)
  .by_cases b:i=k
   .show(-ρ,(),by change q (jU (-ρ) k (-ρ))=j;rw[show jU (-ρ) k (-ρ)=k by unfold jU;rw[if_neg (Nat.lt_irrefl _),if_pos rfl],<-b];show e)
   .by_cases c:i < k
    .show(i+1,(),by change q (jU (-ρ) k (i+1))=j;rw[show jU (-ρ) k (i+1)=i by unfold jU;rw[if_neg (),if_neg (),if_pos ()];omega];show e)
    .show(i,hi,by change q (jU (-ρ) k i)=j;rw[show jU (-ρ) k i=i by unfold jU;rw[if_neg a,if_neg (),if_neg ()]];show e)
 zero:=λi a b x hx=>by
  have:-ρ<=jU (-ρ) k i/\jU (-ρ) k i < n:=by unfold jU;split <;> (try split) <;> (try split) <;> omega
  show t.zero _ this.1 this.2 x hx
 all:=t.all
def Turn.step(t:Turn A n col ρ ο q d W)(hr:-ρ < n)(hm:col < m)(h0:rv A n (W (-ρ)) col≠0):
  ∃W',Turn A n (col+1) (ρ++[q (-ρ)]) (ο++[col]) q (rv A n (W (-ρ)) col) W'/\
   ((ak A n m W).take (-ρ)).map (λl=>dE l (aG A n m (W (-ρ))) col d)++[aG A n m (W (-ρ))]++((ak A n m W).drop (-ρ+1)).map (λl=>dE l (aG A n m (W (-ρ))) col d)=ak A n m W':=by
 let(W',s',e1,e2):=t.st.step hr col t.d0 h0;show(W',(s',h0,λc hc=>?_,λi hi=>?_,t.Su,λi a b x hx=>?_,?_),?_)
 .rcases abj.mp hc with z| z
  .show acP (t.cl c z)
  .have:c=col:=by simpa using z
   omega
 .by_cases zP:i < -ρ
  .rw[pB zP];show t.SM i zP
  .have:i=-ρ:=by simp at hi;omega
   rw[this,pL]
 .rw[show(ρ++[q (-ρ)]).length=-ρ+1 by simp]at a;let lin:d * rv A n (W' i) x=rv A n (W (-ρ)) col * rv A n (W i) x - rv A n (W i) col * rv A n (W (-ρ)) x:=by have:=zx (A:=A) (n:=n) (w:=λk=>d * W' i k) (u:=W i) (v:=W (-ρ)) (λk=>e2 i b () k) x;rw[<-this];unfold rv;rw[<-Χ];show Α λk _=>by grind
  show abI t.d0 ?_;rw[lin];by_cases e:x=col
  .subst e;grind
  .rw[t.zero i () b x (),t.zero (-ρ) (Nat.le_refl _) hr x ()];simp
 .rcases t.all with z| ⟨x,a,b⟩
  .left;rw[z,acX]
  .show .inr (x,(),λz=>?_);rcases abj.mp z with z| z
   .show b z
   .have:x=col:=by simpa using z
    omega
 .unfold ak;rw[<-ado,<-adp,aa4,aa4];apply adq;intro i;simp only[List.append_assoc];let lt:-(List.map ((λl=>dE l (aG A n m (W (-ρ))) col d) ∘ λi=>aG A n m (W i)) ((List.range n).take (-ρ)))=-ρ:=by simp;omega
  by_cases h1:i < -ρ
  .rw[aaD (by rw[lt];show h1),aas,aas,ade h1,abB ()];change (!(dE (aG A n m (W i)) (aG A n m (W (-ρ))) col d))=!_;rw[uc hm t.d0 (e2 i () ())]
  .rw[aay (by rw[lt];omega),lt,aas];by_cases h2:i=-ρ
   .subst h2;rw[adx,abB hr];change (!(aG A n m (W (-ρ))))=!(aG A n m (W' (-ρ)));rw[D8 e1]
   .rw[List.getElem?_append_right (by simp;omega)];change(List.map _ ((List.range n).drop (-ρ+1)))[i - -ρ - 1]? =_;rw[aas,List.getElem?_drop,show -ρ+1+(i - -ρ - 1)=i by omega];by_cases h4:i < n
    .rw[abB h4];change (!(dE (aG A n m (W i)) (aG A n m (W (-ρ))) col d))=!_;rw[uc hm t.d0 (e2 i h4 h2)]
    .rw[List.getElem?_eq_none (by simpa using h4)];rfl
end
section
variable{col:Nat}{q:Nat->Nat}
set_option tactic.hygienic false
def Turn.back(t:Turn A n col ρ ο q d W){k y:Nat}(hk:k < n)(hy:y < col):d * A k y=Ζ (λp=>A k (ο.getD p 0) * rv A n (W p) y) (-ρ):=by
 let(i,hi,e):=t.Su k hk;let s:=t.st;by_cases zP:i < -ρ
 .let ek:k=ρ.getD i 0:=by rw[<-e];show t.SM i zP
  let lr:-(ρ.map A)=-ρ:=aae _;let e1:Ζ (λp=>A k (ο.getD p 0) * rv A n (W p) y) (-ρ)=Ζ (λp=>Ζ (λj=>(A k (ο.getD p 0) * fM (ρ.map A) ο p j) * A (ρ.getD j 0) y) (-ρ)) (-ρ):=Α λp hp=>by rw[s.Uj hp,<-Χ];show Α λj _=>by grind
  let e2:Ζ (λp=>Ζ (λj=>(A k (ο.getD p 0) * fM (ρ.map A) ο p j) * A (ρ.getD j 0) y) (-ρ)) (-ρ)=Ζ (λj=>A (ρ.getD j 0) y * Ζ (λp=>(ρ.map A).getD i zr (ο.getD p 0) * fM (ρ.map A) ο p j) (-ρ)) (-ρ):=by rw[d7];show Α λj _=>?_;rw[<-Χ];show Α λp _=>?_;rw[vX zP,<-ek];grind
  rw[e1,e2];let pa:∀j,j < -ρ->Ζ (λp=>(ρ.map A).getD i zr (ο.getD p 0) * fM (ρ.map A) ο p j) (-ρ)=if i=j then d else 0:=λj hj=>by have:=PA (γ:=ρ.map A) (ο:=ο) (i:=i) (k:=j) (by rw[lr];show s.lc) (by rw[lr];show zP) (by rw[lr];show hj);rw[lr,s.det]at this;show this
  rw[jz zP λj hj l7=>by rw[pa j hj,if_neg (Ne.symm l7)];simp];rw[pa i zP,if_pos rfl,ek];grind
 .have:=s.Tj () hi y;rw[t.zero i () hi y hy,e]at this;omega
def Turn.kernel(t:Turn A n col ρ ο q d W){x:Nat}(hx:x < col)(hf:x∉ο):∃z:Row,z x= - d/\∀k,k < n->Ζ (λy=>A k y * z y) col=0:=by
 let s:=t.st;let cm:∀i,i < -ρ->ο.getD i 0∈ο:=λi hi=>by
  let v8:i < -ο:=by rw[s.lc];show hi
  rw[aab,aaa v8];show aaG v8
 show(λy=>Ζ (λi=>rv A n (W i) x * ind (ο.getD i 0) y) (-ρ) - d * ind x y,?_,λk hk=>?_)
 .let e1:Ζ (λi=>rv A n (W i) x * ind (ο.getD i 0) x) (-ρ)=0:=jR λi hi=>by unfold ind;rw[if_neg λz=>hf (by rw[<-z];show cm i hi)];simp
  change Ζ (λi=>rv A n (W i) x * ind (ο.getD i 0) x) (-ρ) - d * ind x x= - d;rw[e1];unfold ind;rw[if_pos rfl];omega
 .let gen:∀f:Row,Ζ (λy=>f y * (Ζ (λi=>rv A n (W i) x * ind (ο.getD i 0) y) (-ρ) - d * ind x y)) col=Ζ (λi=>rv A n (W i) x * f (ο.getD i 0)) (-ρ) - d * f x:=λf=>by
   let e1:Ζ (λy=>f y * (Ζ (λi=>rv A n (W i) x * ind (ο.getD i 0) y) (-ρ) - d * ind x y)) col=Ζ (λy=>Ζ (λi=>rv A n (W i) x * (ind (ο.getD i 0) y * f y)) (-ρ)+(- d) * (ind x y * f y)) col:=Α λy _=>by
    have:Ζ (λi=>rv A n (W i) x * (ind (ο.getD i 0) y * f y)) (-ρ)=f y * Ζ (λi=>rv A n (W i) x * ind (ο.getD i 0) y) (-ρ):=by rw[<-Χ];show Α λi _=>by grind
    rw[this];grind
   rw[e1,iK,Χ,pG (f:=f) hx,d7];let e2:Ζ (λi=>Ζ (λy=>rv A n (W i) x * (ind (ο.getD i 0) y * f y)) col) (-ρ)=Ζ (λi=>rv A n (W i) x * f (ο.getD i 0)) (-ρ):=Α λi hi=>by rw[Χ,pG (f:=f) (t.cl _ (cm i hi))]
   rw[e2];grind
  show abI t.d0 ?_;rw[Int.mul_zero,gen (A k),Int.mul_sub];let b1:=t.back hk hx;let e3:Ζ (λi=>rv A n (W i) x * A k (ο.getD i 0)) (-ρ)=d * A k x:=by rw[b1];show Α λi _=>abV _ _
  rw[e3];grind
def TM(A:Nat->Row)(n u:Nat)(z:Row)(N:Int):Prop:=∀k,k < n->Ζ (λx=>A k x * z x) u=N * A k u
def TM.line(h:TM A n u z N)(w:Row):Ζ (λx=>rv A n w x * z x) u=N * rv A n w u:=by
 unfold rv;let e1:Ζ (λx=>Ζ (λk=>w k * A k x) n * z x) u=Ζ (λx=>Ζ (λk=>w k * (A k x * z x)) n) u:=Α λx _=>by rw[abV,<-Χ];show Α λk _=>by grind
 rw[e1,d7,<-Χ];show Α λk hk=>?_;rw[Χ,h k hk];grind
def Turn.rest(t:Turn A n col ρ ο q d W)(hs:TM A n col z N)(hN:N≠0)(h1:-ρ<=i)(hi:i < n):rv A n (W i) col=0:=by
 have:=hs.line (W i);rw[jR λx hx=>by rw[t.zero i h1 hi x hx];simp]at this;rcases Int.mul_eq_zero.mp this.symm with e| e
 .show abe e hN
 .show e
def Turn.told(t:Turn A n col ρ ο q d W)(hc:ο=List.range col)(hs:TM A n col z N)(hi:i < col):d * z i=N * rv A n (W i) col:=by
 let s:=t.st;let hl:-ρ=col:=by rw[<-s.lc,hc,abJ]
 let g:∀p,p < col->ο.getD p 0=p:=λp hp=>by rw[hc,aab,abB hp];rfl
 rw[<-hs.line (W i)]
 rw[jz hi λx hx l7=>by
  have:=s.one i x (by rw[hl];show hi) (by rw[hl];show hx);rw[g x hx,aa3 (Ne.symm l7)]at this
  rw[this];simp]
 have:=s.one i i (by rw[hl];show hi) (by rw[hl];show hi);rw[g i hi,aa0 rfl]at this;rw[this]
end
def Turn.exists{A:Nat->Row}{n:Nat}:∀col:Nat,∃ρ ο q d W,Turn A n col ρ ο q d W
 | 0=>(_,_,_,_,_,Turn.start)
 | col+1=>by
  let(ρ,ο,q,d,W,t):=Turn.exists (A:=A) (n:=n) col;by_cases h:∃k,-ρ<=k/\k < n/\rv A n (W k) col≠0
  .let(k,h1,h2,h3):=h;let t':=t.move h1 h2;let e:jU (-ρ) k (-ρ)=k:=by unfold jU;rw[if_neg (Nat.lt_irrefl _),if_pos rfl]
   let(W',t2,_):=t'.step (m:=col+1) () () (by change rv A n (W (jU (-ρ) k (-ρ))) col≠0;rw[e];show h3);show(_,_,_,_,_,t2)
  .show(_,_,_,_,_,t.skip λi h1 h2=>?_);by_cases e:rv A n (W i) col=0
   .show e
   .show abe (i,h1,h2,e) h
section
variable{col:Nat}{q:Nat->Nat}
noncomputable def Ny(A:Nat->Row)(n:Nat)(W:Nat->Row)(ο:List Nat)(s k:Nat):Row:=λy=>Ζ (λi=>rv A n (W i) s * ind (ο.getD i 0) y) k
def Turn.Om(t:Turn A n col ρ ο q d W){x:Nat}(hx:x < col):∀k,k < n->Ζ (λy=>A k y * (Ny A n W ο x (-ο) y - d * ind x y)) col=0:=λk hk=>by
 let s:=t.st;let cm:∀i,i < -ρ->ο.getD i 0∈ο:=λi hi=>by
  let v8:i < -ο:=by rw[s.lc];show hi
  rw[aab,aaa v8];show aaG v8
 unfold Ny;rw[s.lc];let gen:∀f:Row,Ζ (λy=>f y * (Ζ (λi=>rv A n (W i) x * ind (ο.getD i 0) y) (-ρ) - d * ind x y)) col=Ζ (λi=>rv A n (W i) x * f (ο.getD i 0)) (-ρ) - d * f x:=λf=>by
  let e1:Ζ (λy=>f y * (Ζ (λi=>rv A n (W i) x * ind (ο.getD i 0) y) (-ρ) - d * ind x y)) col=Ζ (λy=>Ζ (λi=>rv A n (W i) x * (ind (ο.getD i 0) y * f y)) (-ρ)+(- d) * (ind x y * f y)) col:=Α λy _=>by
   have:Ζ (λi=>rv A n (W i) x * (ind (ο.getD i 0) y * f y)) (-ρ)=f y * Ζ (λi=>rv A n (W i) x * ind (ο.getD i 0) y) (-ρ):=by rw[<-Χ];show Α λi _=>by grind
   rw[this];grind
  rw[e1,iK,Χ,pG (f:=f) hx,d7];let e2:Ζ (λi=>Ζ (λy=>rv A n (W i) x * (ind (ο.getD i 0) y * f y)) col) (-ρ)=Ζ (λi=>rv A n (W i) x * f (ο.getD i 0)) (-ρ):=Α λi hi=>by rw[Χ,pG (f:=f) (t.cl _ (cm i hi))]
  rw[e2];grind
 show abI t.d0 ?_;rw[Int.mul_zero,gen (A k),Int.mul_sub];let b1:=t.back hk hx;let e3:Ζ (λi=>rv A n (W i) x * A k (ο.getD i 0)) (-ρ)=d * A k x:=by rw[b1];show Α λi _=>abV _ _
 rw[e3];grind
def Turn.UX(t:Turn A n col ρ ο q d W)(h:∀i,-ρ<=i->i < n->rv A n (W i) col=0):TM A n col (Ny A n W ο col (-ο)) d:=λk hk=>by
 have:=(t.skip h).Om (x:=col) () k hk;let e:Ζ (λy=>A k y * (Ny A n W ο col (-ο) y - d * ind col y)) (col+1)=Ζ (λy=>A k y * (Ny A n W ο col (-ο) y - d * ind col y)) col+A k col * (Ny A n W ο col (-ο) col - d * ind col col):=rfl;let e1:Ζ (λy=>A k y * (Ny A n W ο col (-ο) y - d * ind col y)) col=Ζ (λy=>A k y * Ny A n W ο col (-ο) y) col:=Α λy hy=>by
  have:ind col y=0:=by unfold ind;rw[if_neg ()]
  rw[this];grind
 let e2:Ny A n W ο col (-ο) col=0:=jR λi hi=>by
  let hm:ο.getD i 0∈ο:=by rw[aab,aaa hi];show aaG hi
  have:ind (ο.getD i 0) col=0:=by unfold ind;rw[if_neg (by have:=t.cl _ hm;omega)]
  rw[this,Int.mul_zero]
 let e3:ind col col=1:=by unfold ind;rw[if_pos rfl]
 rw[e,e1,e2,e3]at this;have:A k col * (0 - d * 1)= - (d * A k col):=by grind
 omega
def St.aaE(s:St A n ρ ο q d W)(b:Bd A n m B)(hc:∀c∈ο,c < m)(hr:-ρ<=12):Ab d ((12 * B) ^ (-ρ)):=by
 let ρn:∀a∈ρ,a < n:=λa ha=>by let(j,hj,e):=ab2 ha;have:=s.A' j hj;rw[aab,aaa hj]at this;rw[<-e];show this
 have:=Ab.det b.b1 (ρ.map A) ο (λx hx c tI=>by
  let(a,ha,rfl):=aam.mp hx
  show b.ab a c (ρn a ha) (hc c tI)) (by rw[s.lc];show hr)
 rw[s.det,aae]at this;show this
end
end Bz
seal L2.JE L2.JT L2.JW L2.JA L2.JS L2.DZ L2.JI L2.JK
local macro_rules| `(tactic| walk_at "vc")=>`(tactic| dsimp only[L2.gN,L2.WW,L2.UO,L2.Vo,L2.UW,L2.Qf,L2.sIf,L2.WR,L2.OP,L2.KH,L2.Qy,L2.C4,L2.ju,L2.XX,L2.EZ,L2.dC,L2.Ts,L2.Nd,L2.UQ,L2.Vd,L2.kM,L2.W6,L2.orT,L2.Wo,L2.Va,L2.Vf,L2.dIf,L2.lO,List.map_cons,List.map_nil,List.length_cons,List.length_nil,List.cons_append,List.nil_append,List.replicate,List.getElem?_cons_zero,List.getElem?_cons_succ,List.set_cons_zero,List.set_cons_succ,Nat.reduceSub,Nat.reduceAdd,Nat.zero_add])
namespace Pg
open PySem L2
variable{f aU fU uL dQ eO:Addr}{fd aT fY uv dw eK:FuncData}{i n j l:Nat}{M:Ms}{d:Dt}{xs ds:List Dt}{b t lo E C B:Int}{A W:Nat->Bz.Row}{kc:List (Int×Nat)}
noncomputable def top(i:Nat):Stmt:=PySem.Challenge.pw_chanceduel_k31_rounds_rise.main.body.getD i (.Pass (0,0,0,0))
noncomputable def cls(i j:Nat):Stmt:=match top i with
 | .ClassDef _ _ _ b _ _ _ _ _ _ _=>b.getD j (.Pass (0,0,0,0))
 | _=>.Pass (0,0,0,0)
abbrev iN:Stmt:=top 9
abbrev qH:Stmt:=top 10
abbrev Kn:Stmt:=top 11
abbrev Ft:Stmt:=top 12
abbrev Fl:Stmt:=top 13
abbrev Fg:Stmt:=top 14
abbrev ve:Stmt:=top 19
abbrev rq:Stmt:=top 20
abbrev jq:Stmt:=top 21
abbrev j6:Stmt:=top 22
abbrev mU:Stmt:=top 23
abbrev uV:Stmt:=top 24
abbrev ot:Stmt:=top 25
abbrev oi:Stmt:=top 30
abbrev uZ:Stmt:=top 31
abbrev rF:Stmt:=top 32
abbrev Di:Stmt:=top 33
abbrev kC:Stmt:=top 36
abbrev ji:Stmt:=top 37
abbrev k7:Stmt:=top 38
abbrev j4:Stmt:=top 39
abbrev vF:Stmt:=top 40
abbrev nE:Stmt:=top 41
abbrev p7:Stmt:=top 43
abbrev qh:Stmt:=top 45
abbrev oz:Stmt:=top 46
abbrev vT:Stmt:=top 47
abbrev tN:Stmt:=top 48
abbrev j9:Stmt:=top 49
abbrev qC:Stmt:=top 50
abbrev rH:Stmt:=top 51
abbrev yE:Stmt:=top 52
abbrev DV:Stmt:=top 53
abbrev rG:Stmt:=top 54
abbrev ig:Stmt:=top 56
abbrev ug:Stmt:=top 57
abbrev uQ:Stmt:=top 59
abbrev yw:Stmt:=top 60
abbrev EB:Stmt:=top 62
abbrev oy:Stmt:=top 63
abbrev m8:Stmt:=top 64
abbrev y8:Stmt:=top 65
abbrev qG:Stmt:=top 66
abbrev jW:Stmt:=top 67
abbrev nB:Stmt:=top 68
abbrev lE:Stmt:=top 69
abbrev qU:Stmt:=top 70
abbrev tU:Stmt:=top 71
abbrev vC:Stmt:=top 72
abbrev vg:Stmt:=top 73
abbrev qJ:Stmt:=top 74
abbrev AB:Stmt:=top 75
abbrev qR:Stmt:=top 76
abbrev qx:Stmt:=top 77
abbrev jZ:Stmt:=top 78
abbrev iJ:Stmt:=top 79
abbrev Aq:Stmt:=top 80
abbrev qT:Stmt:=top 81
abbrev vw:Stmt:=top 82
abbrev nj:Stmt:=top 83
abbrev p8:Stmt:=top 84
abbrev qS:Stmt:=top 85
abbrev RL:Stmt:=top 86
abbrev nV:Stmt:=cls 34 0
abbrev m_:Stmt:=cls 34 1
abbrev lC:Stmt:=cls 34 2
abbrev nM:Stmt:=cls 34 3
abbrev lP:Stmt:=cls 34 4
abbrev qg:Stmt:=cls 34 5
abbrev kU:Stmt:=cls 34 7
abbrev iF:Stmt:=cls 34 8
abbrev nK:Stmt:=cls 34 9
abbrev nQ:Stmt:=cls 34 10
open PySem L2 Fr0 Tx
structure Ev(K:fI)(mg:Str->Option Value)(w:World)(Cm:Addr):Prop where
 bb:mg "len"=none
 tY:mg "abs"=none
 bf:mg "isinstance"=none
 vJ:mg "int"=none
 zS:mg "bool"=none
 MA:mg "str"=none
 lW:mg "tuple"=none
 kg:mg "list"=none
 bH:mg "range"=none
 e7:mg "enumerate"=none
 FI:mg "any"=none
 xn:mg "all"=none
 BK:mg "sum"=none
 xJ:mg "zip"=none
 mX:mg "dict"=none
 GK:mg "min"=none
 Mb:mg "max"=none
 ib:PySem.W.kitOne K (.type "int") (.type "bool")=!false
 kis:PySem.W.kitOne K (.type "int") (.type "str")=!false
 kts:PySem.W.kitOne K (.type "tuple") (.type "str")=!false
 kti:PySem.W.kitOne K (.type "tuple") (.type "int")=!false
 kls:PySem.W.kitOne K (.type "list") (.type "str")=!false
 kli:PySem.W.kitOne K (.type "list") (.type "int")=!false
 ktl:PySem.W.kitOne K (.type "tuple") (.type "list")=!false
 klt:PySem.W.kitOne K (.type "list") (.type "tuple")=!false
 eB:Gr K Cm
 cI:jn K Cm "kept_rows"
 gC:jn K Cm "kept_share"
 zK:∃a o its n,mg "HANDS"=!(.ref a)/\K.lookup a=!o/\o.cls= .type "tuple"/\o.data= .seq its n/\its.size<=sizeLine/\Paired (λ(z:Str) (u:Value)=>∃tk,u= .str z tk) ["one","other"] its.toList
 mI:T4 K w mg "TURNED_KINDS" [("one", "other"),("other", "one"),("chance", "chance")]
 rS:∃tk,mg "MOST_DOORS"=!(.int 6 tk)
 jX:∃tk,mg "MOST_BOTTOM"=!(.int 1000000 tk)
 oH:∃tk,mg "MOST_PLACES"=!(.int 12 tk)
 iL:∃tk,mg "MOST_SHARE_BOTTOM"=!(.int 1000 tk)
def oh{K:fI}:PySem.W.kitOne K (.type T) (.type T)=!true:=by unfold PySem.W.kitOne;rw[aa0 (beq_self_eq_true _)]
section
variable{P:Program}{w:World}{K:fI}{mg:Str->Option Value}{base:Heap}{Cm:Addr}
def JN:DF:=λds M q _=>match ds with
 | [.int a,.int b]=>q (.int (g a b)) M
 | _=>False
def bW:Δ ["one","other","great","small","rest"] ["one","other"] (τ iN):=.of rfl
def qX(F:cz K "common_divisor" "common_divisor" iN f fd)(E:Ev K mg w Cm):ao P w K mg base (bO P w) 1 f fd ["one","other"] (b8 K JN):=by
 show F.de bW (λds M q x h=>?_) (λaQ A outer s H E' hr=>(_,(ζ (χ 2 bW.nd (FY E.tY (Ν (jv 0) θ)))
   (ζ (χ 3 bW.nd (FY E.tY (Ν (jv 1) θ)))
   (ζ (oS (kH hr (jv 3) ξ) (ζ (χ 4 bW.nd (bP (jv 2) (jv 3)))
   (ζ (χ 2 bW.nd (jv 3))
   (μ (χ 3 bW.nd (jv 4))))))
   (μ (ψ (jv 2)))))),λds M q x h=>?_))
 .unfold JN at h;split at h;· rfl
  .show h.elim
 .unfold JN at h;split at h
  .rename_i a b;show⟨λm ρ M'=>M'=M/\∃(x y:Int) (r:Option Dt),ρ=[!(.int a),!(.int b),!(.int x),!(.int y),r]/\0<=x/\0<=y/\g x y=g a b/\m=y.toNat,(_,rfl,_,_,_,rfl,by split <;> omega,by split <;> omega,P5 a b,rfl),?_⟩;rintro m ρ M' ⟨rfl,x,y,r,rfl,hx,hy,e,rfl⟩;show(λhb=>?_,λhb=>?_)
   .let O5:y≠0:=by simpa using hb
    show(_,λρ' M2 h2=>h2,?_);show((),(x % y).toNat,?_,rfl,y,x % y,_,rfl,hy,abQ _ O5,?_,rfl)
    .have:=abN x (show 0 < y by omega);have:=abQ x O5;omega
    .rw[<-acK x hy,Kd ()];show e
   .let O5:y=0:=by simpa using hb
    subst O5;rw[J8 hx]at e;subst e;show h
  .show h.elim
def HW{i j:Int}(h:fJ j)(l:i.natAbs<=j.natAbs):fJ i:=abE l h
def ue:DF:=λds M q _=>match ds with
 | [.int t,.int b]=>fJ b/\(b=0->False)/\(b≠0->q (.tup [.int (aD t b).1,.int (aD t b).2]) M)
 | _=>False
def nY:Δ ["top","bottom","divisor"] ["top","bottom"] (τ qH):=.of rfl
def Bc(F:cz K "fraction" "fraction" qH f fd)(E:Ev K mg w Cm)(bV:aq P w K mg base 1 "common_divisor" ["one","other"] JN iG iu):ao P w K mg base (bO P w) 2 f fd ["top","bottom"] (b8 K ue):=by
 show F.de nY (λds M q x h=>?_) (λaQ A outer s H E' hr=>(_,(ζ (ah (bL hr (jv 1) ξ) (μ iA) Ι)
   (ζ (χ 2 nY.nd (Φ bV hr ν (Ν (jv 0) (Ν (jv 1) θ))))
   (ζ (ip (ah (rN (jv 1) ξ) (μ (χ 2 nY.nd (F_ (jv 2)))) Ι))
   (μ (ψ (fe (ι (D9 (jv 0) (jv 2)) (ι (D9 (jv 1) (jv 2)) θ bJ) bJ))))))),λds M q x h=>?_))
 .unfold ue at h;split at h;· rfl
  .show h.elim
 .unfold ue at h;split at h
  .rename_i t b;let(hB,h0,h1):=h;show(λhb=>?_,λhb=>?_)
   .show h0 (by simpa using hb)
   .let NB:b≠0:=by simpa using hb
    show(λρ M'=>M'=M/\ρ=[!(.int t),!(.int b),!(.int (dv t b))],(λhn=>?_,λhn=>?_),?_)
    .let VD:b < 0:=by simpa using hn
     show(rfl,by unfold dv;rw[if_pos VD];rfl)
    .let VD:¬b < 0:=by simpa using hn
     show(rfl,by unfold dv;rw[if_neg VD];rfl)
    .rintro ρ M' ⟨rfl,rfl⟩;let hd:=FR (t:=t) NB;let hbd:fJ (dv t b):=HW hB (Af NB);show((hd,hbd),(hd,hbd),k3,h1 NB)
  .show h.elim
abbrev Fr:=Int×Int
noncomputable def Ξ(p:Fr):Dt:=.tup [.int p.1,.int p.2]
noncomputable def bA(p:Fr):Bool:=decide ((if p.1 < 0 then - p.1 else p.1)<=10 ^ 30)&&decide (p.2<=1000000)
def vG:DF:=λds M q _=>∃p,ds=[Ξ p]/\q (.bl (bA p)) M
def Iu:Δ ["pay"] ["pay"] (τ ve):=.of rfl
def Df(F:cz K "fits_pay" "fits_pay" ve f fd)(E:Ev K mg w Cm):ao P w K mg base (bO P w) 1 f fd ["pay"] (b8 K vG):=by
 show F.de Iu (λds M q x h=>?_) (λaQ A outer s H E' hr=>(_,(μ (ψ (gU (zt (FY E.tY (ι (ω (jv 0) ξ) θ aw)) (jH ξ ξ)) (kz (zt (ω (jv 0) ξ) (uF E.jX)))))),λds M q x h=>?_))
 .let(p,rfl,_):=h;rfl
 .let(p,rfl,h):=h;show((@_,@_,@_),λh1=>?_,λh1=>?_)
  .let e:bA p=decide (p.2<=1000000):=by unfold bA;rw[show decide ((if p.1 < 0 then - p.1 else p.1)<=10 ^ 30)=true from h1];rfl
   rw[e]at h;show h
  .let e:bA p=false:=by unfold bA;rw[show decide ((if p.1 < 0 then - p.1 else p.1)<=10 ^ 30)=false from h1];rfl
   rw[e]at h;show h
def sV{ok:Ms->Prop}(h:mE M d=!(xs, ok)):ok M:=by
 cases d with
 | lst ds=>cases h;trivial
 | i_ ns=>cases h;trivial
 | loc k=>
  let h:(match M[k]? with| some (.lst xs)=>!(xs, λM':Ms=>M'[k]? =!(.lst xs))| _=>none)=!(xs, ok):=h;split at h
  .rename_i ys hm;cases h;show hm
  .cases h
 | _=>cases h
set_option tactic.hygienic false
def AX{ok:Ms->Prop}(h:mE M d=!(xs, ok)):rW M d=!(xs, ok):=by
 cases d with
 | lst ds=>cases h;rfl
 | i_ ns=>cases h;rfl
 | loc k=>show h
 | _=>cases h
def e6{ρ:En}{ok:Ms->Prop}{q:List Dt->(Ms->Prop)->Ms->Prop}(hv:ρ[i]? =!(!d))(hl:mE M d=!(xs, ok))(h:q xs ok M):fL (EZ i) ρ M q x:=by unfold fL EZ;rw[hv];change(match rW M d with| some (xs, ok)=>q xs ok M| none=>False);rw[AX hl];show h
def bg{n:Int}{k:Nat}(h:n.natAbs < 2 ^ k)(hk:k<=8000|>2):fJ n:=aaW h (acC @_ hk)
noncomputable def aM(t:Int)(p:Fr)(size:Int):Bool:=decide (0<=t)&&(decide (t < size)&&bA p)
def xY:DF:=λds M q _=>∃t p r size,ds=[.tup (.int t::Ξ p::r),.int size]/\q (.bl (aM t p size)) M
def Eo:Δ ["door","size"] ["door","size"] (τ rq):=.of rfl
def A6(F:cz K "fits_door" "fits_door" rq f fd)(E:Ev K mg w Cm)(hX:aq P w K mg base 1 "fits_pay" ["pay"] vG t_ tO):ao P w K mg base (bO P w) 2 f fd ["door","size"] (b8 K xY):=by
 show F.de Eo (λds M q x h=>?_) (λaQ A outer s H E' hr=>(_,(μ (ψ (gU (zt ξ (ω (jv 0) ξ)) (gU (LU (ω (jv 0) ξ) (jv 1)) (kz (Φ hX hr ν (ι (ω (jv 0) ξ) θ aw))))))),λds M q x h=>?_))
 .let(t,p,r,size,rfl,_):=h;rfl
 .let(t,p,r,size,rfl,h):=h;walk_at "vc";show Ε rfl aF ?_;show(λh1=>?_,λh1=>?_)
  .show Ε rfl aF (λh2=>?_,λh2=>?_)
   .show Ε rfl (Θ (j:=1) rfl) (p,rfl,?_);let e:aM t p size=bA p:=by unfold aM;rw[h1,h2];rfl
    rw[<-e];show h
   .let e:aM t p size=false:=by unfold aM;rw[h1,h2];rfl
    rw[<-e];show h
  .let e:aM t p size=false:=by unfold aM;rw[h1];rfl
   rw[<-e];show h
abbrev bU:=Int×Fr×List Fr
noncomputable def dW(d:bU):Dt:=.tup (.int d.1::Ξ d.2.1::d.2.2.map Ξ)
noncomputable def au(ds:List bU)(size:Int):Bool:=decide (1<=-ds)&&decide (-ds<=6)&&ds.all λd=>aM d.1 d.2.1 size
def uR:DF:=λas M q _=>∃d size ds ok,as=[d,.int size]/\mE M d=!(ds.map dW, ok)/\-ds<=100/\q (.bl (au ds size)) M
def rK:Δ ["doors","size"] ["doors","size"] (τ mU):=.of rfl
def zg(F:cz K "fits_doors" "fits_doors" mU f fd)(E:Ev K mg w Cm)(mS:aq P w K mg base 2 "fits_door" ["door","size"] xY Il IQ):ao P w K mg base (bO P w) 3 f fd ["doors","size"] (b8 K uR):=by
 show F.de rK (λds M q x h=>?_) (λaQ A outer s H E' hr=>(_,(ζ (ah (JW.jt (e_ (rN (bz E.bb (Ν (jv 0) θ)) ξ) (fk (A4 (bz E.bb (Ν (jv 0) θ)) (uF E.rS))))) (μ (ψ wL)) Ι)
   (μ (ψ (K1 E.xn (ι (hI (ys:=["size"]) (ag:=[1]) (.of rK rfl rfl rfl) (bC (jv 0)) (λC s H fp=>(Φ mS hr (gF (P:=P) (w:=w)) (Ν (jv 0) (Ν (jv 1) θ))))) θ))))),λds M q x h=>?_))
 .let(d,size,ds,ok,rfl,_):=h;rfl
 .let(d,size,ds,ok,rfl,hl,hz,h):=h;let hs:=oV hl;walk_at "vc";show af hs (λh1=>?_,λh1=>?_)
  .show(λ_=>?_,nofun);let e:au ds size=false:=by
    have:(-ds:Int) < 1:=by simpa using h1
    unfold au;rw[aa6 ()];rfl
   rw[<-e];show h
  .let h1:¬(-ds:Int) < 1:=by simpa using h1
   show af hs (λh2=>?_,λh2=>?_)
   .let e:au ds size=false:=by
     have:6 < (-ds:Int):=by simpa using h2
     unfold au;rw[aa6 (p:=-ds<=6) (),Bool.and_false];rfl
    rw[<-e];show h
   .let h2:¬6 < (-ds:Int):=by simpa using h2
    show e6 rfl hl (by rw[aae];show aaF hz @_,?_);show fT (f:=λd=>.bl (match d with| .tup (.int t:: .tup [.int a,.int b]::_)=>aM t (a, b) size| _=>false)) (sV hl) (λx hx q hq=>?_) ?_
    .let(y,_,rfl):=aam.mp hx;show(y.1,y.2.1,y.2.2.map Ξ,size,rfl,hq)
    .show(ds.map λd=>aM d.1 d.2.1 size,?_,?_)
     .rw[aa4,abx,aa4];rfl
     .let e:au ds size=(ds.map λd=>aM d.1 d.2.1 size).all id:=by unfold au;rw[aa2 (show 1<=-ds by omega),aa2 (show -ds<=6 by omega),List.all_map];rfl
      rw[<-e];show h
def bT(cs:List Fr):Int:=cs.foldl (λb c=>b * c.2 / g b c.2) 1
def pK{c:Int}(hb:0 < b)(hc:0 < c):0 < b * c / g b c/\b * c / g b c<=b * c/\0 < g b c/\g b c<=c:=by
 let hg:0 < g b c:=AQ ();let hbc:0 < b * c:=abC hb hc;let hd:g b c∣c:=Int.gcd_dvd_right ..;let hle:g b c<=c:=ac1 hc hd;let h1:c<=b * c:=by have:=abp (show 1<=b by omega) (show 0<=c by omega);simpa using this
 show(Int.ediv_pos_of_pos_of_dvd hbc () (Int.dvd_mul_of_dvd_right hd),?_,hg,hle);show ada _ ()
def RF(cs:List Fr):Prop:=-cs<=12/\∀c∈cs,0 < c.2/\c.2 < 2 ^ 200/\c.1.natAbs < 2 ^ 200
def OkB(cs:List Fr):Prop:=-cs<=13/\∀c∈cs,0 < c.2/\c.2 < 2 ^ 200
def qP:∀(cs:List Fr) (b:Int) (k:Nat),0 < b->b<=2 ^ (200 * k)->(∀c∈cs,0 < c.2/\c.2 < 2 ^ 200)->0 < cs.foldl (λb c=>b * c.2 / g b c.2) b/\cs.foldl (λb c=>b * c.2 / g b c.2) b<=2 ^ (200 * (k+-cs))
 | [],b,k,h0,h1,_=>(h0,h1)
 | c::cs,b,k,h0,h1,hc=>by
  let(c0,c1):=hc c aah;let(s0,s1,_):=pK h0 c0;let P4:b * c.2 / g b c.2<=2 ^ (200 * (k+1)):=by show acp s1 ?_;rw[show 200 * (k+1)=200 * k+200 by omega,Int.pow_add];show acw h1 (aar c1) (aar c0) (aar (Int.pow_pos @_))
  have:=qP cs _ (k+1) s0 P4 λd hd=>hc d (aaf _ hd);rw[acy,aaN,show k+(-cs+1)=k+1+-cs by omega];show this
def UH{n:Int}{k:Nat}(h0:0<=n)(h:n<=2 ^ k)(hk:k < 8000):fJ n:=by
 show bg (k:=k+1) ?_ hk;have:(n.natAbs:Int) < ((2 ^ (k+1):Nat):Int):=by rw[ab8 h0,Int.natCast_pow,acM];have:(0:Int) < 2 ^ k:=Int.pow_pos @_;change n < 2 ^ k * 2;omega
 show acG.mp this
def gB:∀(cs:List Fr) (b:Int),0 < b->(∀c∈cs,0 < c.2)->0 < cs.foldl (λb c=>b * c.2 / g b c.2) b
 | [],_,h0,_=>h0
 | c::cs,b,h0,hc=>gB cs _ (pK h0 (hc c aah)).1 λd hd=>hc d (aaf _ hd)
def sv{n:Int}{k:Nat}(h0:0<=n)(h:n < 2 ^ k)(hk:k<=8000):fJ n:=by
 show bg (k:=k) ?_ hk;have:(n.natAbs:Int) < ((2 ^ k:Nat):Int):=by rw[ab8 h0,Int.natCast_pow];show h
 show acG.mp this
def jg:DF:=λds M q _=>∃cs:List Fr,ds=[.lst (cs.map Ξ)]/\OkB cs/\q (.int (bT cs)) M
def fq:Δ ["chances","bottom","chance"] ["chances"] (τ jq):=.of rfl
def sA(F:cz K "common_bottom" "common_bottom" jq f fd)(E:Ev K mg w Cm)(bV:aq P w K mg base 1 "common_divisor" ["one","other"] JN iG iu):ao P w K mg base (bO P w) 2 f fd ["chances"] (b8 K jg):=by
 show F.de fq (λds M q x h=>?_) (λaQ A outer s H E' hr=>(_,(ζ (χ 1 fq.nd ξ)
   (ζ (c8 (bC (jv 0)) (ai (i:=2) fq.nd rfl (Or.inl rfl)) aB (μ (χ 1 fq.nd (kG (az (jv 1) (ω (jv 2) ξ)) (Φ bV hr ν (Ν (jv 1) (ι (ω (jv 2) ξ) θ aw)))))))
   (μ (ψ (jv 1))))),λds M q x h=>?_))
 .let(cs,rfl,_):=h;rfl
 .let(cs,rfl,(hz,hc),h):=h;walk_at "vc";show e6 (i:=0) rfl rfl ?_;show bN (λxs ρ M'=>M'=M/\∃bR rest r,cs=bR++rest/\xs=rest.map Ξ/\ρ=[!(.lst (cs.map Ξ)),!(.int (bT bR)),r]) (λ_ _ _ _=>trivial) (λx xs ρ M' hj et=>?_) (λρ M' hj=>?_) _ _ _ (rfl,[],cs,none,rfl,rfl,rfl)
  .let(rfl,bR,rest,r,e,ex,rfl):=hj;cases rest with
   | nil=>cases ex
   | cons c rest=>
    cases ex;let hd:∀d∈bR,0 < d.2/\d.2 < 2 ^ 200:=λd hd=>by let(a,b):=hc d (by rw[e];show ac5 _ hd);show(a,b)
    let(c0,c1):=hc c (by rw[e];show aaJ _ aah);let(b0,b1):=qP bR 1 0 @_ @_ hd;let hl:-bR<=13:=by have:=abq List.length e;rw[aak]at this;omega
    let(s0,s1,g0,g1):=pK b0 c0;show((UH (aar b0) b1 (),sv (aar c0) c1 @_),(g0,sv (aar g0) (abm g1 c1) @_),?_);show et _ _ (rfl,bR++[c],rest,!(Ξ c),by rw[e];simp,rfl,?_);let e2:bT (bR++[c])=bT bR * c.2 / g (bT bR) c.2:=by unfold bT;rw[List.foldl_append];rfl
    rw[e2];rfl
  .let(rfl,bR,rest,r,e,ex,rfl):=hj;cases rest with
   | nil=>rw[abw]at e;subst e;show h
   | cons c rest=>cases ex
noncomputable def ay(cs:List Fr):Bool:= ! (cs.any λc=>decide (c.1<=0))&&(decide ((cs.map λc=>c.1 * (bT cs / c.2)).sum=bT cs)&&decide (bT cs<=1000000))
def oQ:DF:=λds M q _=>∃cs:List Fr,ds=[.lst (cs.map Ξ)]/\RF cs/\q (.bl (ay cs)) M
def eC:Δ ["chances","bottom","whole"] ["chances"] (τ j6):=.of rfl
def uw(F:cz K "fits_chances" "fits_chances" j6 f fd)(E:Ev K mg w Cm)(cy:aq P w K mg base 2 "common_bottom" ["chances"] jg i8 jj):ao P w K mg base (bO P w) 3 f fd ["chances"] (b8 K oQ):=by
 show F.de eC (λds M q x h=>?_) (λaQ A outer s H E' hr=>(_,(ζ (ah (ba (WZ E.FI (ι (hI (ys:=[]) (ag:=[]) (.of eC rfl rfl rfl) (bC (jv 0)) (λC s H fp=>(zt (ω (jv 0) ξ) ξ))) θ))) (μ (ψ wL)) Ι)
   (ζ (χ 1 eC.nd (Φ cy hr ν (Ν (jv 0) θ)))
   (ζ (χ 2 eC.nd (QS E.BK (ι (hI (ys:=["bottom"]) (ag:=[1]) (.of eC rfl rfl rfl) (bC (jv 0)) (λC s H fp=>(az (ω (jv 0) ξ) (kG (jv 1) (ω (jv 0) ξ))))) θ)))
   (μ (ψ (gU (N9 hr (jv 2) (jv 1)) (kz (zt (jv 1) (uF E.jX))))))))),λds M q x h=>?_))
 .let(cs,rfl,_):=h;rfl
 .let(cs,rfl,Nv,h):=h;let(hz,hc):=id Nv;let Qx:-(cs.map Ξ)<=sizeLine:=by rw[aae];show aaF hz @_
  let(b0,b1):=qP cs 1 0 @_ @_ λc h=>((hc c h).1,(hc c h).2.1);walk_at "vc";show e6 (i:=0) rfl rfl (Qx,?_);show fT (f:=λd=>.bl (match d with| .tup [.int a,.int b]=>decide (a<=0)| _=>false)) trivial (λx hx q hq=>?_) ?_
  .let(y,_,rfl):=aam.mp hx;show hq
  .show(cs.map λc=>decide (c.1<=0),by rw[aa4,abx,aa4];rfl,λ_ z=>(nomatch z),λ_ z=>(nomatch z),?_);let ea:(cs.map λc=>decide (c.1<=0)).any id=cs.any λc=>decide (c.1<=0):=by rw[List.any_map];rfl
   rw[ea];show(λh1=>?_,λh1=>?_)
   .let e:ay cs=false:=by unfold ay;rw[h1];rfl
    rw[<-e];show h
   .show(cs,rfl,((),λc h=>((hc c h).1,(hc c h).2.1)),?_);walk_at "vc";show e6 (i:=0) rfl rfl (Qx,?_);show fT (f:=λd=>.int (match d with| .tup [.int a,.int b]=>a * (bT cs / b)| _=>0)) trivial (λx hx q hq=>?_) ?_
    .let(y,hy,rfl):=aam.mp hx;let(y0,y1,y2):=hc y hy;show((y0,sv (aar y0) y1 @_),(bg y2,?_),hq);show UH (k:=200 * (0+-cs)) (Int.ediv_nonneg (aar b0) (aar y0)) (acp (ada _ (aar b0)) b1) ()
    .show(cs.map λc=>c.1 * (bT cs / c.2),by rw[aa4,abx,aa4];rfl,(_,_,rfl),?_);show(λh2=>?_,λh2=>?_)
     .let e:ay cs=decide (bT cs<=1000000):=by unfold ay;rw[h1,h2];rfl
      rw[e]at h;show h
     .let e:ay cs=false:=by unfold ay;rw[h1,h2];rfl
      rw[<-e];show h
inductive Rw where
 | fin (p:Fr)
 | υ (k:Str) (ds:List bU)
noncomputable def Γ(d:bU):Fr:=d.2.2.headD (0, 1)
def gZ:Rw->Prop
 | .fin p=>0 < p.2
 | .υ k ds=>k≠"end"/\-ds<=12/\(k="chance"->(∀d∈ds,d.2.2=[Γ d])/\RF (ds.map Γ))/\∀d∈ds,-d.2.2<=1/\0 < d.2.1.2
def kS(M:Ms)(d:Dt):Rw->Prop
 | .fin p=>d= .tup [.str "end",Ξ p]
 | .υ k ds=>∃e ok,d= .tup [.str k,e]/\mE M e=!(ds.map dW, ok)
noncomputable def ar:Rw->Dt
 | .fin p=>.tup [.str "end",Ξ p]
 | .υ k ds=>.tup [.str k,.lst (ds.map dW)]
def PD(M:Ms)(r:Rw):kS M (ar r) r:=by
 cases r with
 | fin p=>rfl
 | υ k ds=>show(_,_,rfl,rfl)
def qu(p:Fr):(Ξ p).under n:=(trivial,trivial,trivial)
def FJ{n:Nat}:∀(ps:List Fr),Dt.ck n (ps.map Ξ)
 | []=>trivial
 | p::ps=>(qu p,FJ ps)
def Tq(d:bU):(dW d).under n:=(trivial,qu _,FJ _)
def iY{n:Nat}:∀(ds:List bU),Dt.ck n (ds.map dW)
 | []=>trivial
 | d::ds=>(Tq d,iY ds)
def O6(r:Rw):(ar r).under n:=by
 cases r with
 | fin p=>show(trivial,qu p,trivial)
 | υ k ds=>show(trivial,iY ds,trivial)
def tS{n:Nat}:∀(rs:List Rw),Dt.ck n (rs.map ar)
 | []=>trivial
 | r::rs=>(O6 r,tS rs)
noncomputable def Η(k:Str):Bool:=k=="one"|| k=="other"
noncomputable def gq(r:Rw)(size:Int):Bool:=match r with
 | .fin p=>bA p
 | .υ k ds=>if Η k then au ds size else if k="chance" then au ds size&&ay (ds.map Γ) else false
def Bm{j:Int}{ρ:En}{ok:Ms->Prop}{q:List Dt->(Ms->Prop)->Ms->Prop}(hv:ρ[i]? =!(!(.tup ds)))(hj:jT ds j=!d)(hl:mE M d=!(xs, ok))(h:q xs ok M):fL (ju aW (EZ i) (dC (.int j))) ρ M q x:=by unfold fL ju EZ;rw[hv];change aW (.tup ds) (.int j) M (λd M1=>match rW M1 d with| some (xs, ok)=>q xs ok M1| none=>False);show Ε rfl hj ?_;change(match rW M d with| some (xs, ok)=>q xs ok M| none=>False);rw[AX hl];show h
def vv{k:Str}:NA (.str k) [.str "one",.str "other"]=Η k:=by change((("one":Str)==k)|| ((("other":Str)==k)|| false))=(k=="one"|| k=="other");rw[Bool.or_false,BEq.comm (a:=("one":Str)),BEq.comm (a:=("other":Str))]
def CK:DF:=λas M q _=>∃d r size,as=[d,.int size]/\kS M d r/\gZ r/\q (.bl (gq r size)) M
def qj:Δ ["row","size","kind"] ["row","size"] (τ uV):=.of rfl
def DM(F:cz K "fits_row" "fits_row" uV f fd) (E:Ev K mg w Cm)   (hX:aq P w K mg base 1 "fits_pay" ["pay"] vG t_ tO)   (iS:aq P w K mg base 3 "fits_doors" ["doors","size"] uR E6 DC)   (i6:aq P w K mg base 3 "fits_chances" ["chances"] oQ za yA):ao P w K mg base (bO P w) 4 f fd ["row","size"] (b8 K CK):=by
 show F.de qj (λds M q x h=>?_) (λaQ A outer s H E' hr=>(_,(ζ (χ 2 qj.nd (ω (jv 0) ξ))
   (ζ (ah (bL hr (jv 2) g8) (μ (ψ (Φ hX hr ν (ι (ω (jv 0) ξ) θ aw)))) Ι)
   (ζ (ah (Lv (jv 2) (Kl E.zK)) (μ (ψ (Φ iS hr ν (ι (ω (jv 0) ξ) (Ν (jv 1) θ) aw)))) Ι)
   (ζ (ah (bL hr (jv 2) g8) (μ (ψ (gU (Φ iS hr ν (ι (ω (jv 0) ξ) (Ν (jv 1) θ) aw)) (kz (Φ i6 hr ν (ι (hI (ys:=[]) (ag:=[]) (.of qj rfl rfl rfl) (bC (ω (jv 0) ξ)) (λC s H fp=>(ω (jv 0) ξ))) θ)))))) Ι)
   (μ (ψ wL)))))),λds M q x h=>?_))
 .let(d,r,size,rfl,_):=h;rfl
 .let(d,r,size,rfl,ra,ro,h):=h;cases r with
  | fin p=>
   let ra:d= .tup [.str "end",Ξ p]:=ra;subst ra;show(λ_=>(p,rfl,h),nofun)
  | υ k ds=>
   let(e,ok,rfl,hl):=ra;let(hk,hz,C3,_):=ro;show(λz=>abe (aan z) hk,λ_=>?_);show(.str k,[.str "one",.str "other"],[.str "one",.str "other"],rfl,rfl,rfl,?_);rw[vv];show(λh1=>?_,λh1=>?_)
   .show(e,size,ds,ok,rfl,hl,(),?_);let e1:gq (.υ k ds) size=au ds size:=by change(if Η k then _ else _)=_;rw[aa0 h1]
    rw[<-e1];show h
   .let e1:gq (.υ k ds) size=if k="chance" then au ds size&&ay (ds.map Γ) else false:=by change(if Η k then _ else _)=_;rw[aa3 (by rw[h1];decide)]
    rw[e1]at h;show(λh2=>?_,λh2=>?_)
    .let h2:k="chance":=aan h2;rw[aa0 h2]at h;let(Pj,Nv):=C3 h2;show(e,size,ds,ok,rfl,hl,(),λh3=>?_,λh3=>?_)
     .rw[h3,Bool.true_and]at h;change fL _ _ _ _ _;show Bm (i:=0) (j:=1) (ds:=[.str k,e]) rfl (Θ (j:=1) rfl) hl (by rw[aae];show aaF hz @_,?_);show fT (f:=λd=>match d with| .tup [_,_,c]=>c| _=>.bc) (sV hl) (λx hx q hq=>?_) ?_
      .let(y,hy,rfl):=aam.mp hx;let ey:dW y= .tup [.int y.1,Ξ y.2.1,Ξ (Γ y)]:=by unfold dW;rw[Pj y hy];rfl
       rw[ey]at hq⊢;show hq
      .show(ds.map Γ,?_,Nv,h);rw[abx,aa4,aa4];have:∀y∈ds,((λd=>match d with| Dt.tup [_,_,c]=>c| _=>Dt.bc) ∘ dW) y=(Ξ ∘ Γ) y:=λy hy=>by
        let ey:dW y= .tup [.int y.1,Ξ y.2.1,Ξ (Γ y)]:=by unfold dW;rw[Pj y hy];rfl
        change(match dW y with| Dt.tup [_,_,c]=>c| _=>Dt.bc)=Ξ (Γ y);rw[ey]
       rw[abO this]
     .rw[h3,Bool.false_and]at h;show h
    .let h2:k≠"chance":=aba h2;rw[aa3 h2]at h;show h
def uY:DF:=λas M q _=>∃d r,as=[d]/\kS M d r/\gZ r/\match r with
 | .fin p=>q (.tup [.str "end",Ξ p]) M
 | .υ k ds=>q (.tup [.str k,.loc (-M)]) (M++[.lst (ds.map dW)])
def BE:Δ ["row"] ["row"] (τ ot):=.of rfl
def Au(F:cz K "copied_row" "copied_row" ot f fd)(E:Ev K mg w Cm):ao P w K mg base (bO P w) 1 f fd ["row"] (b8 K uY):=by
 show F.de BE (λds M q x h=>?_) (λaQ A outer s H E' hr=>(_,(ζ (ah (bL hr (ω (jv 0) ξ) g8) (μ (ψ (fe (ι (ω (jv 0) ξ) (ι (ω (jv 0) ξ) θ aw) aw)))) Ι)
   (μ (ψ (fe (ι (ω (jv 0) ξ) (ι (zX E.kg (ι (ω (jv 0) ξ) θ aw)) θ aX) aw))))),λds M q x h=>?_))
 .let(d,r,rfl,_):=h;rfl
 .let(d,r,rfl,ra,ro,h):=h;cases r with
  | fin p=>
   let ra:d= .tup [.str "end",Ξ p]:=ra;subst ra;show(λ_=>(k3,h),nofun)
  | υ k ds=>
   let(e,ok,rfl,hl):=ra;show(λz=>abe (aan z) ro.1,λ_=>?_);change(match gR M e with| some xs=>_| none=>False);rw[oV hl];show(k3,h)
noncomputable def aZ(p:Fr):Bool:=decide (0<=p.1)&&(decide (p.1 < p.2)&&decide (p.2<=1000))
def vH:DF:=λas M q _=>∃p,as=[Ξ p]/\q (.bl (aZ p)) M
def B5:Δ ["share"] ["share"] (τ oi):=.of rfl
def yV(F:cz K "fits_share" "fits_share" oi f fd)(E:Ev K mg w Cm):ao P w K mg base (bO P w) 1 f fd ["share"] (b8 K vH):=by
 show F.de B5 (λds M q x h=>?_) (λaQ A outer s H E' hr=>(_,(μ (ψ (gU (zt ξ (ω (jv 0) ξ)) (gU (LU (ω (jv 0) ξ) (ω (jv 0) ξ)) (kz (zt (ω (jv 0) ξ) (uF E.iL))))))),λds M q x h=>?_))
 .let(p,rfl,_):=h;rfl
 .let(p,rfl,h):=h;unfold aZ at h;show(λh1=>(λh2=>?_,λh2=>?_),λh1=>?_)
  .rw[show decide (0<=p.1)=true from h1,show decide (p.1 < p.2)=true from h2]at h;show h
  .rw[show decide (0<=p.1)=true from h1,show decide (p.1 < p.2)=false from h2]at h;show h
  .rw[show decide (0<=p.1)=false from h1]at h;show h
def PZ{c S:Int}(hb:b∣S)(hc:c∣S)(NB:0 < b)(hc0:0 < c):b * c / g b c∣S/\b∣b * c / g b c/\c∣b * c / g b c:=by
 let e:b * c / g b c=(Int.lcm b c:Nat):=by
  let h:=Int.gcd_mul_lcm b c;let hg:0 < g b c:=AQ ();let h2:((Int.gcd b c:Nat):Int) * ((Int.lcm b c:Nat):Int)=b * c:=by rw[<-Int.natCast_mul,h,Int.natCast_mul,ab8 (aar NB),ab8 (aar hc0)]
  rw[<-h2];show Int.mul_ediv_cancel_left _ (by unfold g at hg;omega)
 rw[e];show(Int.coe_lcm_dvd hb hc,Int.dvd_lcm_left ..,Int.dvd_lcm_right ..)
def jC:∀(cs:List Fr) (b S:Int),0 < b->b∣S->(∀c∈cs,0 < c.2/\c.2∣S)->cs.foldl (λb c=>b * c.2 / g b c.2) b∣S/\b∣cs.foldl (λb c=>b * c.2 / g b c.2) b/\∀c∈cs,c.2∣cs.foldl (λb c=>b * c.2 / g b c.2) b
 | [],b,S,_,h,_=>(h,Int.dvd_refl b,λc hc=>nomatch hc)
 | c::cs,b,S,h0,h,hc=>by
  let(c0,cS):=hc c aah;let(d1,d2,d3):=PZ h cS h0 c0;let(i1,i2,i3):=jC cs _ S (pK h0 c0).1 d1 λx hx=>hc x (aaf _ hx);rw[acy];show(i1,Int.dvd_trans d2 i2,λx hx=>?_);rcases abg.mp hx with rfl| hx
  .show Int.dvd_trans d3 i2
  .show i3 x hx
def rV(m:Int)(f:Int->Int):∀(ws:List Int),(ws.map λw=>m * f w).sum=m * (ws.map f).sum
 | []=>by simp
 | w::ws=>by simp only[List.map_cons,List.sum_cons];rw[rV m f ws,Int.mul_add]
def Bj(h:0 < b):(aD t b).2∣b:=by let(p,q,e,_,_,_,eb):=h9 (t:=t) (show b≠0 by omega);rw[e];show(dv t b,by change b=q * dv t b;rw[abV];show eb)
def AZ(ht:0 < t)(h:0 < b):0 < (aD t b).1:=by let hc:=cE (t:=t) (show b≠0 by omega);let hp:=cY (t:=t) (show b≠0 by omega);let h1:0 < t * (aD t b).2:=abC ht hp;rw[hc]at h1;show Int.pos_of_mul_pos_right h1 h|> λz=>z
def EH{ws:List Int}{S:Int}(hS:ws.sum=S)(hw:∀w∈ws,0 < w)(hn:ws≠[])(hS1:S<=1000000)(hz:-ws<=12):ay (ws.map λw=>aD w S)=true/\RF (ws.map λw=>aD w S):=by
 let pos:∀{l:List Int},(∀w∈l,0 < w)->0<=l.sum/\(l≠[]->0 < l.sum)/\∀w∈l,w<=l.sum:=by
  intro l
  induction l with
  | nil=>exactλ_=>(by simp,λz=>absurd rfl z,λw hw=>nomatch hw)
  | cons a l ih=>
   intro h;let(i1,i2,i3):=ih λw hw=>h w (aaf _ hw);have:=h a aah;rw[List.sum_cons];show((),λ_=>(),λw hw=>?_);rcases abg.mp hw with rfl| hw
   .omega
   .have:=i3 w hw;omega
 let(_,p2,p3):=pos hw;let S0:0 < S:=by rw[<-hS];show p2 hn
 let T7:S≠0:=()
 let hd:∀c∈ws.map (λw=>aD w S),0 < c.2/\c.2∣S:=λc hc=>by let(w,_,rfl):=aam.mp hc;show(cY T7,Bj S0)
 let((m,hm),_,hB):=jC (ws.map λw=>aD w S) 1 S @_ (Int.one_dvd _) hd;let B0:0 < bT (ws.map λw=>aD w S):=by show(gB (ws.map λw=>aD w S) 1 @_ λc hc=>(hd c hc).1)
 generalize Z3:bT (ws.map λw=>aD w S)=B at *
 let hm:S=B * m:=by rw[<-Z3];show hm
 let m0:0 < m:=by
  rcases Int.lt_trichotomy m 0 with h| h| h
  .have:=acO B0 h;omega
  .rw[h,Int.mul_zero]at hm;omega
  .show h
 let key:((ws.map λw=>aD w S).map λc=>c.1 * (B / c.2)).sum=B:=by
  let e1:∀w∈ws,m * ((aD w S).1 * (B / (aD w S).2))=w:=λw hw=>by
   let hb:(aD w S).2∣B:=by rw[<-Z3];show hB _ (aam.mpr (w,hw,rfl))
   let(k,hk):=hb;let q0:=cY (t:=w) T7;let e2:B / (aD w S).2=k:=by rw[hk];show ack _ ()
   let hc:=cE (t:=w) T7;rw[e2];let hS':S=(aD w S).2 * k * m:=by rw[<-hk];show hm
   generalize (aD w S).1=x at *
   generalize (aD w S).2=y at *
   let e4:S * x=y * (m * (x * k)):=by rw[hS'];simp only[Int.mul_assoc,Int.mul_comm,Int.mul_left_comm]
   let e3:y * (m * (x * k))=y * w:=by rw[<-e4,<-hc,abV]
   show abI () e3
  let e5:m * ((ws.map λw=>aD w S).map λc=>c.1 * (B / c.2)).sum=m * B:=by rw[aa4];change m * (ws.map λw=>(aD w S).1 * (B / (aD w S).2)).sum=m * B;rw[<-rV,abO e1,List.map_id',hS,hm,abV]
  show abI () e5
 show(?_,(by rw[aae];show hz,λc hc=>?_))
 .unfold ay;rw[Z3,key];let ha:((ws.map λw=>aD w S).any λc=>decide (c.1<=0))=false:=by rw[List.any_eq_false];intro c hc;let(w,XS,rfl):=aam.mp hc;have:=AZ (hw w XS) S0;simpa using this
  let hle:B<=S:=by have:=aaT (show 1<=m by omega) (aar B0);rw[Int.mul_one,<-hm]at this;show this
  rw[ha,aa2 rfl,aa2 (show B<=1000000 by omega)];rfl
 .let(w,XS,rfl):=aam.mp hc;let q0:=cY (t:=w) T7;let l1:=uX (t:=w) T7;let l2:=kT (t:=w) T7;have:=p3 w XS;let w0:=hw w XS;let big:(1000000:Int) < 2 ^ 200:=@_
  let ahq:1000000 < 2 ^ 200:=@_
  show(q0,(),())
def dt{α:Type}{te:DE}{cs:En}{ok:Ms->Prop}{F:Dt->α->Prop}{f:α->Dt}{M:Ms}{k:List Dt->Ms->Prop}(ho:ok M)(ht:∀x a,F x a->∀q:DQ,q (f a) M->te ((!x)::cs) M q mD):∀{xs:List Dt} {as:List α} {Μ:List Dt},Paired F xs as->k (Μ++as.map f) M->vK te cs ok xs Μ M k
 | _,_,Μ,.nil,h=>(ho,by simpa using h)
 | _,_,Μ,.cons r t,h=>(ho,ht _ _ r _ (dt ho ht t (by simpa using h)))
def B7{k:Nat}{C:Addr}{ys:List Dt}{ok:Ms->Prop}(hk:M[k]? =!(.ins C ns xs))(h:mE M e=!(ys, ok)):mE (M.set k (.ins C' ns' xs')) e=!(ys, ok):=by
 cases e with
 | lst ds=>show h
 | i_ ns=>show h
 | loc j=>
  let h:(match M[j]? with| some (.lst xs)=>!(xs, λM':Ms=>M'[j]? =!(.lst xs))| _=>none)=!(ys, ok):=h;let ne:k≠j:=λz=>by subst z;rw[hk]at h;cases h
  change(match (M.set k (.ins C' ns' xs'))[j]? with| some (.lst xs)=>!(xs, λM':Ms=>M'[j]? =!(.lst xs))| _=>none)=!(ys, ok);rw[abi ne];show h
 | _=>cases h
def Im{k:Nat}{C:Addr}(hk:M[k]? =!(.ins C ns xs))(h:kS M d r):kS (M.set k (.ins C' ns' xs')) d r:=by
 cases r with
 | fin p=>show h
 | υ k' ds=>
  let(e,ok,h1,h2):=h;show(e,ok,h1,B7 hk h2)
noncomputable def ax(C:Addr)(ε:Fr)(γ:List Rw):Dt:=.obj C ["kept_share","kept_rows"] [Ξ ε,.lst (γ.map ar)]
def QB(Cm:Addr):DF:=λas M q _=>∃k d ε ds γ ok,as=[.loc k,Ξ ε,d]/\M[k]? =!(.ins Cm [] [])/\mE M d=!(ds, ok)/\Paired (kS M) ds γ/\aZ ε=true/\1<=-γ/\-γ<=12/\
 (∀r∈γ,gZ r/\gq r (-γ)=true)/\q .bc (M.set k (.ins Cm ["kept_share","kept_rows"] [Ξ ε,.lst (γ.map ar)]))
def iT:Δ ["self","share","rows","place","row"] ["self","share","rows"] (τ nV):=.of rfl
set_option tactic.hygienic true
def Ad(F:cz K "__init__" "Floor.__init__" nV f fd)(E:Ev K mg w Cm)(lM:aq P w K mg base 1 "fits_share" ["share"] vH EK Fb)(rJ:aq P w K mg base 4 "fits_row" ["row","size"] CK Lz Ls)(k9:aq P w K mg base 1 "copied_row" ["row"] uY Eg E7):ao P w K mg base (bO P w) 5 f fd ["self","share","rows"] (b8 K (QB Cm)):=by
 show F.de iT (λds M q x h=>?_) (λaQ A outer s H E' hr=>(_,(ζ (ah (cG (ba (Φ lM hr ν (Ν (jv 1) θ)))) (μ iA) Ι)
   (ζ (ah (JW.jt (e_ (rN (bz E.bb (Ν (jv 2) θ)) ξ) (fk (A4 (bz E.bb (Ν (jv 2) θ)) (uF E.oH))))) (μ iA) Ι)
   (ζ (c8 (zZ E.e7 (Ν (jv 2) θ)) (rC rfl (cP (ai (i:=3) iT.nd rfl (Or.inl rfl)) (cP (ai (i:=4) iT.nd rfl (Or.inl rfl)) mq))) qL (μ (ah (cG (ba (Φ rJ hr ν (Ν (jv 4) (ι (bz E.bb (Ν (jv 2) θ)) θ aX))))) (μ iA) Ι)))
   (ζ (GS E.eB E.gC (jv 0) (jv 1))
   (μ (GS E.eB E.cI (jv 0) (hI (ys:=[]) (ag:=[]) (.of iT rfl rfl rfl) (bC (jv 2)) (λC s H fp=>(da (Φ k9 hr (gF (P:=P) (w:=w)) (Ν (jv 0) θ))))))))))),λds M q x h=>?_))
 .let(k,d,ε,ds,γ,ok,rfl,_):=h;rfl
 .let(k,d,ε,ds,γ,ok,rfl,hk,hl,hp,hs,h1,h12,AH,h):=h;let hlen:-ds=-γ:=Paired.length hp;walk_at "vc";show(ε,rfl,λz=>?_,λ_=>?_)
  .rw[hs]at z;show nomatch z
  let ZX:=oV hl;show af ZX (λz=>?_,λ_=>?_)
  .have:(-ds:Int) < 1:=by simpa using z
   omega
  show af ZX (λz=>?_,λ_=>?_)
  .have:12 < (-ds:Int):=by simpa using z
   omega
  show(d,ds,ok,rfl,hl,?_);show bN (λxs ρ M'=>M'=M/\∃n oB Ga a b,xs=jB n oB/\Paired (kS M) oB Ga/\(∀r∈Ga,r∈γ)/\ρ=[!(.loc k),!(Ξ ε),!d,a,b]) (λxs ρ M' hj=>by let(rfl,_):=hj;show sV hl) (λx xs ρ M' hj et=>?_) (λρ M' hj=>?_) _ _ _ (rfl,0,ds,γ,none,none,rfl,hp,λ_ h=>h,rfl)
  .let(rfl,n,oB,Ga,a,b,ex,Ap,Yu,rfl):=hj;cases Ap with
   | nil=>cases ex
   | cons ra t=>
    rename_i d1 r1 ds1 VA;cases ex;show af ZX (d1,r1,-ds,rfl,ra,(AH r1 (Yu r1 aah)).1,λz=>?_,λ_=>?_)
    .rw[hlen,(AH r1 (Yu r1 aah)).2]at z;show nomatch z
    .show et _ _ (rfl,n+1,ds1,VA,_,_,rfl,t,λr hr=>Yu r (aaf _ hr),rfl)
  .let(rfl,n,oB,Ga,a,b,ex,Ap,Yu,rfl):=hj;let hkl:k < -M':=(aai.mp hk).1;show(k,[],[],rfl,hk,(nofun),@_,?_);let YY:=B7 (C':=Cm) (ns':=["kept_share"]) (xs':=[Ξ ε]) hk hl;dsimp only[QC,List.nil_append];change fL _ _ _ _ _;show e6 (i:=2) rfl YY (by rw[hlen];show aaF h12 @_,?_);let T6:Paired (λx a=>kS (M'.set k (.ins Cm ["kept_share"] [Ξ ε])) x a/\gZ a) ds γ:=by
    have:∀{xs:List Dt} {rs:List Rw},Paired (kS M') xs rs->(∀r∈rs,gZ r)->Paired (λx a=>kS (M'.set k (.ins Cm ["kept_share"] [Ξ ε])) x a/\gZ a) xs rs:=by
     intro xs rs hp
     induction hp with
     | nil=>exactλ_=>.nil
     | cons r t ih=>exactλh=>.cons (Im hk r,h _ aah) (ih λy hy=>h y (aaf _ hy))
    show this hp λr hr=>(AH r hr).1
   show dt (f:=ar) (sV YY) (λx a ha q' hq=>?ht) T6 ?fin
   case ht=>
    let(ha,ho):=ha;show(x,a,rfl,ha,ho,?_);cases a with
    | fin p=>show NV (trivial,qu p,trivial) hq
    | υ k2 r8=>show nh (.tup (.cons (.old trivial) (.cons (.Kt (Nat.le_refl _) (by simp) (kq.old (iY r8))) .nil))) hq
   case fin=>
    show(k,["kept_share"],[Ξ ε],rfl,by rw[abc hkl],@_,@_,?_);rw[acY];show h
set_option tactic.hygienic false
def kindOf:Rw->Str
 | .fin _=>"end"
 | .υ k _=>k
def Ο:Rw->List bU
 | .fin _=>[]
 | .υ _ ds=>ds
def Wl:Rw->Dt
 | .fin p=>Ξ p
 | .υ _ _=>.bc
def pP{γ:List Rw}(h:γ[i]? =!r):(γ.map ar)[i]? =!(ar r):=by rw[aas,h];rfl
def EE:∃e,ar r= .tup [.str (kindOf r),e]:=by
 cases r with
 | fin p=>show(_,rfl)
 | υ k ds=>show(_,rfl)
def B8(C:Addr):DF:=λas M q _=>∃ε γ,as=[ax C ε γ]/\q (.int (-γ)) M
def Bt:Δ ["self"] ["self"] (τ m_):=.of rfl
def yT(F:cz K "size" "Floor.size" m_ f fd)(E:Ev K mg w Cm):ao P w K mg base (bO P w) 1 f fd ["self"] (b8 K (B8 Cm)):=by
 show F.de Bt (λds M q x h=>?_) (λaQ A outer s H E' hr=>(_,(μ (ψ (bz E.bb (ι (uW E.eB E.cI (jv 0)) θ)))),λds M q x h=>?_))
 .let(ε,γ,rfl,_):=h;rfl
 .let(ε,γ,rfl,h):=h;show(_,_,_,.inl rfl,rfl,?_);change eQ [.lst (γ.map ar)] M _;show af (xs:=γ.map ar) rfl ?_;rw[aae];show h
def Me(C:Addr):DF:=λas M q _=>∃ε γ,as=[ax C ε γ]/\q (Ξ ε) M
def Ar:Δ ["self"] ["self"] (τ lC):=.of rfl
def wF(F:cz K "share" "Floor.share" lC f fd)(E:Ev K mg w Cm):ao P w K mg base (bO P w) 1 f fd ["self"] (b8 K (Me Cm)):=by
 show F.de Ar (λds M q x h=>?_) (λaQ A outer s H E' hr=>(_,(μ (ψ (uW E.eB E.gC (jv 0)))),λds M q x h=>?_))
 .let(ε,γ,rfl,_):=h;rfl
 .let(ε,γ,rfl,h):=h;show(_,_,_,.inl rfl,rfl,h)
def oG(C:Addr):DF:=λas M q _=>∃ε γ i r,as=[ax C ε γ,.int (i:Nat)]/\γ[i]? =!r/\q (.str (kindOf r)) M
def B6:Δ ["self","place"] ["self","place"] (τ nM):=.of rfl
def Al(F:cz K "kind" "Floor.kind" nM f fd)(E:Ev K mg w Cm):ao P w K mg base (bO P w) 1 f fd ["self","place"] (b8 K (oG Cm)):=by
 show F.de B6 (λds M q x h=>?_) (λaQ A outer s H E' hr=>(_,(μ (ψ (ω (ω (uW E.eB E.cI (jv 0)) (jv 1)) ξ))),λds M q x h=>?_))
 .let(ε,γ,i,r,rfl,_):=h;rfl
 .let(ε,γ,i,r,rfl,hi,h):=h;show(_,_,_,.inl rfl,rfl,?_);walk_at "vc";show Ε (xs:=γ.map ar) rfl (Θ (pP hi)) ?_;let(e,er):=EE (r:=r);rw[er];show h
def uK(C:Addr):DF:=λas M q _=>∃ε γ i r,as=[ax C ε γ,.int (i:Nat)]/\γ[i]? =!r/\gZ r/\q (.loc (-M)) (M++[.lst ((Ο r).map dW)])
def zH:Δ ["self","place"] ["self","place"] (τ lP):=.of rfl
def wd(F:cz K "doors" "Floor.doors" lP f fd)(E:Ev K mg w Cm)(Υ:dD P w K mg base 1 Cm "kind" ["self","place"] (oG Cm) aU aT):ao P w K mg base (bO P w) 2 f fd ["self","place"] (b8 K (uK Cm)):=by
 show F.de zH (λds M q x h=>?_) (λaQ A outer s H E' hr=>(_,(ζ (ah (bL hr (b9 Υ hr ν (jv 0) (Ν (jv 1) θ)) g8) (μ (ψ (i7 θ))) Ι)
   (μ (ψ (zX E.kg (ι (ω (ω (uW E.eB E.cI (jv 0)) (jv 1)) ξ) θ aw))))),λds M q x h=>?_))
 .let(ε,γ,i,r,rfl,_):=h;rfl
 .let(ε,γ,i,r,rfl,hi,ro,h):=h;show((_,_,.inl rfl,rfl),ε,γ,i,r,rfl,hi,?_);cases r with
  | fin p=>show(λ_=>(@_,h),nofun)
  | υ k ds=>
   show(λz=>abe (aan z) ro.1,λ_=>?_);show(_,_,_,.inl rfl,rfl,?_);walk_at "vc";show Ε (xs:=γ.map ar) rfl (Θ (pP hi)) ?_;show h
def Ri(C:Addr):DF:=λas M q _=>∃ε γ i r,as=[ax C ε γ,.int (i:Nat)]/\γ[i]? =!r/\gZ r/\q (Wl r) M
def Ea:Δ ["self","place"] ["self","place"] (τ qg):=.of rfl
def BS(F:cz K "pay" "Floor.pay" qg f fd)(E:Ev K mg w Cm)(Υ:dD P w K mg base 1 Cm "kind" ["self","place"] (oG Cm) aU aT):ao P w K mg base (bO P w) 2 f fd ["self","place"] (b8 K (Ri Cm)):=by
 show F.de Ea (λds M q x h=>?_) (λaQ A outer s H E' hr=>(_,(ζ (ah (bL hr (b9 Υ hr ν (jv 0) (Ν (jv 1) θ)) g8) (μ (ψ (ω (ω (uW E.eB E.cI (jv 0)) (jv 1)) ξ))) Ι)
   (μ (ψ Ie))),λds M q x h=>?_))
 .let(ε,γ,i,r,rfl,_):=h;rfl
 .let(ε,γ,i,r,rfl,hi,ro,h):=h;show((_,_,.inl rfl,rfl),ε,γ,i,r,rfl,hi,?_);cases r with
  | fin p=>
   show(λ_=>?_,nofun);show(_,_,_,.inl rfl,rfl,?_);walk_at "vc";show Ε (xs:=γ.map ar) rfl (Θ (pP hi)) ?_;show h
  | υ k ds=>show(λz=>abe (aan z) ro.1,λ_=>h)
def jG{α:Type}(f:α->Dt):∀(xs ys:List α),(∀x∈xs,x∈ys)->Paired (λx a=>x=f a/\a∈ys) (xs.map f) xs
 | [],_,_=>.nil
 | x::xs,ys,h=>.cons (rfl,h x aah) (jG f xs ys λy hy=>h y (aaf _ hy))
def dM{q:DQ}(u:Dt.ck (-M) ds)(h:q (.lst ds) M):wy M q (.loc (-M)) (M++[.lst ds]):=nh (.Kt (aaq _) (by rw[adx];rfl) (kq.old u)) h
def Oe{q:DQ}(u:Dt.ck (-M) ds)(h:q (.lst ds) M):Cg [.lst ds] M (wy M q):=by change wy M q (.loc (-M)) (M++[.lst ds]);show dM u h
def AS{d:bU}{q:DQ}(h:q (Ξ d.2.1) M):aW (dW d) (.int 1) M q:=Ε (xs:=.int d.1::Ξ d.2.1::d.2.2.map Ξ) rfl (Θ (j:=1) rfl) h
def Gk{d:bU}{q:DQ}(h:q (.int d.1) M):aW (dW d) (.int 0) M q:=Ε (xs:=.int d.1::Ξ d.2.1::d.2.2.map Ξ) rfl aF h
def vf{k:Str}{q:DQ}(h:q e M):aW (.tup [.str k,e]) (.int 1) M q:=Ε (xs:=[.str k,e]) rfl (Θ (j:=1) rfl) h
def cU{g:Dt->En->(En->Prop)->Prop}(J:List Dt->En->Ms->Prop)
  (step:∀x xs ρ M,J (x::xs) ρ M->(∀ρ M,J xs ρ M->yj g tb Dn xs ρ M)->g x ρ λρ'=>tb {Dn with nx:=yj g tb Dn xs,ct:=yj g tb Dn xs,bk:=Dn.nx} ρ' M)
  (fin:∀ρ M,J [] ρ M->Dn.nx ρ M):∀(xs:List Dt) (ρ:En) (M:Ms),J xs ρ M->yj g tb Dn xs ρ M
 | [],ρ,M,h=>fin _ _ h
 | x::xs,ρ,M,h=>step x xs ρ M h λρ' M' h'=>cU J step fin xs ρ' M' h'
def cx{x:Dt}(h:x::xs=dJ lo n):∃m,n=m+1/\x= .int lo/\xs=dJ (lo+1) m:=by
 cases n with
 | zero=>show nomatch h
 | succ m=>
  unfold dJ at h;rw[acq,aa1,aa4]at h;cases h;show(m,rfl,by simp,?_);unfold dJ;apply abO;intro k _;change Dt.int (lo+((k+1:Nat):Int))=Dt.int (lo+1+(k:Int))
  congr 1
  omega
def vD{x:Dt}(h:x∈dJ lo n):∃k:Nat,k < n/\x= .int (lo+k):=by unfold dJ at h;let(k,hk,rfl):=aam.mp h;show(k,abG.mp hk,rfl)
def gI:-(dJ lo n)=n:=by unfold dJ;simp
def hW{n:Nat}:∀(xs:List Int),Dt.ck n (xs.map Dt.int)
 | []=>trivial
 | _::xs=>(trivial,hW xs)
def Lc{m:Int}:∀{l:List Int},(∀w∈l,w<=m)->l.sum<=-l * m
 | [],_=>by simp
 | a::l,h=>by let i:=Lc (l:=l) λw hw=>h w (aaf _ hw);have:=h a aah;rw[List.sum_cons,aaN,acQ,Int.add_mul];omega
def sQ(aV:Int)(r:Rw):Prop:=gZ r/\gq r aV=true
def Og{k:Str}{ds:List bU}(hk:Η k=true)(hz:1<=-ds)(YN:-ds<=6)(hd:∀d∈ds,aM d.1 d.2.1 aV=true)(hs:∀d∈ds,d.2.2=[]/\0 < d.2.1.2):sQ aV (.υ k ds):=by
 let fd:au ds aV=true:=by unfold au;rw[aa2 hz,aa2 YN,ab6.mpr hd];rfl
 let ne:k≠"end"/\k≠"chance":=by show(λz=>?_,λz=>?_) <;> (subst z;show abe hk @_)
 show((ne.1,(),λz=>abe z ne.2,λd h=>(by rw[(hs d h).1];show acR _,(hs d h).2)),?_);change(if Η k then _ else _)=true;rw[aa0 hk];show fd
def Iq{ds:List bU}(hz:1<=-ds)(YN:-ds<=6)(hd:∀d∈ds,aM d.1 d.2.1 aV=true)(h1:∀d∈ds,d.2.2=[Γ d])(hc:ay (ds.map Γ)=true)(ho:RF (ds.map Γ))(hp:∀d∈ds,0 < d.2.1.2):sQ aV (.υ "chance" ds):=by
 let fd:au ds aV=true:=by unfold au;rw[aa2 hz,aa2 YN,ab6.mpr hd];rfl
 show((@_,(),λ_=>(h1,ho),λd h=>(by rw[h1 d h];show aaq _,hp d h)),?_);let e:gq (.υ "chance" ds) aV=(au ds aV&&ay (ds.map Γ)):=by dsimp only[gq];rw[aa3 @_,aa0 rfl]
 rw[e,fd,hc];rfl
def O9{aV:Int}(h0:0<=t)(h1:t < aV)(hp:bA p=true):aM t p aV=true:=by unfold aM;rw[aa2 h0,aa2 h1,hp];rfl
def gX{xs:List Int}(h:j < -xs):jT (xs.map Dt.int) (j:Int)=!(.int xs[j]):=Θ (by rw[aas,aaa h];rfl)
def GF:∀{l:List Int},(∀w∈l,0 < w)->l≠[]->0 < l.sum
 | [],_,z=>abe rfl z
 | [a],h,_=>by have:=h a List.mem_cons_self;simpa using this
 | a::b::l,h,_=>by let i:=GF (l:=b::l) (λw hw=>h w (List.mem_cons_of_mem _ hw)) (by simp);have:=h a aah;rw[List.sum_cons];omega
def Sz(k:Nat)(p:Fr):Prop:=p.1.natAbs < 2 ^ k/\0 < p.2/\p.2.natAbs < 2 ^ k
noncomputable def g6(p q:Fr):Fr:=aD (p.1 * q.2+q.1 * p.2) (p.2 * q.2)
noncomputable def bt(p q:Fr):Fr:=aD (p.1 * q.1) (p.2 * q.2)
noncomputable def cZ(p q:Fr):Bool:=decide (p.1 * q.2 < q.1 * p.2)
def sW{k k':Nat}(h:Sz k p)(hk:k<=k'):Sz k' p:=
 (aaW h.1 (acC @_ hk),h.2.1,aaW h.2.2 (acC @_ hk))
def b7{a b k:Nat}(h:a < 2 ^ k)(h':b < 2 ^ l):a * b < 2 ^ (k+l):=by rw[Nat.pow_add];show Nat.mul_lt_mul'' h h'
def FL{k:Nat}(hb:0 < b)(h1:t.natAbs < 2 ^ k)(h2:b.natAbs < 2 ^ k):Sz k (aD t b):=
 (abE (uX ()) h1,cY (),abE (kT ()) h2)
def xu{q:Fr}{k:Nat}(hp:Sz k p)(hq:Sz l q):(p.1 * q.2+q.1 * p.2).natAbs < 2 ^ (k+l+1)/\(p.2 * q.2).natAbs < 2 ^ (k+l+1)/\0 < p.2 * q.2:=by
 let a:=b7 hp.1 hq.2.2;let b:=b7 hq.1 hp.2.2;let c:=b7 hp.2.2 hq.2.2;rw[Nat.add_comm l k]at b;let e:(2:Nat) ^ (k+l+1)=2 ^ (k+l)+2 ^ (k+l):=by rw[Nat.pow_succ];omega
 let hn:=Int.natAbs_add_le (p.1 * q.2) (q.1 * p.2);rw[ab4,ab4]at hn;show(by rw[e];omega,?_,abC hp.2.1 hq.2.1);rw[ab4,e];omega
def NG{q:Fr}{k:Nat}(hp:Sz k p)(hq:Sz l q):Sz (k+l+1) (g6 p q):=
 let (a,b,c):=xu hp hq
 FL c a b
def vR{q:Fr}{k:Nat}(hp:Sz k p)(hq:Sz l q):(p.1 * q.1).natAbs < 2 ^ (k+l)/\(p.2 * q.2).natAbs < 2 ^ (k+l)/\0 < p.2 * q.2:=by let a:=b7 hp.1 hq.1;let c:=b7 hp.2.2 hq.2.2;show(by rw[ab4];show a,by rw[ab4];show c,abC hp.2.1 hq.2.1)
def BG{q:Fr}{k:Nat}(hp:Sz k p)(hq:Sz l q):Sz (k+l) (bt p q):=
 let (a,b,c):=vR hp hq
 FL c a b
def g_{k:Nat}(h:Sz k p)(hk:k<=8000):fJ p.1:=bg h.1 hk
def d8{k:Nat}(h:Sz k p)(hk:k<=8000):fJ p.2:=bg h.2.2 hk
set_option tactic.hygienic true
def La(h:bA p=true)(h0:0 < p.2):Sz 101 p:=by
 unfold bA at h;rw[aaQ,aax,aax]at h;let(h1,h2):=h;let e1:(10:Int) ^ 30 < 2 ^ 101:=@_
 let n1:(p.1.natAbs:Int)<=10 ^ 30:=by split at h1 <;> omega
 show(?_,h0,?_)
 .have:(p.1.natAbs:Int) < ((2 ^ 101:Nat):Int):=abm n1 @_;show acG.mp this
 .have:(p.2.natAbs:Int) < ((2 ^ 101:Nat):Int):=abm (show(p.2.natAbs:Int)<=1000000 by omega) @_;show acG.mp this
set_option tactic.hygienic false
def oZ(h:aZ p=true):Sz 11 p:=by unfold aZ at h;rw[aaQ,aaQ,aax,aax,aax]at h;let(h1,h2,h3):=h;show((),(),())
def pv{p:Fr}{q:DQ}(h:q (.int p.1) M):aW (Ξ p) (.int 0) M q:=Ε (xs:=[.int p.1,.int p.2]) rfl aF h
def jw{p:Fr}{q:DQ}(h:q (.int p.2) M):aW (Ξ p) (.int 1) M q:=Ε (xs:=[.int p.1,.int p.2]) rfl (Θ (j:=1) rfl) h
def KO:DF:=λas M q _=>∃p r k l,as=[Ξ p,Ξ r]/\Sz k p/\Sz l r/\k+l+1<=8000/\q (Ξ (g6 p r)) M
def S':Δ ["one","other"] ["one","other"] (τ Kn):=.of rfl
def Oy(F:cz K "plus" "plus" Kn f fd)(E:Ev K mg w Cm)(bB:aq P w K mg base 2 "fraction" ["top","bottom"] ue fU fY):ao P w K mg base (bO P w) 3 f fd ["one","other"] (b8 K KO):=by
 show F.de S' (λds M q x h=>?_) (λaQ A outer s H E' hr=>(_,(μ (ψ (Φ bB hr ν (ι (cw (az (ω (jv 0) ξ) (ω (jv 1) ξ)) (az (ω (jv 1) ξ) (ω (jv 0) ξ))) (ι (az (ω (jv 0) ξ) (ω (jv 1) ξ)) θ bJ) bJ)))),λds M q x h=>?_))
 .let(p,r,k,l,rfl,_):=h;rfl
 .let(p,r,k,l,rfl,hp,fF,hk,h):=h;let(a,b,c):=xu hp fF;show((g_ hp (),d8 fF ()),(g_ fF (),d8 hp ()),(d8 hp (),d8 fF ()),bg b hk,λz=>abe z (),λ_=>h)
def zb:DF:=λas M q _=>∃p r k l,as=[Ξ p,Ξ r]/\Sz k p/\Sz l r/\k+l+1<=8000/\q (Ξ (bt p r)) M
def PF:Δ ["one","other"] ["one","other"] (τ Fl):=.of rfl
def Lg(F:cz K "times" "times" Fl f fd)(E:Ev K mg w Cm)(bB:aq P w K mg base 2 "fraction" ["top","bottom"] ue fU fY):ao P w K mg base (bO P w) 3 f fd ["one","other"] (b8 K zb):=by
 show F.de PF (λds M q x h=>?_) (λaQ A outer s H E' hr=>(_,(μ (ψ (Φ bB hr ν (ι (az (ω (jv 0) ξ) (ω (jv 1) ξ)) (ι (az (ω (jv 0) ξ) (ω (jv 1) ξ)) θ bJ) bJ)))),λds M q x h=>?_))
 .let(p,r,k,l,rfl,_):=h;rfl
 .let(p,r,k,l,rfl,hp,fF,hk,h):=h;let(a,b,c):=vR hp fF;show((g_ hp (),g_ fF ()),(d8 hp (),d8 fF ()),bg b (),λz=>abe z (),λ_=>h)
noncomputable def i9(p q:Fr):Fr:=aD (p.1 * q.2 - q.1 * p.2) (p.2 * q.2)
def Dm{q:Fr}{k:Nat}(hp:Sz k p)(hq:Sz l q):(p.1 * q.2 - q.1 * p.2).natAbs < 2 ^ (k+l+1)/\(p.2 * q.2).natAbs < 2 ^ (k+l+1)/\0 < p.2 * q.2:=by
 let a:=b7 hp.1 hq.2.2;let b:=b7 hq.1 hp.2.2;let c:=b7 hp.2.2 hq.2.2;rw[Nat.add_comm l k]at b;let e:(2:Nat) ^ (k+l+1)=2 ^ (k+l)+2 ^ (k+l):=by rw[Nat.pow_succ];omega
 let hn:(p.1 * q.2 - q.1 * p.2).natAbs<=(p.1 * q.2).natAbs+(q.1 * p.2).natAbs:=()
 rw[ab4,ab4]at hn;show(by rw[e];omega,?_,abC hp.2.1 hq.2.1);rw[ab4,e];omega
def JP:DF:=λas M q _=>∃p r k l,as=[Ξ p,Ξ r]/\Sz k p/\Sz l r/\k+l+1<=8000/\q (Ξ (i9 p r)) M
def Oi:Δ ["one","other"] ["one","other"] (τ Ft):=.of rfl
def Lm(F:cz K "minus" "minus" Ft f fd)(E:Ev K mg w Cm)(bB:aq P w K mg base 2 "fraction" ["top","bottom"] ue fU fY):ao P w K mg base (bO P w) 3 f fd ["one","other"] (b8 K JP):=by
 show F.de Oi (λds M q x h=>?_) (λaQ A outer s H E' hr=>(_,(μ (ψ (Φ bB hr ν (ι (r6 (az (ω (jv 0) ξ) (ω (jv 1) ξ)) (az (ω (jv 1) ξ) (ω (jv 0) ξ))) (ι (az (ω (jv 0) ξ) (ω (jv 1) ξ)) θ bJ) bJ)))),λds M q x h=>?_))
 .let(p,r,k,l,rfl,_):=h;rfl
 .let(p,r,k,l,rfl,hp,fF,hk,h):=h;let(a,b,c):=Dm hp fF;show((g_ hp (),d8 fF ()),(g_ fF (),d8 hp ()),(d8 hp (),d8 fF ()),bg b hk,λz=>abe z (),λ_=>h)
def nF(B:Int)(c:Fr):Int:=c.1 * (B / c.2)
structure K0(cs:List Fr):Prop where
 pos:∀c∈cs,0 < nF (bT cs) c
 sum:(cs.map (nF (bT cs))).sum=bT cs
 b0:0 < bT cs
 b1:bT cs<=1000000
 ne:cs≠[]
 Nv:RF cs
def UD(h:ay cs=true)(o:RF cs)(n:cs≠[]):K0 cs:=by
 unfold ay at h;rw[aaQ,aaQ,aax,aax,Bool.not_eq_true']at h;let(h1,h2,h3):=h;let B0:0 < bT cs:=gB cs 1 @_ λc hc=>(o.2 c hc).1;let(_,_,hB):=jC cs 1 0 @_ (ady _) λc hc=>((o.2 c hc).1,ady _);show(λc hc=>?_,h2,B0,h3,n,o);let c1:0 < c.1:=by have:=List.any_eq_false.mp h1 c hc;simpa using this
 show abC c1 (Int.ediv_pos_of_pos_of_dvd B0 (aar (o.2 c hc).1) (hB c hc))
def val(p:Fr):Rat:=(p.1:Rat) / (p.2:Rat)
structure Red(p:Fr):Prop where
 pos:0 < p.2
 low:Int.gcd p.1 p.2=1
def aR(h:b≠0):(b:Rat)≠0:=λz=>h (Rat.intCast_eq_zero_iff.mp z)
def P1{a c d:Int}(h:a * b=c * d):(a:Rat) * b=c * d:=by rw[<-abu,<-abu,h]
def cR(h:b≠0):Red (aD t b):=(cY h,Ca h)
def lh(h:b≠0):val (aD t b)=(t:Rat) / (b:Rat):=by
 let hq:=cY (t:=t) h;let hx:=P1 (cE (t:=t) h);let h1:=aR h;let h2:=aR (show(aD t b).2≠0 by omega);unfold val;generalize ((aD t b).1:Rat)=x at *
 generalize ((aD t b).2:Rat)=y at *
 generalize (t:Rat)=t' at *
 generalize (b:Rat)=b' at *
 grind
def AE{q:Fr}(hp:Red p)(hq:Red q)(h:val p=val q):p=q:=by
 let h1:=aR (show p.2≠0 by have:=hp.pos;omega);let h2:=aR (show q.2≠0 by have:=hq.pos;omega);let e:p.1 * q.2=p.2 * q.1:=by
  unfold val at h;let e1:(p.1:Rat) * (q.2:Rat)=(p.2:Rat) * (q.1:Rat):=by
   generalize (p.1:Rat)=a at *
   generalize (p.2:Rat)=b at *
   generalize (q.1:Rat)=c at *
   generalize (q.2:Rat)=d at *
   grind
  rw[<-abu,<-abu]at e1;show Rat.intCast_inj.mp e1
 let a:=yX (show p.2≠0 by have:=hp.pos;omega) hq.pos hq.low e;let b:=xp hp.pos hp.low;rw[<-Prod.eta p,<-b,a]
def BF{p q:Fr}(hp:0 < p.2)(hq:0 < q.2):val (g6 p q)=val p+val q:=by
 unfold g6;rw[lh (acm (abC hp hq))];let h1:=aR (show p.2≠0 by omega);let h2:=aR (show q.2≠0 by omega);rw[Rat.intCast_add,abu,abu,abu];unfold val;generalize (p.1:Rat)=a at *
 generalize (p.2:Rat)=b at *
 generalize (q.1:Rat)=c at *
 generalize (q.2:Rat)=d at *
 grind
def qb{p q:Fr}(hp:0 < p.2)(hq:0 < q.2):val (bt p q)=val p * val q:=by
 unfold bt;rw[lh (acm (abC hp hq))];let h1:=aR (show p.2≠0 by omega);let h2:=aR (show q.2≠0 by omega);rw[abu,abu];unfold val;generalize (p.1:Rat)=a at *
 generalize (p.2:Rat)=b at *
 generalize (q.1:Rat)=c at *
 generalize (q.2:Rat)=d at *
 grind
def iQ(p:Fr)(E:Int):Prop:=∃N,p.1 * E=N * p.2
def rj{N:Int}(h:b≠0)(e:t * E=N * b):iQ (aD t b) E:=by
 let hx:=cE (t:=t) h;generalize hf:aD t b=f at *
 let(x,y):=f;show(N,?_);change x * E=N * y;let hx:t * y=b * x:=hx;have:b * (x * E)=b * (N * y):=by grind
 show abI h this
def Bb(k:Int)(h:iQ p E):iQ p (E * k):=by let(N,e):=h;show(N * k,by grind)
def Jm(p:Fr):iQ p p.2:=(p.1,rfl)
def HH{p q:Fr}(hp:0 < p.2)(hq:0 < q.2)(h:iQ p E)(h':iQ q E):iQ (g6 p q) E:=by let(N,e):=h;let(N',e'):=h';unfold g6;show rj (N:=N+N') (Int.ne_of_gt (Int.mul_pos hp hq)) (by grind)
def vn{p q:Fr}(hp:0 < p.2)(hq:0 < q.2)(h:iQ p E)(h':iQ q F):iQ (bt p q) (E * F):=by let(N,e):=h;let(N',e'):=h';unfold bt;show rj (N:=N * N') (Int.ne_of_gt (Int.mul_pos hp hq)) (by grind)
def z5(hp:Red p)(h:iQ p E):p.2∣E:=by
 let(N,e):=h;let d:p.2∣p.1 * E:=(N,by rw[e,abV]);let d2:p.2.natAbs∣p.1.natAbs * E.natAbs:=by rw[<-ab4];show Int.natAbs_dvd_natAbs.mpr d
 let co:Nat.Coprime p.2.natAbs p.1.natAbs:=by have:=hp.low;unfold Int.gcd at this;rw[Nat.coprime_comm];show this
 show Int.natAbs_dvd_natAbs.mp (co.dvd_of_dvd_mul_left d2)
def fb(p:Fr)(C:Int):Prop:=p.1<=p.2 * C/\ - (p.2 * C)<=p.1
def oU(h:0 < b)(h1:t<=b * C)(h2: - (b * C)<=t):fb (aD t b) C:=by
 let hx:=cE (t:=t) (show b≠0 by omega);let hq:=cY (t:=t) (show b≠0 by omega);generalize hf:aD t b=f at *
 let(x,y):=f;let hx:t * y=b * x:=hx;let hq:0 < y:=hq;constructor
 .change x<=y * C;have:=abp h1 (aar hq);rw[hx]at this;let e:b * C * y=b * (y * C):=by grind
  rw[e]at this;show ac8 this h
 .change - (y * C)<=x;have:=abp h2 (aar hq);rw[hx]at this;let e: - (b * C) * y=b * (- (y * C)):=by grind
  rw[e]at this;show ac8 this h
def cq{a c:Int}(h:a<=b)(hc:0<=c):a * c<=b * c:=abp h hc
def MF{p q:Fr}{D:Int}(hp:0 < p.2)(hq:0 < q.2)(h:fb p C)(h':fb q D):fb (g6 p q) (C+D):=by
 unfold g6;let a:=cq h.1 (aar hq);let b:=cq h'.1 (aar hp);let c:=cq h.2 (aar hq);let d:=cq h'.2 (aar hp);show oU (abC hp hq) ?_ ?_
 .let e:p.2 * q.2 * (C+D)=p.2 * C * q.2+q.2 * D * p.2:=by grind
  omega
 .let e: - (p.2 * q.2 * (C+D))= - (p.2 * C) * q.2+ - (q.2 * D) * p.2:=by grind
  omega
def iy(c:Fr):Prop:=0<=c.1/\c.1<=c.2
def IB{c p:Fr}(hc:0 < c.2)(hp:0 < p.2)(u:iy c)(h:fb p C)(hC:0<=C):fb (bt c p) C:=by
 unfold bt;let pc:0<=p.2 * C:=ab7 (aar hp) hC;let a:=cq h.1 u.1;let b:=cq u.2 pc;let c':=cq h.2 u.1;show oU (abC hc hp) ?_ ?_
 .let e:c.2 * p.2 * C=c.2 * (p.2 * C):=by grind
  let e1:c.1 * p.1=p.1 * c.1:=abV ..;let e2:p.2 * C * c.1=c.1 * (p.2 * C):=abV ..;omega
 .let e: - (c.2 * p.2 * C)= - (c.2 * (p.2 * C)):=by grind
  let e1:c.1 * p.1=p.1 * c.1:=abV ..;let e2: - (p.2 * C) * c.1= - (c.1 * (p.2 * C)):=by grind
  omega
def E9{c s:Fr}(hc:0 < c.2)(hs:0 < s.2)(u:iy c)(v:iy s):iy (bt c s):=by
 unfold bt;let hx:=cE (t:=c.1 * s.1) (acm (abC hc hs));let hq:=cY (t:=c.1 * s.1) (acm (abC hc hs));let t0:0<=c.1 * s.1:=ab7 u.1 v.1
 let t1:c.1 * s.1<=c.2 * s.2:=acp (cq u.2 v.1) (by
  have:=cq v.2 (aar hc)
  rw[abV c.2 s.1,abV c.2 s.2];show this)
 let bp:=abC hc hs;generalize c.1 * s.1=t at *
 generalize c.2 * s.2=b at *
 generalize hf:aD t b=f at *
 let(x,y):=f;let hx:t * y=b * x:=hx;let hq:0 < y:=hq;constructor
 .change 0<=x;rcases adh x 0 with z| z
  .have:=acO bp z;have:=ab7 t0 (aar hq);omega
  .show z
 .change x<=y;have:=cq t1 (aar hq);rw[hx]at this;show ac8 this bp
def QR{k m:Nat}(r:Red p)(h:iQ p E)(e0:0 < E)(e1:E < 2 ^ k)(a:fb p C)(c0:0<=C)(c1:C < 2 ^ m):Sz (k+m) p:=by
 let d:=ac1 e0 (z5 r h);let rp:=r.pos;let b1:p.2.natAbs < 2 ^ k:=by
  have:(p.2.natAbs:Int) < ((2 ^ k:Nat):Int):=by rw[ab8 (aar rp)];show abm d (by exact_mod_cast e1)
  show acG.mp this
 let b2:C.natAbs < 2 ^ m:=by
  have:(C.natAbs:Int) < ((2 ^ m:Nat):Int):=by
   rw[ab8 c0]
   exact_mod_cast c1
  show acG.mp this
 let b3:=b7 b1 b2;show(?_,rp,aaW b1 (acC @_ (acL _ _)));show abE ?_ b3;rw[<-ab4];let q0:0<=p.2 * C:=ab7 (aar rp) c0;have:=a.1;have:=a.2;omega
def P7{cs:List Fr}(h:j < -cs):jT (cs.map Ξ) (j:Int)=!(Ξ cs[j]):=Θ (by rw[aas,aaa h];rfl)
def Kg{ds:List bU}(h:j < -ds):jT (ds.map dW) (j:Int)=!(dW ds[j]):=Θ (by rw[aas,aaa h];rfl)
structure OM(ε:Fr)(γ:List Rw):Prop where
 sh:aZ ε=true
 len:-γ<=12
 row:∀r∈γ,gZ r/\gq r (-γ)=true
structure Wb(γ:List Rw)(k:Str)(ds:List bU):Prop where
 ro:gZ (.υ k ds)
 l1:1<=-ds
 l6:-ds<=6
 kd:Η k=true\/(Η k=false/\k="chance"/\K0 (ds.map Γ))
 to:∀d∈ds,0<=d.1/\d.1 < -γ
 py:∀d∈ds,bA d.2.1=true/\0 < d.2.1.2
def dR{k:Str}{ds:List bU}(f:OM ε γ)(h:Rw.υ k ds∈γ):Wb γ k ds:=by
 let(ro,h2):=f.row _ h;let h2:(if Η k then au ds (-γ) else if k="chance" then au ds (-γ)&&ay (ds.map Γ) else false)=true:=h2;let key:au ds (-γ)=true/\(Η k=true\/(Η k=false/\k="chance"/\ay (ds.map Γ)=true)):=by
  by_cases hk:Η k=true
  .rw[aa0 hk]at h2;show(h2,.inl hk)
  .rw[aa3 hk]at h2;by_cases hc:k="chance"
   .rw[if_pos hc,Bool.and_eq_true]at h2;show(h2.1,.inr (by simpa using hk,hc,h2.2))
   .rw[aa3 hc]at h2;cases h2
 let(fd,hk):=key;unfold au at fd;rw[aaQ,aaQ,aax,aax]at fd;let((d1,d6),fa):=fd;let each:∀d∈ds,0<=d.1/\d.1 < -γ/\bA d.2.1=true:=λd hd=>by let h3:=ab6.mp fa d hd;unfold aM at h3;rw[aaQ,aaQ,aax,aax]at h3;show(h3.1,h3.2.1,h3.2.2)
 show(ro,d1,d6,?_,λd hd=>((each d hd).1,(each d hd).2.1),λd hd=>((each d hd).2.2,(ro.2.2.2 d hd).2));rcases hk with hk| ⟨hk,hc,hf⟩
 .show .inl hk
 .show .inr (hk,hc,UD hf (ro.2.2.1 hc).2 λz=>?_);have:=abq List.length z;rw[aae]at this;have:-ds=0:=this;omega
def GN{α:Type}(xs:List α)(a:α)(f:α->Dt):(dJ 0 (-xs)).map (λx=>match x with| .int j=>f (xs.getD j.toNat a)| _=>.bc)=xs.map f:=by
 unfold dJ;rw[aa4];apply ach
 .simp
 .intro i h1 h2;simp only[List.getElem_map,List.getElem_range,Function.comp];rw[show(0+(i:Int)).toNat=i by omega];let hi:i < -xs:=by simpa using h2
  rw[aab,aaa hi];rfl
abbrev d0:bU:=(0, (0, 1),[])
noncomputable def vY(tb:List Fr)(t:Int):Fr:=tb.getD t.toNat (0, 1)
noncomputable def aa(ε:Fr)(tb:List Fr)(d:bU):Fr:=g6 d.2.1 (bt ε (vY tb d.1))
noncomputable def jf(ps:List (Fr×Fr)):Fr:=ps.foldl (λw p=>g6 w (bt p.1 p.2)) (0, 1)
structure Nb(E C:Int)(p:Fr):Prop where
 pos:0 < p.2
 he:iQ p E
 ab:fb p C
 sz:Sz 2600 p
structure Bd(E C:Int):Prop where
 e0:0 < E
 e1:E < 2 ^ 2200
 c0:0<=C
 c1:C < 2 ^ 400
def K_(r:Red p)(h:iQ p E)(a:fb p C)(b:Bd E C):Nb E C p:=(r.pos,h,a,QR (k:=2200) (m:=400) r h b.e0 b.e1 a b.c0 b.c1)
def PM{D:Int}{q:Fr}(h:Nb E C p)(h':Nb E D q)(b:Bd E (C+D)):Nb E (C+D) (g6 p q):=K_ (cR (acm (abC h.pos h'.pos))) (HH h.pos h'.pos h.he h'.he) (MF h.pos h'.pos h.ab h'.ab) b
def CB{c:Fr}(c0:0 < c.2)(hc:iQ c F)(u:iy c)(h:Nb E C p)(b:Bd (F * E) C):Nb (F * E) C (bt c p):=K_ (cR (acm (abC c0 h.pos))) (vn c0 h.pos hc h.he) (IB c0 h.pos u h.ab b.c0) b
def SE{p:Fr}{D:Int}(h0:0 < p.2)(h:fb p C)(hd:C<=D):fb p D:=by have:=aaT hd (aar h0);let(a,b):=h;show((),())
def Vg:Nb E 0 (0, 1):=(@_,(0,by simp),(@_,@_),sW (k:=1) (@_,@_,@_) @_)
def MQ(h:aZ p=true):0 < p.2/\p.2<=1000/\iy p:=by unfold aZ at h;rw[aaQ,aaQ,aax,aax,aax]at h;let(h1,h2,h3):=h;show((),h3,h1,())
def zd{p:Nat}(h:p < n):Io n (p:Int)=!p:=by unfold Io;rw[aa0 (),aa0 (),acs]
def L7(h:Bv M d=!xs):gR M d=!xs:=by cases d <;> first| show h| cases h
def jh(h:Bv M d=!xs):nc M d=!xs:=by cases d <;> first| show h| cases h
set_option tactic.hygienic true
def xa(h:Bv M d=!xs):Gb M d=!(.type "list"):=by
 cases d with
 | lst ds=>rfl
 | loc k=>
  let h:(match M[k]? with| some (.lst xs)=>!xs| _=>none)=!xs:=h;change(match M[k]? with| some (.lst _)=>!(Value.type "list")| _=>none)=_;split at h
  .rfl
  .cases h
 | _=>cases h
def aA{o:MO}:(M++[o])[-M]? =!o:=by simp
def cD{k:Nat}(h:M[k]? =!(MO.lst xs)):Bv M (.loc k)=!xs:=by change(match M[k]? with| some (MO.lst xs)=>!xs| _=>none)=!xs;rw[h]
def d_{a:MO}:(M++[a]).set (-M) c=M++[c]:=by simp[List.set_append]
def Tp{E:Ms}{o:MO}:(M++o::E)[-M]? =!o:=by simp
def Pq{E:Ms}{o:MO}:(M++o::E).set (-M) c=M++c::E:=by simp[List.set_append]
abbrev cC(l:List Int):Dt:=.lst (l.map Dt.int)
abbrev kR(ls:List (List Int)):Dt:=.lst (ls.map cC)
def GZ{ls:List (List Int)}(h:j < -ls):jT (ls.map cC) (j:Int)=!(cC ls[j]):=Θ (by rw[aas,aaa h];rfl)
def kE{n:Nat}:∀(ls:List (List Int)),Dt.ck n (ls.map cC)
 | []=>trivial
 | l::ls=>(hW l,kE ls)
abbrev dz:=Bz.dz
def Bx(h:i < n):((List.replicate (n:Int).toNat [Dt.int 0]).flatten).set i (Dt.int 1)=(dz n i).map Dt.int:=by
 let e:(List.replicate (n:Int).toNat [Dt.int 0]).flatten=List.replicate n (Dt.int 0):=by
  rw[show((n:Int)).toNat=n by omega];clear h
  induction n with
  | zero=>rfl
  | succ n ih=>rw[acb,acu,ih];rfl
 rw[e];unfold dz Bz.dz;apply ach
 .simp
 .intro j h1 h2;rw[List.getElem_set];simp only[List.getElem_replicate,List.getElem_map,List.getElem_range,Bz.ind];split <;> rfl
set_option tactic.hygienic false
def QA:DF:=λas M q _=>∃γ:List (List Int),as=[kR γ]/\-γ<=12/\(∀r∈γ,-r<=13)/\∀E,q (.loc (-M)) (M++MO.lst (((List.range (-γ)).map λi=>γ.getD i []++dz (-γ) i).map cC)::E)
def eF:Δ ["rows","told","number","row","weights"] ["rows"] (τ kC):=.of rfl
def uG(F:cz K "with_weights" "with_weights" kC f fd)(E:Ev K mg w Cm):ao P w K mg base (bO P w) 1 f fd ["rows"] (b8 K QA):=by
 show F.de eF (λds M q x h=>?_) (λaQ A outer s H E' hr=>(_,(ζ (χ 1 eF.nd (i7 θ))
   (ζ (c8 (zZ E.e7 (Ν (jv 0) θ)) (rC rfl (cP (ai (i:=2) eF.nd rfl (Or.inl rfl)) (cP (ai (i:=3) eF.nd rfl (Or.inl rfl)) mq))) qL (ζ (χ 4 eF.nd (Fe (cv 3 (d:=.lst [.int 0]) (by rfl)) (bz E.bb (Ν (jv 0) θ))))
   (ζ (pJ (jv 4) (jv 2) ξ)
   (μ (eI (fC (jv 1) (ι (ou (jv 3) (jv 4)) θ bJ)))))))
   (μ (ψ (jv 1))))),λds M q x h=>?_))
 .let(γ,rfl,_):=h;rfl
 .let(γ,rfl,r12,r13,h):=h;show(@_,?_);show(kR γ,γ.map cC,λ_=>True,rfl,rfl,?_);show bN (λxs ρ M'=>∃(k:Nat) (rest:List (List Int)) (E:Ms) (o1 o2 o3:Option Dt),xs=jB k (rest.map cC)/\γ.drop k=rest/\k<=-γ/\M'=M++MO.lst (((List.range k).map λi=>γ.getD i []++dz (-γ) i).map cC)::E/\ρ=[!(kR γ),!(.loc (-M)),o1,o2,o3]) (λxs ρ M' hj=>trivial) (λx xs ρ M' hj et=>?_) (λρ M' hj=>?_) _ _ _ (0,γ,[],none,none,none,rfl,rfl,acR _,rfl,rfl)
  .let(k,rest,E,o1,o2,o3,ex,hd,hk,rfl,rfl):=hj;cases rest with
   | nil=>cases ex
   | cons r rest=>
    cases ex;let rL:k < -γ:=by
     rcases Nat.lt_or_ge k (-γ) with z| z
     .show z
     .rw[List.drop_of_length_le z]at hd;cases hd
    let rk:γ[k]=r:=by have:=acf rL;rw[hd]at this;show(List.cons.inj this).1.symm
    let rg:γ.getD k []=r:=by rw[aab,aaa rL,rk];rfl
    let ahm:=r13 r (by rw[<-rk];show aaG rL);let OG:γ.drop (k+1)=rest:=by have:=acf rL;rw[hd]at this;show(List.cons.inj this).2.symm
    dsimp only[g2];walk_at "vc";show(af (d:=kR γ) (xs:=γ.map cC) rfl ?_:eQ [kR γ] _ _);rw[aae];show([.int 0],-γ,rfl,rfl,(),(),?_,?_)
    .change 1 * ((-γ:Int)).toNat<=sizeLine;show aaF (show _<=12 by omega) @_
    generalize hM2:M++MO.lst (((List.range k).map λi=>γ.getD i []++dz (-γ) i).map cC)::E=M2;show(-M2,k,_,k,rfl,rfl,aA,?_,?_)
    .have:-((List.replicate (-γ:Int).toNat [Dt.int 0]).flatten)=-γ:=by have:=abq List.length (Bx rL);rw[abW,aae]at this;rw[this];unfold dz Bz.dz;simp
     rw[this];show zd rL
    rw[d_,Bx rL];subst hM2;let eM:(M++MO.lst (((List.range k).map λi=>γ.getD i []++dz (-γ) i).map cC)::E)++[MO.lst ((dz (-γ) k).map Dt.int)]=M++MO.lst (((List.range k).map λi=>γ.getD i []++dz (-γ) i).map cC)::(E++[MO.lst ((dz (-γ) k).map Dt.int)]):=by simp
    let at3:((M++MO.lst (((List.range k).map λi=>γ.getD i []++dz (-γ) i).map cC)::E)++[MO.lst ((dz (-γ) k).map Dt.int)])[-M]? =!(.lst (((List.range k).map λi=>γ.getD i []++dz (-γ) i).map cC)):=by rw[eM];show Tp
    show((-M,_,rfl,at3),r.map Dt.int,(dz (-γ) k).map Dt.int,rfl,cD aA,?_,-M,_,_,rfl,rfl,at3,?_,?_)
    .rw[aae,aae];unfold dz Bz.dz;rw[aae,abJ];show aaF (show _<=30 by omega) @_
    .rw[aae,aae,abJ];show abE (show k<=12 by omega) @_
    rw[eM,Pq];show et _ _ (k+1,rest,E++[MO.lst ((dz (-γ) k).map Dt.int)],_,_,_,rfl,OG,rL,?_,rfl);rw[acX,aa9,aa9];simp only[List.map_cons,List.map_nil];rw[rg,<-aa9]
  .let(k,rest,E,o1,o2,o3,ex,hd,hk,rfl,rfl):=hj;cases rest with
   | cons r rest=>cases ex
   | nil=>
    have:k=-γ:=by have:=abq List.length hd;rw[acB]at this;simp at this;omega
    subst this;show h E
def UU:DF:=λas M q _=>∃(ls:List (List Int)) (f c:Nat),as=[kR ls,.int (f:Int),.int (c:Int)]/\f<=-ls/\-ls<=12/\(∀l∈ls,c < -l)/\
 ((∀(k:Nat),f<=k->k < -ls->(ls.getD k []).getD c 0=0)->q .bc M)/\
 (∀(k:Nat),f<=k->k < -ls->(ls.getD k []).getD c 0≠0->q (.int (k:Int)) M)
def lF:Δ ["lines","first","column","number"] ["lines","first","column"] (τ ji):=.of rfl
def sE(F:cz K "number_of_head" "number_of_head" ji f fd)(E:Ev K mg w Cm):ao P w K mg base (bO P w) 1 f fd ["lines","first","column"] (b8 K UU):=by
 show F.de lF (λds M q x h=>?_) (λaQ A outer s H E' hr=>(_,(ζ (gT (x5 E.bH (Ν (jv 1) (ι (bz E.bb (Ν (jv 0) θ)) θ aX))) (ai (i:=3) lF.nd rfl (Or.inl rfl)) aB (μ (ah (kH hr (ω (ω (jv 0) (jv 3)) (jv 2)) ξ) (μ (ψ (jv 3))) Ι)))
   (μ (ψ Ie))),λds M q x h=>?_))
 .let(ls,f,c,rfl,_):=h;rfl
 .let(ls,f,c,rfl,hf,lV,hc,h1,h2):=h;walk_at "vc";dsimp only[ED];walk_at "vc";show(af (d:=kR ls) (xs:=ls.map cC) rfl ?_:eQ [kR ls] _ _);rw[aae];show(((),(),(),()),?_);show cU (λzs ρ M'=>M'=M/\∃(n k:Nat) (o:Option Dt),zs=dJ k n/\f<=k/\k+n=-ls/\(∀j,f<=j->j < k->(ls.getD j []).getD c 0=0)/\ρ=[!(kR ls),!(.int (f:Int)),!(.int (c:Int)),o]) (λx zs ρ M' hj et=>?_) (λρ M' hj=>?_) _ _ _ (rfl,-ls - f,f,none,?_,aaq _,(),λj a b=>abe a (),rfl)
  .let(rfl,n,k,o,ex,hk,hn,hz,rfl):=hj;let(m,rfl,rfl,rfl):=cx ex;let kl:k < -ls:=()
   let hl:=hc _ (aaG kl);let e1:(ls.getD k []).getD c 0=(ls[k])[c]:=by rw[aab,aab,aaa kl];change((ls[k])[c]?).getD 0=_;rw[aaa hl];rfl
   walk_at "vc";show(Ε (d:=kR ls) rfl (GZ kl) ?_:aW (kR ls) (.int (k:Int)) _ _);show(Ε (d:=cC ls[k]) rfl (gX hl) ?_:aW (cC ls[k]) (.int (c:Int)) _ _);show(λz=>?_,λz=>?_)
   .let z:(! decide ((ls[k])[c]=0))=true:=z;show h2 k hk kl ?_;rw[e1];intro y;rw[aa2 y]at z;show nomatch z
   .let z:(! decide ((ls[k])[c]=0))=false:=z;let z0:(ls[k])[c]=0:=by
     rcases Decidable.em ((ls[k])[c]=0) with y| y
     .show y
     .rw[aa6 y]at z;show nomatch z
    show et _ _ (rfl,m,k+1,_,by simp,(),(),λj a b=>?_,rfl);by_cases e:j=k
    .rw[e,e1];show z0
    .show hz j a ()
  .let(rfl,n,k,o,ex,hk,hn,hz,rfl):=hj;let Yq:n=0:=by have:=abq List.length ex;unfold dJ at this;simpa using this.symm
   show h1 λj a b=>hz j a ()
  .rw[show((-ls:Int) - (f:Int)).toNat=-ls - f by omega]
abbrev lN:=Bz.lN
def JX:DF:=λas M q _=>∃(ls:List (List Int)) (f k:Nat),as=[kR ls,.int (f:Int),.int (k:Int)]/\f<=k/\k < -ls/\-ls<=12/\q (kR (lN ls f k)) M
def yH:Δ ["lines","first","number"] ["lines","first","number"] (τ k7):=.of rfl
def wu(F:cz K "moved_ahead" "moved_ahead" k7 f fd)(E:Ev K mg w Cm):ao P w K mg base (bO P w) 1 f fd ["lines","first","number"] (b8 K JX):=by
 show F.de yH (λds M q x h=>?_) (λaQ A outer s H E' hr=>(_,(μ (ψ (ou (ou (ou (da (yK (jv 0) (jv 1))) (kK (ι (ω (jv 0) (jv 2)) θ aw))) (da (xw (jv 0) (jv 1) (jv 2)))) (da (q_ (jv 0) (cw (jv 2) ξ)))))),λds M q x h=>?_))
 .let(ls,f,k,rfl,_):=h;rfl
 .let(ls,f,k,rfl,hf,hk,lV,h):=h;let gk:ls.getD k []=ls[k]:=by rw[aab,aaa hk];rfl
  let sz:∀{n:Nat},n<=40->n<=sizeLine:=λh=>aaF h @_;show(ls.map cC,f,rfl,rfl,?_);rw[<-ado];show dM (kE _) ?_;walk_at "vc";show(Ε (d:=kR ls) rfl (GZ hk) ?_:aW (kR ls) (.int (k:Int)) _ _);show(sz (by change 1<=40;decide),(ls.take f).map cC,[cC ls[k]],rfl,rfl,sz (by simp;omega),?_);show(f,rfl,ls.map cC,k,rfl,rfl,?_);rw[<-adp,<-ado];show dM (kE _) ?_;show((ls.take f).map cC++[cC ls[k]],((ls.drop f).take (k - f)).map cC,rfl,rfl,sz (by simp;omega),?_);show(ls.map cC,k+1,rfl,rfl,?_);rw[<-adp];show dM (kE _) ?_;show((ls.take f).map cC++[cC ls[k]]++((ls.drop f).take (k - f)).map cC,(ls.drop (k+1)).map cC,rfl,rfl,sz (by simp;omega),?_);unfold lN Bz.lN at h;rw[gk]at h;let e:(ls.take f).map cC++[cC ls[k]]++((ls.drop f).take (k - f)).map cC++(ls.drop (k+1)).map cC=(ls.take f++[ls[k]]++(ls.drop f).take (k - f)++ls.drop (k+1)).map cC:=by rw[aa9,aa9,aa9];rfl
  rw[e];show h
abbrev dE:=Bz.dE
def Fh:DF:=λas M q _=>∃(l h:List Int) (c:Nat) (d:Int),as=[cC l,cC h,.int (c:Int),.int d]/\-l=-h/\-h<=30/\c < -h/\(∀x∈l,fJ x)/\(∀x∈h,fJ x)/\d≠0/\fJ d/\q (cC (dE l h c d)) M
def mL:Δ ["line","head","column","divisor"] ["line","head","column","divisor"] (τ j4):=.of rfl
def vo(F:cz K "cleared_line" "cleared_line" j4 f fd)(E:Ev K mg w Cm):ao P w K mg base (bO P w) 1 f fd ["line","head","column","divisor"] (b8 K Fh):=by
 show F.de mL (λds M q x h=>?_) (λaQ A outer s H E' hr=>(_,(μ (ψ (FU (ys:=["divisor","head","column","line"]) (ag:=[3,1,2,0]) (.of mL rfl rfl rfl) (Fs E.xJ (Ν (jv 0) (Ν (jv 1) θ))) (λC s H fp=>(D9 (r6 (az (ω (jv 3) (jv 4)) (jv 0)) (az (ω (jv 5) (jv 4)) (jv 1))) (jv 2)))))),λds M q x h=>?_))
 .let(l,h',c,d,rfl,_):=h;rfl
 .let(l,hd,c,d,rfl,hl,h30,hc,bl,bh,d0,bd,h):=h;let cl:c < -l:=()
  let g1:hd.getD c 0=hd[c]:=by rw[aab,aaa hc];rfl
  let XN:l.getD c 0=l[c]:=by rw[aab,aaa cl];rfl
  show(cC l,cC hd,l.map Dt.int,hd.map Dt.int,λ_=>True,λ_=>True,rfl,rfl,rfl,?_);let ez:sF (l.map Dt.int) (hd.map Dt.int)=(l.zip hd).map λp=>.tup [.int p.1,.int p.2]:=by unfold sF;rw[List.zip_map,aa4];rfl
  rw[ez];show(?_,?_)
  .rw[aae,ab1];show aaF (show _<=30 by omega) @_
  show qp (trivial,trivial) (λx=>match x with| .tup [.int a,.int b]=>.int ((hd.getD c 0 * a - l.getD c 0 * b).fdiv d)| _=>.bc) _ _ (λx hx q' hq=>?_) ?_
  .let(p,hp,rfl):=aam.mp hx;let hq:q' (.int ((hd.getD c 0 * p.1 - l.getD c 0 * p.2).fdiv d)) M:=hq;let p1:=bl p.1 (acx hp).1;let p2:=bh p.2 (acx hp).2;rw[g1,XN]at hq;let key:aW (cC hd) (.int (c:Int)) M (λx M1=>KW x (.int p.1) M1 λy M2=>aW (cC l) (.int (c:Int)) M2 λz M3=>KW z (.int p.2) M3 λu M4=>Bg y u M4 λv M5=>GQ v (.int d) M5 q'):=by show Ε (d:=cC hd) rfl (gX hc) ((bh _ (aaG hc),p1),?_);show Ε (d:=cC l) rfl (gX cl) ((bl _ (aaG cl),p2),?_);show((d0,bd),hq)
   show key
  .rw[abx,aa4];unfold dE Bz.dE at h;rw[show cC ((l.zip hd).map λp=>(hd.getD c 0 * p.1 - l.getD c 0 * p.2).fdiv d)= .lst ((l.zip hd).map λp=>Dt.int ((hd.getD c 0 * p.1 - l.getD c 0 * p.2).fdiv d)) by change Dt.lst _=_;rw[aa4];rfl]at h;show h
def CM{a b:Int}(h0:0<=a)(h:a<=b):∀n:Nat,a ^ n<=b ^ n
 | 0=>by rw[Int.pow_zero,Int.pow_zero];show Int.le_refl _
 | n+1=>by rw[acM,acM];show acw (CM h0 h n) h h0 (acN ())
def Dd(h:Bz.Ab x (Bz.top B r))(h1:1<=B)(hB:B<=2 ^ 450)(hr:r<=12):fJ x:=by
 let e1:Bz.top B r<=(12 * B) ^ 15:=Bz.yx h1 ();let e2:(12 * B) ^ 15<=(12 * 2 ^ 450) ^ 15:=CM () () 15;let e3:((12 * 2 ^ 450) ^ 15:Int) < ((2 ^ 8000:Nat):Int):=@_
 have:(x.natAbs:Int) < ((2 ^ 8000:Nat):Int):=by let(a,b):=h;omega
 show acG.mp this
set_option tactic.hygienic true
section
variable{col:Nat}{ρ ο:List Nat}{qq:Nat->Nat}{d:Int}
def A7(t:Bz.Turn A n col ρ ο qq d W)(b:Bz.Bd A n m B)(hB:B<=2 ^ 450)(hm:col<=m)(hr:-ρ<=12):(∀i,i < n->∀x∈Bz.aG A n m (W i),fJ x)/\fJ d:=by
 let(a1,a2,a3):=t.st.abs b (λc hc=>aaW (t.cl c hc) hm) hr;show(λi hi x hx=>?_,Dd a3 b.b1 hB hr);unfold Bz.aG at hx;rcases abj.mp hx with z| z
 .let(y,hy,rfl):=aam.mp z;show Dd (a2 i y hi (abG.mp hy)) b.b1 hB hr
 .let(y,hy,rfl):=aam.mp z;show Dd (a1 i y hi) b.b1 hB hr
end
set_option tactic.hygienic false
def pb(n:Nat):Dt:=.int n
def G8{n:Nat}:∀(l:List Nat),Dt.ck n (l.map pb)
 | []=>trivial
 | _::l=>(trivial,G8 l)
def xq{l:List Int}(h:l∈Bz.ak A n m W):∃i,i < n/\l=Bz.aG A n m (W i):=by unfold Bz.ak at h;let(i,hi,e):=aam.mp h;show(i,abG.mp hi,e.symm)
def ux{α:Type}(a:α):∀u:Nat,(List.replicate u [a]).flatten=List.replicate u a
 | 0=>rfl
 | u+1=>by rw[acb,acu,ux a u];rfl
structure Dp(γ:List (List Int))(u:Nat)(B:Int):Prop where
 n1:1<=-γ
 Dc:-γ<=12
 Ug:u<=12
 ml:∀r∈γ,-r=u+1
 bd:Bz.Bd (Bz.arr γ) (-γ) (u+1) B
 kL:B<=2 ^ 450
def AN:DF:=λas M q _=>∃(γ:List (List Int)) (u:Nat) (B:Int),as=[kR γ,.int (u:Int)]/\Dp γ u B/\
 ∀ρ ο qq d W,Bz.Turn (Bz.arr γ) (-γ) u ρ ο qq d W->q (.tup [kR (Bz.ak (Bz.arr γ) (-γ) (u+1) W),.loc (-M)]) (M++[.lst (ο.map pb)])
def bu:Δ ["rows","unknowns","lines","columns","divisor","column","rank","number","head","above","below"] ["rows","unknowns"] (τ vF):=.of rfl
def E_(F:cz K "cleared" "cleared" vF f fd)(E:Ev K mg w Cm)(jk:aq P w K mg base 1 "with_weights" ["rows"] QA zJ y9)(iq:aq P w K mg base 1 "number_of_head" ["lines","first","column"] UU wD wJ)(j7:aq P w K mg base 1 "moved_ahead" ["lines","first","number"] JX BH CQ)(gy:aq P w K mg base 1 "cleared_line" ["line","head","column","divisor"] Fh zo zp):ao P w K mg base (bO P w) 2 f fd ["rows","unknowns"] (b8 K AN):=by
 show F.de bu (λds M q x h=>?_) (λaQ A outer s H E' hr=>(_,(ζ (χ 2 bu.nd (da (Φ jk hr ν (Ν (jv 0) θ))))
   (ζ (χ 3 bu.nd (i7 θ))
   (ζ (χ 4 bu.nd ξ)
   (ζ (gT (bZ E.bH (Ν (jv 1) θ)) (ai (i:=5) bu.nd rfl (Or.inr rfl)) aB (ζ (χ 6 bu.nd (bz E.bb (Ν (jv 3) θ)))
   (ζ (χ 7 bu.nd (Φ iq hr ν (Ν (jv 2) (Ν (jv 6) (Ν (jv 5) θ)))))
   (ζ (ah (Sq (jv 7) Ie) (μ sf) Ι)
   (ζ (χ 2 bu.nd (Φ j7 hr ν (Ν (jv 2) (Ν (jv 6) (Ν (jv 7) θ)))))
   (ζ (χ 8 bu.nd (ω (jv 2) (jv 6)))
   (ζ (i4 (i:=9) bu.nd rfl (Or.inl rfl) (ys:=["head","column","divisor"]) (ag:=[8,5,4]) (.of bu rfl rfl rfl) (bC (da (yK (jv 2) (jv 6)))) (λC s H fp=>(Φ gy hr (gF (P:=P) (w:=w)) (Ν (jv 0) (Ν (jv 1) (Ν (jv 2) (Ν (jv 3) θ)))))))
   (ζ (i4 (i:=10) bu.nd rfl (Or.inl rfl) (ys:=["head","column","divisor"]) (ag:=[8,5,4]) (.of bu rfl rfl rfl) (bC (da (q_ (jv 2) (cw (jv 6) ξ)))) (λC s H fp=>(Φ gy hr (gF (P:=P) (w:=w)) (Ν (jv 0) (Ν (jv 1) (Ν (jv 2) (Ν (jv 3) θ)))))))
   (ζ (χ 2 bu.nd (ou (ou (jv 9) (kK (Ν (jv 8) θ))) (jv 10)))
   (ζ (χ 4 bu.nd (ω (jv 8) (jv 5)))
   (μ (eI (fC (jv 3) (Ν (jv 5) θ))))))))))))))
   (μ (ψ (fe (Ν (jv 2) (Ν (jv 3) θ))))))))),λds M q x h=>?_))
 .let(γ,u,B,rfl,_):=h;rfl
 .let(γ,u,B,rfl,ro,h):=h;let n1:=ro.n1;let Dc:=ro.Dc;let Ug:=ro.Ug;show(γ,rfl,Dc,λr fF=>by rw[ro.ml r fF];omega,λE0'=>?_);rw[Bz.BQ ro.ml];show nh (d':=kR (Bz.ak (Bz.arr γ) (-γ) (u+1) λi=>Bz.ind i)) (.Kt (Nat.le_refl _) (by simp) (kq.old (kE _))) ?_;generalize hA:Bz.arr γ=A at *
  generalize hn:-γ=n at *
  show(@_,?_);walk_at "vc";show(((),()),?_);show cU (λzs ρ' M'=>∃(c k:Nat) (ρ ο:List Nat) (qq:Nat->Nat) (d:Int) (W:Nat->Bz.Row) (o1 o2 o3 o4 o5 o6:Option Dt),zs=dJ k c/\k+c=u/\Bz.Turn A n k ρ ο qq d W/\M'=M++[MO.lst (ο.map pb)]/\ρ'=[!(kR γ),!(.int (u:Int)),!(kR (Bz.ak A n (u+1) W)),!(.loc (-M)),!(.int d),o1,o2,o3,o4,o5,o6]) (λx zs ρ' M' hj et=>?_) (λρ' M' hj=>?_) _ _ _ (u,0,[],[],id,1,_,none,none,none,none,none,none,by simp,by simp,Bz.Turn.start,rfl,rfl)
  .let(c,k,ρ,ο,qq,d,W,o1,o2,o3,o4,o5,o6,ex,hkc,t,rfl,rfl):=hj;let(m,rfl,rfl,rfl):=cx ex;let lc:-ο=-ρ:=t.st.lc;let rn:-ρ<=n:=t.st.rn;let hs1:gR (M++[MO.lst (ο.map pb)]) (.loc (-M))=!(ο.map pb):=L7 (cD aA);walk_at "vc";show(af (d:=.loc (-M)) hs1 ?_:eQ [.loc (-M)] _ _);rw[aae,lc];show(Bz.ak A n (u+1) W,-ρ,k,rfl,by rw[Bz.dX];show rn,by rw[Bz.dX];show Dc,λl hl=>?_,λhz=>?_,λk' h1 h2 h0=>?_)
   .let(i,_,rfl):=xq hl;rw[Bz.fv];omega
   .show(λ_=>?_,nofun);show et _ _ (m,k+1,ρ,ο,qq,d,W,_,_,_,_,_,_,by simp,(),t.skip λi a b=>?_,rfl,rfl);have:=hz i a (by rw[Bz.dX];show b);rw[Bz.lA b,Bz.iU ()]at this;show this
   .rw[Bz.dX]at h2;rw[Bz.lA h2,Bz.iU (show k < u+1 by omega)]at h0;show(nofun,λ_=>?_);show(Bz.ak A n (u+1) W,-ρ,k',rfl,h1,by rw[Bz.dX];show h2,by rw[Bz.dX];show Dc,?_);rw[show lN (Bz.ak A n (u+1) W) (-ρ) k'=_ from Bz.B' h1 h2];let t1:=t.move h1 h2;let Ur:-ρ < n:=()
    let h0':Bz.rv A n (W (Bz.jU (-ρ) k' (-ρ))) k≠0:=by
     have:Bz.jU (-ρ) k' (-ρ)=k':=by unfold Bz.jU;rw[if_neg (Nat.lt_irrefl _),if_pos rfl]
     rw[this];show h0
    clear h0 h1 h2 t;generalize hW1:(λi=>W (Bz.jU (-ρ) k' i))=W1 at *
    generalize U1:(λi=>qq (Bz.jU (-ρ) k' i))=q1 at *
    let e1:W (Bz.jU (-ρ) k' (-ρ))=W1 (-ρ):=by rw[<-hW1]
    rw[e1]at h0';let(bl,bd):=A7 t1 (m:=u+1) (by subst hA hn;show ro.bd) ro.kL () ();let(W',t2,el):=t1.step (m:=u+1) Ur () h0';let Si:-(Bz.ak A n (u+1) W1)=n:=Bz.dX;let hdg:(Bz.ak A n (u+1) W1)[-ρ]'(by rw[Si];show Ur)=Bz.aG A n (u+1) (W1 (-ρ)):=by have:=Bz.lA (A:=A) (m:=u+1) (W:=W1) Ur;rw[aab,aaa (by rw[Si];show Ur)]at this;show this
    let clr:∀l∈Bz.ak A n (u+1) W1,∀q':DQ,q' (cC (dE l (Bz.aG A n (u+1) (W1 (-ρ))) k d)) (M++[MO.lst (ο.map pb)])->Fh [cC l,cC (Bz.aG A n (u+1) (W1 (-ρ))),.int (k:Int),.int d] (M++[MO.lst (ο.map pb)]) q' (λC fs M'=>mD [] C fs M'):=λl hl q' w8=>by let(i,hi,rfl):=xq hl;show(_,_,k,d,rfl,by rw[Bz.fv,Bz.fv],by rw[Bz.fv];omega,by rw[Bz.fv];omega,bl i hi,bl _ Ur,t1.d0,bd,w8)
    walk_at "vc";show(Ε (d:=kR (Bz.ak A n (u+1) W1)) rfl (GZ (by rw[Si];show Ur)) ?_:aW (kR (Bz.ak A n (u+1) W1)) (.int (-ρ:Int)) _ _);rw[hdg];let sz:∀{z:Nat},z<=40->z<=sizeLine:=λh=>aaF h @_;show((Bz.ak A n (u+1) W1).map cC,-ρ,rfl,rfl,?_);rw[<-ado];show dM (kE _) (sz (by rw[aae,ac9];omega),?_);show dt (F:=λx a=>x=cC a/\a∈Bz.ak A n (u+1) W1) (f:=λl=>cC (dE l (Bz.aG A n (u+1) (W1 (-ρ))) k d)) trivial (λx a ha q' w8=>by let(rfl,ha):=ha;show clr a ha q' w8) (jG cC _ _ λ_ h=>List.mem_of_mem_take h) ?_;rw[abx];show((Bz.ak A n (u+1) W1).map cC,-ρ+1,rfl,rfl,?_);rw[<-adp];show dM (kE _) (sz (by rw[aae,acB];omega),?_);show dt (F:=λx a=>x=cC a/\a∈Bz.ak A n (u+1) W1) (f:=λl=>cC (dE l (Bz.aG A n (u+1) (W1 (-ρ))) k d)) trivial (λx a ha q' w8=>by let(rfl,ha):=ha;show clr a ha q' w8) (jG cC _ _ λ_ h=>List.mem_of_mem_drop h) ?_;rw[abx];show(by change 1<=sizeLine;decide,_,_,rfl,rfl,sz (by simp;omega),_,_,rfl,rfl,sz (by simp;omega),?_);let ek:k < -(Bz.aG A n (u+1) (W1 (-ρ))):=by rw[Bz.fv];omega
    let ev:(Bz.aG A n (u+1) (W1 (-ρ)))[k]=Bz.rv A n (W1 (-ρ)) k:=by have:=Bz.iU (A:=A) (n:=n) (m:=u+1) (x:=k) (w:=W1 (-ρ)) ();rw[aab,aaa ek]at this;show this
    show Ε (d:=cC (Bz.aG A n (u+1) (W1 (-ρ)))) rfl (gX ek) ?_;rw[ev];show((-M,_,rfl,aA),-M,_,_,rfl,rfl,aA,?_,?_)
    .rw[aae,lc];show abE (show _<=12 by omega) @_
    rw[d_];let ee:=abq (List.map cC) el;rw[aa9,aa9,aa4,aa4]at ee;show et _ _ (m,k+1,ρ++[q1 (-ρ)],ο++[k],q1,_,W',!(.int (k:Int)),!(.int (-ρ:Int)),!(.int (k':Int)),!(cC (Bz.aG A n (u+1) (W1 (-ρ)))),!(.lst (((Bz.ak A n (u+1) W1).take (-ρ)).map λl=>cC (dE l (Bz.aG A n (u+1) (W1 (-ρ))) k d))),!(.lst (((Bz.ak A n (u+1) W1).drop (-ρ+1)).map λl=>cC (dE l (Bz.aG A n (u+1) (W1 (-ρ))) k d))),by simp,(),t2,by simp[pb],?_);change _=[!(kR γ),!(Dt.int (u:Int)),!(Dt.lst ((Bz.ak A n (u+1) W').map cC)),!(Dt.loc (-M)),!(Dt.int _),_,_,_,_,_,_];rw[<-ee];rfl
  .let(c,k,ρ,ο,qq,d,W,o1,o2,o3,o4,o5,o6,ex,hkc,t,rfl,rfl):=hj;let Yq:c=0:=by have:=abq List.length ex;unfold dJ at this;simpa using this.symm
   have:k=u:=()
   subst this;show(k3,h _ _ _ _ _ t)
def Qg:DF:=λas M q _=>∃(γ:List (List Int)) (u:Nat) (B:Int) (ρ ο:List Nat) (qq:Nat->Nat) (d:Int) (W:Nat->Bz.Row),as=[kR (Bz.ak (Bz.arr γ) (-γ) (u+1) W),.lst (ο.map pb),.int (u:Int),.int (u:Int)]/\Dp γ u B/\Bz.Turn (Bz.arr γ) (-γ) u ρ ο qq d W/\ο=List.range u/\
 q (.loc (-M)) (M++[.lst ((List.range u).map λi=>Ξ (aD (Bz.rv (Bz.arr γ) (-γ) (W i) u) d))])
def iX:Δ ["lines","columns","unknowns","source","told","line","column"] ["lines","columns","unknowns","source"] (τ nE):=.of rfl
def yP(F:cz K "quotients" "quotients" nE f fd)(E:Ev K mg w Cm)(bB:aq P w K mg base 2 "fraction" ["top","bottom"] ue fU fY):ao P w K mg base (bO P w) 3 f fd ["lines","columns","unknowns","source"] (b8 K Qg):=by
 show F.de iX (λds M q x h=>?_) (λaQ A outer s H E' hr=>(_,(ζ (χ 4 iX.nd (Fe (cv 3 (d:=.lst [.tup [.int 0,.int 1]]) (by rfl)) (jv 2)))
   (ζ (c8 (Fs E.xJ (Ν (jv 0) (Ν (jv 1) θ))) (rC rfl (cP (ai (i:=5) iX.nd rfl (Or.inl rfl)) (cP (ai (i:=6) iX.nd rfl (Or.inl rfl)) mq))) qL (μ (pJ (jv 4) (jv 6) (Φ bB hr ν (ι (ω (jv 5) (jv 3)) (ι (ω (jv 5) (jv 6)) θ aw) aw)))))
   (μ (ψ (jv 4))))),λds M q x h=>?_))
 .let(γ,u,B,ρ,ο,qq,d,W,rfl,_):=h;rfl
 .let(γ,u,B,ρ,ο,qq,d,W,rfl,ro,t,hc,h):=h;let Ug:=ro.Ug;let Dc:=ro.Dc;let hl:-ρ=u:=by rw[<-t.st.lc,hc,abJ]
  let un:u<=-γ:=by rw[<-hl];show t.st.rn
  let(bl,bd):=A7 t (m:=u+1) ro.bd ro.kL () ();let d0:=t.d0;let one:∀i,i < u->Bz.rv (Bz.arr γ) (-γ) (W i) i=d:=λi hi=>by have:=t.st.one i i () ();rw[aa0 rfl,hc,aab,abB hi]at this;show this
  generalize hA:Bz.arr γ=A at *
  generalize hn:-γ=n at *
  let  tl:Nat->List Dt:=λk=>(List.range u).map λi=>if i < k then Ξ (aD (Bz.rv A n (W i) u) d) else Ξ (0, 1)
  let t0:(List.replicate (u:Int).toNat [Ξ (0, 1)]).flatten=tl 0:=by
   change _=(List.range u).map λi=>if i < 0 then _ else Ξ (0, 1)
   rw[show((u:Int)).toNat=u by omega];apply ach
   .simp
   .intro j h1 h2;let e:(List.replicate u [Ξ (0, 1)]).flatten=List.replicate u (Ξ (0, 1)):=ux _ u;simp[e]
  let ts:∀k,k < u->(tl k).set k (Ξ (aD (Bz.rv A n (W k) u) d))=tl (k+1):=λk hk=>by
   apply ach
   .simp[tl]
   .intro j h1 h2;rw[List.getElem_set];simp only[tl,List.getElem_map,List.getElem_range];by_cases e:k=j
    .subst e;rw[aa0 rfl,aa0 ()]
    .rw[aa3 e];by_cases f:j < k
     .rw[aa0 f,aa0 ()]
     .rw[aa3 f,aa3 ()]
  show([Ξ (0, 1)],u,rfl,rfl,(),(),?_,?_)
  .change 1 * ((u:Int)).toNat<=sizeLine;show aaF (show _<=12 by omega) @_
  rw[t0];show(kR (Bz.ak A n (u+1) W),.lst (ο.map pb),_,_,λ_=>True,λ_=>True,rfl,rfl,rfl,?_);let ez:sF ((Bz.ak A n (u+1) W).map cC) (ο.map pb)=(List.range u).map λi=>.tup [cC (Bz.aG A n (u+1) (W i)),pb i]:=by
   unfold sF Bz.ak;rw[hc];apply ach
   .simp;omega
   .intro j h1 h2;simp
  rw[ez];show bN (λzs ρ' M'=>∃(k:Nat) (o1 o2:Option Dt),k<=u/\zs=((List.range u).drop k).map (λi=>.tup [cC (Bz.aG A n (u+1) (W i)),pb i])/\M'=M++[MO.lst (tl k)]/\ρ'=[!(kR (Bz.ak A n (u+1) W)),!(.lst (ο.map pb)),!(.int (u:Int)),!(.int (u:Int)),!(.loc (-M)),o1,o2]) (λzs ρ' M' hj=>(trivial,trivial)) (λx zs ρ' M' hj et=>?_) (λρ' M' hj=>?_) _ _ _ (0,none,none,acR _,rfl,rfl,rfl)
  .let(k,o1,o2,hk,ex,rfl,rfl):=hj;let rL:k < u:=by
    rcases Nat.lt_or_ge k u with z| z
    .show z
    .rw[List.drop_of_length_le (by simpa using z)]at ex;cases ex
   rw[List.drop_eq_getElem_cons (by simpa using rL),List.map_cons,List.getElem_range]at ex;cases ex;let ek:k < -(Bz.aG A n (u+1) (W k)):=by rw[Bz.fv];omega
   let eu:u < -(Bz.aG A n (u+1) (W k)):=by rw[Bz.fv];omega
   let v1:(Bz.aG A n (u+1) (W k))[k]=d:=by have:=Bz.iU (A:=A) (n:=n) (m:=u+1) (x:=k) (w:=W k) ();rw[aab,aaa ek]at this;rw[<-one k rL];show this
   let v2:(Bz.aG A n (u+1) (W k))[u]=Bz.rv A n (W k) u:=by have:=Bz.iU (A:=A) (n:=n) (m:=u+1) (x:=u) (w:=W k) ();rw[aab,aaa eu]at this;show this
   dsimp only[g2,zf];walk_at "vc";show Ε (d:=cC (Bz.aG A n (u+1) (W k))) rfl (gX eu) ?_;show Ε (d:=cC (Bz.aG A n (u+1) (W k))) rfl (gX ek) ?_;rw[v1,v2];show(bd,λz=>abe z d0,λ_=>?_);show(-M,k,_,k,rfl,rfl,aA,?_,?_)
   .rw[show(tl k).length=u by simp[tl]];show zd rL
   rw[d_];show et _ _ (k+1,_,_,rL,rfl,?_,rfl);rw[<-ts k rL];rfl
  .let(k,o1,o2,hk,ex,rfl,rfl):=hj;have:k=u:=by have:=abq List.length ex;simp at this;omega
   subst this;let e:tl k=(List.range k).map λi=>Ξ (aD (Bz.rv A n (W i) k) d):=abO λi hi=>by rw[aa0 (abG.mp hi)]
   rw[e];show h
def zN:DF:=λas M q _=>∃(γ:List (List Int)) (u:Nat) (B:Int) (Gn:List Fr) (z:Bz.Row) (N:Int),as=[kR γ]/\Dp γ u B/\1<=u/\-Gn=u/\Bz.TM (Bz.arr γ) (-γ) u z N/\N≠0/\
 (∀i,i < u->0 < (Gn.getD i (0, 1)).2/\Int.gcd (Gn.getD i (0, 1)).1 (Gn.getD i (0, 1)).2=1/\N * (Gn.getD i (0, 1)).1=z i * (Gn.getD i (0, 1)).2)/\
 (∀y:Bz.Row,(∀k,k < -γ->Bz.Ζ (λx=>Bz.arr γ k x * y x) u=0)->∀x,x < u->y x=0)/\q (.loc (-M)) (M++[.lst (Gn.map Ξ)])
def eL:Δ ["rows","unknowns","found","lines","columns","line","answer"] ["rows"] (τ p7):=.of rfl
def Cf(F:cz K "answer_of" "answer_of" p7 f fd)(E:Ev K mg w Cm)(qA:aq P w K mg base 2 "cleared" ["rows","unknowns"] AN Mj K')(lj:aq P w K mg base 3 "quotients" ["lines","columns","unknowns","source"] Qg DN DD):ao P w K mg base (bO P w) 4 f fd ["rows"] (b8 K zN):=by
 show F.de eL (λds M q x h=>?_) (λaQ A outer s H E' hr=>(_,(ζ (χ 1 eL.nd (r6 (bz E.bb (ι (ω (jv 0) ξ) θ aw)) ξ))
   (ζ (χ 2 eL.nd (da (Φ qA hr ν (Ν (jv 0) (Ν (jv 1) θ)))))
   (ζ (χ 3 eL.nd (ω (jv 2) ξ))
   (ζ (χ 4 eL.nd (ω (jv 2) ξ))
   (ζ (c8 (bC (da (q_ (jv 3) (bz E.bb (Ν (jv 4) θ))))) (ai (i:=5) eL.nd rfl (Or.inl rfl)) aB (μ (ah (kH hr (ω (jv 5) (jv 1)) ξ) (μ iA) Ι)))
   (ζ (χ 6 eL.nd (Φ lj hr ν (Ν (jv 3) (Ν (jv 4) (Ν (jv 1) (Ν (jv 1) θ))))))
   (ζ (ah (rN (bz E.bb (Ν (jv 4) θ)) (jv 1)) (μ iA) Ι)
   (μ (ψ (jv 6)))))))))),λds M q x h=>?_))
 .let(γ,u,B,Gn,z,N,rfl,_):=h;rfl
 .let(γ,u,B,Gn,z,N,rfl,ro,u1,dl,sol,hN,abU,Yz,h):=h;let n1:=ro.n1;let Dc:=ro.Dc;let Ug:=ro.Ug;let r0:0 < -γ:=()
  let m0:-γ[0]=u+1:=ro.ml _ (aaG r0);walk_at "vc";show(Ε (d:=kR γ) rfl (GZ r0) ?_:aW (kR γ) (.int 0) _ _);show(af (d:=cC γ[0]) (xs:=γ[0].map Dt.int) rfl ?_:eQ [cC γ[0]] _ _);rw[aae,m0];dsimp only[Bg];rw[show(((u+1:Nat):Int) - 1)=(u:Int) by omega];show(γ,u,B,rfl,ro,λρ ο qq d W t=>?_);let Hb:ο=List.range u:=by
   rcases t.all with e| ⟨x,hx,hf⟩
   .show e
   .let(y,y1,y2):=t.kernel hx hf;have:=Yz y y2 x hx;rw[this]at y1;show abe () t.d0
  let hl:-ρ=u:=by rw[<-t.st.lc,Hb,abJ]
  let un:u<=-γ:=by rw[<-hl];show t.st.rn
  show nh (d':=.tup [kR (Bz.ak (Bz.arr γ) (-γ) (u+1) W),.lst (ο.map pb)]) (.tup (.cons (.old (kE _)) (.cons (.Kt (Nat.le_refl _) (by simp) (kq.old (G8 _))) .nil))) ?_;let told:(List.range u).map (λi=>Ξ (aD (Bz.rv (Bz.arr γ) (-γ) (W i) u) d))=Gn.map Ξ:=by
   apply ach
   .simp[dl]
   .intro i h1 h2;let hi:i < u:=by simpa using h1
    simp only[List.getElem_map,List.getElem_range];let(p0,p1,p2):=abU i hi;let gi:Gn.getD i (0, 1)=Gn[i]:=by rw[aab,aaa ()];rfl
    rw[gi]at p0 p1 p2;let e:=t.told Hb sol hi
    congr 1
    have:aD (Bz.rv (Bz.arr γ) (-γ) (W i) u) d=(Gn[i].1, Gn[i].2):=yX t.d0 p0 p1 (by
     show abI hN ?_
     grind)
    show this
  show(Ε (d:=.tup [kR (Bz.ak (Bz.arr γ) (-γ) (u+1) W),.lst (ο.map pb)]) rfl aF ?_:aW (.tup [kR (Bz.ak (Bz.arr γ) (-γ) (u+1) W),.lst (ο.map pb)]) (.int 0) _ _);show(Ε (d:=.tup [kR (Bz.ak (Bz.arr γ) (-γ) (u+1) W),.lst (ο.map pb)]) rfl (Θ (j:=1) rfl) ?_:aW (.tup [kR (Bz.ak (Bz.arr γ) (-γ) (u+1) W),.lst (ο.map pb)]) (.int 1) _ _);let lcu:-(ο.map pb)=u:=by rw[aae,Hb,abJ]
  dsimp only[rO,fL,Vo,U6];walk_at "vc";show(af (d:=.lst (ο.map pb)) (xs:=ο.map pb) rfl ?_:eQ [.lst (ο.map pb)] _ _);show((Bz.ak (Bz.arr γ) (-γ) (u+1) W).map cC,-(ο.map pb),rfl,rfl,?_);rw[lcu,<-adp];show dM (kE _) ?_;let hz:∀l∈(Bz.ak (Bz.arr γ) (-γ) (u+1) W).drop u,u < -l/\l.getD u 0=0:=λl Ze=>by
   let(j,hj,e):=ab2 Ze;rw[List.getElem_drop]at e;rw[acB,Bz.dX]at hj;let hu:u+j < -γ:=()
   let el:l=Bz.aG (Bz.arr γ) (-γ) (u+1) (W (u+j)):=by have:=Bz.lA (A:=Bz.arr γ) (m:=u+1) (W:=W) hu;rw[aab,aaa (by rw[Bz.dX];show hu)]at this;rw[<-e];show this
   rw[el];show(by rw[Bz.fv];omega,?_);rw[Bz.iU ()];show t.rest sol hN () hu
  show bN (λzs ρ' M'=>M'=M/\∃(rest:List (List Int)) (o:Option Dt),zs=rest.map cC/\(∀l∈rest,u < -l/\l.getD u 0=0)/\ρ'=[!(kR γ),!(.int (u:Int)),!(.tup [kR (Bz.ak (Bz.arr γ) (-γ) (u+1) W),.lst (ο.map pb)]),!(kR (Bz.ak (Bz.arr γ) (-γ) (u+1) W)),!(.lst (ο.map pb)),o,none]) (λzs ρ' M' hj=>trivial) (λx zs ρ' M' hj et=>?_) (λρ' M' hj=>?_) _ _ _ (rfl,_,none,rfl,hz,rfl)
  .let(rfl,rest,o,ex,fF,rfl):=hj;cases rest with
   | nil=>cases ex
   | cons l rest=>
    cases ex;let(l1,l2):=fF l aah;let lv:l[u]=0:=by rw[aab,aaa l1]at l2;show l2
    walk_at "vc";show(Ε (d:=cC l) rfl (gX l1) ?_:aW (cC l) (.int (u:Int)) _ _);rw[lv];show(nofun,λ_=>et _ _ (rfl,rest,_,rfl,λy hy=>fF y (aaf _ hy),rfl))
  .let(rfl,rest,o,ex,fF,rfl):=hj;show(γ,u,B,ρ,ο,qq,d,W,rfl,ro,t,Hb,?_);rw[told];walk_at "vc";show(af (d:=.lst (ο.map pb)) (xs:=ο.map pb) rfl ?_:eQ [.lst (ο.map pb)] _ _);rw[lcu];show(λz=>?_,λ_=>h);let z:(u:Int) < u:=aan z;omega
def KR(cs ns:List Fr):sF (cs.map Ξ) (ns.map Ξ)=(cs.zip ns).map λp=>.tup [Ξ p.1,Ξ p.2]:=by unfold sF;rw[List.zip_map,aa4];rfl
structure Ch(B:Int)(c:Fr):Prop where
 pos:0 < c.2
 he:iQ c B
 u:iy c
 sz:Sz 300 c
def vm{E B C:Int}(b0:0 < B)(e0:0 < E)(be:B * E < 2 ^ 2200)(c0:0<=C)(c1:C < 2 ^ 300):∀(ps:List (Fr×Fr)) (w:Fr) (j:Nat),j+-ps<=6->Nb (B * E) (j * C) w->(∀p∈ps,Ch B p.1/\Nb E C p.2)->Nb (B * E) ((j+-ps:Nat) * C) (ps.foldl (λw p=>g6 w (bt p.1 p.2)) w)
 | [],w,j,_,hw,_=>hw
 | p::ps,w,j,hj,hw,h=>by
  rw[aaN]at hj;let(h1,h2):=h p aah;let jc:((j:Int)+1) * C=j * C+C:=by rw[Int.add_mul,Int.one_mul]
  let jm:((j:Int)+1) * C<=6 * C:=abp () c0;let j0:0<=(j:Int) * C:=ab7 () c0;let ht:=CB h1.pos h1.he h1.u h2 (abC b0 e0,be,c0,adi c1 @_);let hp:=PM hw ht (abC b0 e0,be,(),());rw[<-jc]at hp;have:=vm b0 e0 be c0 c1 ps _ (j+1) () (by exact_mod_cast hp) (λq hq=>h q (aaf _ hq));rw[acy,aaN,show j+(-ps+1)=j+1+-ps by omega];show this
def tZ:DF:=λas M q _=>∃(cs ns:List Fr) (E B C:Int),as=[.lst (cs.map Ξ),.lst (ns.map Ξ)]/\-cs<=6/\0 < B/\0 < E/\B * E < 2 ^ 2200/\0<=C/\C < 2 ^ 300/\(∀c∈cs,Ch B c)/\(∀n∈ns,Nb E C n)/\q (Ξ (jf (cs.zip ns))) M
def jL:Δ ["chances","numbers","whole","chance","number"] ["chances","numbers"] (τ uZ):=.of rfl
def D0(F:cz K "weighed" "weighed" uZ f fd)(E:Ev K mg w Cm)(p_:aq P w K mg base 3 "plus" ["one","other"] KO KN KU)(hG:aq P w K mg base 3 "times" ["one","other"] zb uL uv):ao P w K mg base (bO P w) 4 f fd ["chances","numbers"] (b8 K tZ):=by
 show F.de jL (λds M q x h=>?_) (λaQ A outer s H E' hr=>(_,(ζ (χ 2 jL.nd (fe (ι ξ (ι ξ θ dG) dG)))
   (ζ (c8 (Fs E.xJ (Ν (jv 0) (Ν (jv 1) θ))) (rC rfl (cP (ai (i:=3) jL.nd rfl (Or.inl rfl)) (cP (ai (i:=4) jL.nd rfl (Or.inl rfl)) mq))) qL (μ (χ 2 jL.nd (Φ p_ hr ν (Ν (jv 2) (ι (Φ hG hr ν (Ν (jv 3) (Ν (jv 4) θ))) θ aX))))))
   (μ (ψ (jv 2))))),λds M q x h=>?_))
 .let(cs,ns,E,B,C,rfl,_):=h;rfl
 .let(cs,ns,Ep,B,C,rfl,hz,b0,e0,be,c0,c1,hc,hn,h):=h;show(k3,?_);show(.lst (cs.map Ξ),.lst (ns.map Ξ),cs.map Ξ,ns.map Ξ,λ_=>True,λ_=>True,rfl,rfl,rfl,?_);rw[KR];show bN (λxs ρ M'=>M'=M/\∃(rest:List (Fr×Fr)) (w:Fr) (a b:Option Dt) (j:Nat),xs=rest.map (λp=>.tup [Ξ p.1,Ξ p.2])/\(∀p∈rest,Ch B p.1/\Nb Ep C p.2)/\Nb (B * Ep) (j * C) w/\j+-rest<=6/\rest.foldl (λw p=>g6 w (bt p.1 p.2)) w=jf (cs.zip ns)/\ρ=[!(.lst (cs.map Ξ)),!(.lst (ns.map Ξ)),!(Ξ w),a,b]) (λxs ρ M' hj=>(trivial,trivial)) (λx xs ρ M' hj et=>?_) (λρ M' hj=>?_) _ _ _ (rfl,cs.zip ns,(0, 1),none,none,0,rfl,λp hp=>(hc _ (acx hp).1,hn _ (acx hp).2),by rw[Int.natCast_zero,Int.zero_mul];show Vg,?_,rfl,rfl)
  .let(rfl,rest,w,a,b,j,ex,AH,hw,hj,hf,rfl):=hj;cases rest with
   | nil=>cases ex
   | cons p rest=>
    cases ex;let(h1,h2):=AH p aah;rw[aaN]at hj;let ht:=CB h1.pos h1.he h1.u h2 (abC b0 e0,be,c0,adi c1 @_);show(p.1,p.2,300,2600,rfl,h1.sz,h2.sz,@_,w,bt p.1 p.2,2600,2600,rfl,hw.sz,ht.sz,@_,?_);show et _ _ (rfl,rest,_,_,_,j+1,rfl,λp hp=>AH p (aaf _ hp),?_,(),hf,rfl);show vm b0 e0 be c0 c1 [p] w j (by simp;omega) hw (λq hq=>by rw[List.mem_singleton.mp hq];show(h1,h2))
  .let(rfl,rest,w,a,b,j,ex,AH,hw,hj,hf,rfl):=hj;cases rest with
   | nil=>rw[<-hf]at h;show h
   | cons p rest=>cases ex
  .rw[ab1];omega
noncomputable def rT:List Int->Int
 | []=>1
 | a::l=>a * rT l
def vi:∀{l:List Int},(∀a∈l,0 < a)->0 < rT l
 | [],_=>@_
 | a::l,h=>abC (h a aah) (vi λb hb=>h b (aaf _ hb))
def Gs:∀{l:List Int},(∀a∈l,0 < a/\a<=1000000)->rT l<=1000000 ^ (-l)
 | [],_=>@_
 | a::l,h=>by let i:=Gs λb hb=>h b (aaf _ hb);let p:=vi (l:=l) λb hb=>(h b (aaf _ hb)).1;let h0:=h a aah;change a * rT l<=_;rw[aaN,acM,abV a];show acw i h0.2 (aar h0.1) (acN @_)
def AM:∀{l:List Int} {a:Int},a∈l->a∣rT l
 | b::l,a,h=>by
  rcases abg.mp h with e| e
  .rw[e];show(rT l,rfl)
  .let(c,hc):=AM e;show(b * c,by change b * rT l=_;rw[hc];grind)
def Bo{p:Fr}(h:p.2∣E):iQ p E:=by let(k,e):=h;show(p.1 * k,by rw[e];grind)
def tX:∀{l:List Int} {a:Int},(∀b∈l,0 < b)->a∈l->a<=l.sum
 | b::l,a,h,ha=>by
  let ih:∀{l:List Int},(∀b∈l,0 < b)->0<=l.sum:=λ{l}=>by
   induction l with
   | nil=>intro _;show Int.le_refl _
   | cons c l ih=>
    intro h;have:=ih λd hd=>h d (aaf _ hd);have:=h c aah;rw[List.sum_cons];omega
  rw[List.sum_cons];let h0:=h b aah;rcases abg.mp ha with e| e
  .have:=ih λd hd=>h d (aaf _ hd);omega
  .have:=tX (λd hd=>h d (aaf _ hd)) e;omega
def OH(o:K0 cs){c:Fr}(hc:c∈cs):0 < c.2/\c.2∣bT cs/\iy c/\Sz 300 c:=by
 let(a,b,d):=o.Nv.2 c hc;let B0:=o.b0;let(_,_,hB):=jC cs 1 0 @_ (ady _) λc hc=>((o.Nv.2 c hc).1,ady _);let dv:c.2∣bT cs:=hB c hc
 let le:=tX (l:=cs.map (nF (bT cs))) (λb hb=>by
  let(x,hx,rfl):=aam.mp hb
  show o.pos x hx) (aam.mpr (c,hc,rfl))
 rw[o.sum]at le;let wp:=o.pos c hc;unfold nF at le wp;let(m,em):=dv;let em':bT cs / c.2=m:=by rw[em];show ack m ()
 rw[em']at le wp;let m0:0 < m:=by
  rw[em]at B0;rcases adh 0 m with z| z
  .show z
  .have:=aaT z (aar a);omega
 let c0:0<=c.1:=by
  rcases adh c.1 0 with z| z
  .have:=abp (aar z) (aar m0);omega
  .show z
 let c1:c.1<=c.2:=by rw[em]at le;show Int.le_of_mul_le_mul_right le m0
 show(a,(m,em),(c0,c1),sW (k:=200) (d,a,?_) @_);have:(c.2.natAbs:Int) < ((2 ^ 200:Nat):Int):=by rw[ab8 (aar a)];show b
 show acG.mp this
abbrev Pl:=List (Int×Int)
def kP(pl:Pl):List Key:=pl.map λp=>Sum.inl p.1
def vP(pl:Pl):List Dt:=pl.map λp=>Dt.int p.2
abbrev dP(pl:Pl):MO:=.c_ (kP pl) (vP pl)
noncomputable def Λ:Pl->Int->Option Int
 | [],_=>none
 | p::r,i=>if p.1=i then !p.2 else Λ r i
noncomputable def dq(pl:Pl)(i v:Int):Pl:=if (Λ pl i).isSome=true then pl.map (λp=>if p.1=i then (p.1, v) else p) else pl++[(i, v)]
def LO:(decide ((Sum.inl a:Key)=Sum.inl b))=decide (a=b):=by
 by_cases h:a=b
 .rw[aa2 h,aa2 (abq Sum.inl h)]
 .rw[aa6 h,aa6 λz=>h (Sum.inl.inj z)]
def lD{i:Int}:∀{pl:Pl},bx (kP pl) (vP pl) (Sum.inl i)=(Λ pl i).map Dt.int
 | []=>rfl
 | p::r=>by
  let ih:=lD (i:=i) (pl:=r);unfold bx at ih⊢;change(List.find? (λq:Key×Dt=>decide (q.1=Sum.inl i)) ((Sum.inl p.1, Dt.int p.2)::(kP r).zip (vP r))).map (·.2)=Option.map Dt.int (if p.1=i then !p.2 else Λ r i);rw[List.find?_cons,LO];by_cases h:p.1=i
  .rw[aa2 h,aa0 h];rfl
  .rw[aa6 h,aa3 h];show ih
def K9{i:Int}:∀{pl:Pl},LX (kP pl) (Sum.inl i)=(Λ pl i).isSome
 | []=>rfl
 | p::r=>by
  let ih:=K9 (i:=i) (pl:=r);unfold LX at ih⊢;change(decide ((Sum.inl p.1:Key)=Sum.inl i)|| (kP r).any λc=>decide (c=Sum.inl i))=(if p.1=i then !p.2 else Λ r i).isSome;rw[LO,ih];by_cases h:p.1=i
  .rw[aa2 h,aa0 h];rfl
  .rw[aa6 h,aa3 h,Bool.false_or]
def G_{i:Int}:∀{pl:Pl},mJ (Sum.inl i:Key) (Dt.int v) (kP pl) (vP pl)=vP (pl.map λp=>if p.1=i then (p.1, v) else p)
 | []=>rfl
 | p::r=>by
  change(if (Sum.inl p.1:Key)=Sum.inl i then Dt.int v else Dt.int p.2)::mJ (Sum.inl i:Key) (Dt.int v) (kP r) (vP r)=Dt.int (if p.1=i then (p.1, v) else p).2::vP (r.map λp=>if p.1=i then (p.1, v) else p);rw[G_];by_cases h:p.1=i
  .rw[aa0 h,aa0 (abq Sum.inl h)]
  .rw[aa3 h,aa3 λz=>h (Sum.inl.inj z)]
set_option tactic.hygienic true
def CV{i v:Int}:∀{pl:Pl},kP (pl.map λp=>if p.1=i then (p.1, v) else p)=kP pl
 | []=>rfl
 | p::r=>by change(Sum.inl (if p.1=i then (p.1, v) else p).1:Key)::kP (r.map λp=>if p.1=i then (p.1, v) else p)=Sum.inl p.1::kP r;rw[CV];split <;> rfl
def uk{i:Int}:g7 (kP pl) (Sum.inl i)=kP (dq pl i v):=by
 unfold g7 dq;rw[K9];split
 .show CV.symm
 .unfold kP;rw[List.map_append];rfl
def xk{i:Int}:fD (kP pl) (Sum.inl i) (vP pl) (Dt.int v)=vP (dq pl i v):=by
 unfold fD dq;rw[K9];split
 .show G_
 .unfold vP;rw[List.map_append];rfl
def tD{i v j:Int}:∀{pl:Pl},Λ (pl.map λp=>if p.1=i then (p.1, v) else p) j=if j=i then (Λ pl j).map λ_=>v else Λ pl j
 | []=>by split <;> rfl
 | p::r=>by
  let ih:=tD (i:=i) (v:=v) (j:=j) (pl:=r);rw[aa1];unfold Λ;by_cases h:p.1=i
  .rw[aa0 h];by_cases hj:p.1=j
   .rw[aa0 hj,aa0 hj,aa0 ()];rfl
   .rw[aa3 hj,aa3 hj];show ih
  .rw[aa3 h];by_cases hj:p.1=j
   .rw[aa0 hj,aa0 hj,aa3 ()]
   .rw[aa3 hj,aa3 hj];show ih
def G7{i j v:Int}:∀{pl:Pl},Λ (pl++[(i, v)]) j=if (Λ pl j).isSome=true then Λ pl j else if i=j then !v else none
 | []=>rfl
 | p::r=>by
  let ih:=G7 (i:=i) (j:=j) (v:=v) (pl:=r);rw[List.cons_append];unfold Λ;by_cases hj:p.1=j
  .rw[aa0 hj,aa0 hj];rfl
  .rw[aa3 hj,aa3 hj];show ih
def tm{i j:Int}:Λ (dq pl i v) j=if j=i then !v else Λ pl j:=by
 unfold dq;split
 .rename_i h;rw[tD];split
  .rename_i e;subst e;let(x,hx):=aci.mp h;rw[hx];rfl
  .rfl
 .rename_i h;rw[G7];by_cases e:j=i
  .subst e;rw[aa3 h,aa0 rfl,aa0 rfl]
  .rw[aa3 e];cases hj:Λ pl j with
   | none=>rw[if_neg (by simp),if_neg ()]
   | some x=>rfl
def oE(pl:Pl):Prop:=(pl.map (·.1)).Nodup
def AF{i v:Int}:∀{pl:Pl},Λ pl i=!v->(i, v)∈pl
 | [],h=>by cases h
 | p::r,h=>by
  unfold Λ at h;split at h
  .rename_i e;have:p=(i, v):=by rw[<-e,<-aaC h]
   rw[this];show aah
  .show aaf _ (AF h)
def sJ{i v:Int}:∀{pl:Pl},oE pl->(i, v)∈pl->Λ pl i=!v
 | [],_,h=>by cases h
 | p::r,nd,h=>by
  unfold oE at nd;rw[aa1,aca]at nd;unfold Λ;rcases abg.mp h with e| e
  .rw[aa0 (by rw[<-e])];rw[<-e]
  .have:p.1≠i:=λz=>nd.1 (by rw[z];show aam.mpr (_,e,rfl));rw[aa3 this];show sJ nd.2 e
def Nq{i:Int}(h:Λ pl i=none):i∉pl.map (·.1):=λz=>by
 let(p,hp,e):=aam.mp z;have:∀{pl:Pl},p∈pl->Λ pl i≠none:=λ{pl}=>by
  induction pl with
  | nil=>intro h;cases h
  | cons q r ih=>
   intro h;unfold Λ;rcases abg.mp h with e'| e'
   .rw[if_pos (by rw[<-e'];show e)];simp
   .split
    .simp
    .show ih e'
 show this hp h
def TR{i:Int}(h:oE pl):oE (dq pl i v):=by
 unfold oE dq;split
 .let e:(pl.map λp=>if p.1=i then (p.1, v) else p).map (·.1)=pl.map (·.1):=by rw[aa4];show abO λp _=>?_;change(if p.1=i then (p.1, v) else p).1=p.1;split <;> rfl
  rw[e];show h
 .rename_i hn;let hn:Λ pl i=none:=by
   cases hg:Λ pl i with
   | none=>rfl
   | some x=>rw[hg]at hn;show abe rfl hn
  rw[aa9];show List.nodup_append.mpr (h,by simp,λa ha b hb z=>?_);have:b=i:=by simpa using hb
  show Nq hn (by rw[<-this,<-z];show ha)
noncomputable def J4(p1 p2:Pl):Bool:=decide (-p1=-p2)&&(List.range (-p1)).all λj=>decide (Λ p2 (p1.getD j (0, 0)).1=!(p1.getD j (0, 0)).2)
def QG{k:Key}(h:(kP pl)[j]? =!k):j < -pl/\k=Sum.inl (pl.getD j (0, 0)).1:=by unfold kP at h;rw[aas]at h;let(p,hp,e):=acJ.mp h;show((aai.mp hp).1,?_);rw[aab,hp];show e.symm
def Wh(h:(vP pl)[j]? =!d):d= .int (pl.getD j (0, 0)).2:=by unfold vP at h;rw[aas]at h;let(p,hp,e):=acJ.mp h;rw[aab,hp];show e.symm
def Oo(a b:Int):pW (V.int a) (V.int b)=decide (a=b):=by
 unfold pW;by_cases h:a=b
 .subst h;simp
 .simp[h]
def Mu{k1 k2:Nat}{p1 p2:Pl}(h1:M[k1]? =!(dP p1))(h2:M[k2]? =!(dP p2)):JH M (n+1) (.loc k1) (.loc k2) (J4 p1 p2):=by
 let l1:-(kP p1)=-p1:=by unfold kP;simp
 let l2:-(kP p2)=-p2:=by unfold kP;simp
 by_cases hl:-p1=-p2
 .have:=JH.c_ (M:=M) (n:=n) (f:=λj=>decide (Λ p2 (p1.getD j (0, 0)).1=!(p1.getD j (0, 0)).2)) h1 h2 (by rw[l1,l2];show hl) (λj k hk hn=>by
   let(hj,e):=QG hk;subst e;rw[lD]at hn;let hn:Λ p2 (p1.getD j (0, 0)).1=none:=by
    cases hg:Λ p2 (p1.getD j (0, 0)).1 with
    | none=>rfl
    | some x=>rw[hg]at hn;cases hn
   rw[hn];rfl) (λj k d d' hk hd hg=>by
   let(hj,e):=QG hk;let ed:=Wh hd;subst e ed;rw[lD]at hg;let(x,hx,ex):=acJ.mp hg;subst ex;have:decide (Λ p2 (p1.getD j (0, 0)).1=!(p1.getD j (0, 0)).2)=pW (V.int (p1.getD j (0, 0)).2) (V.int x):=by
    rw[hx,Oo];by_cases e:(p1.getD j (0, 0)).2=x
    .rw[decide_eq_true e,e];simp
    .rw[aa6 e,aa6 λz=>e (aaC z).symm]
   change JH M n _ _ (decide (Λ p2 (p1.getD j (0, 0)).1=!(p1.getD j (0, 0)).2));rw[this]
   show JH.flat rfl rfl)
  rw[l1]at this;unfold J4;rw[aa2 hl,Bool.true_and];show this
 .let e:J4 p1 p2=false:=by unfold J4;rw[decide_eq_false hl];rfl
  rw[e];show JH.len h1 h2 (by rw[l1,l2];show hl)
def HD{pl:Pl}(h:j < -pl):pl.getD j (0, 0)∈pl:=by rw[aab,aaa h];show aaG _
def vI(nd:oE pl):J4 pl pl=true:=by unfold J4;rw[aa2 rfl,Bool.true_and,ab6];intro j hj;show aa2 (sJ nd (HD (abG.mp hj)))
def Ω{E:Ms}{k:Nat}{m:MO}(h:M[k]? =!m):(M++E)[k]? =!m:=by rw[aaD (aai.mp h).1];show h
noncomputable def fS(pl:Pl)(i:Nat)(n:Nat):Bool:=match Λ pl i with
 | some v=>decide (0<=v)&&decide (v < n)
 | none=>false
noncomputable def mG(pf:Str->Option Pl)(i:Nat)(r:Rw):Bool:=match pf (kindOf r) with
 | some pl=>fS pl i (-(Ο r))
 | none=>true
noncomputable def fX(γ:List Rw)(pf:Str->Option Pl)(i:Nat):Bool:=match γ[i]? with
 | some r=>mG pf i r
 | none=>true
noncomputable def fj(γ:List Rw)(pf:Str->Option Pl):Nat->Pl
 | 0=>[]
 | n+1=>match (γ[n]?).bind λr=>pf (kindOf r) with
  | some pl=>dq (fj γ pf n) n ((Λ pl n).getD 0)
  | none=>fj γ pf n
def yn(γ:List Rw)(pf:Str->Option Pl):∀n,-(fj γ pf n)<=n
 | 0=>aaq _
 | n+1=>by
  let ih:=yn γ pf n;unfold fj;split
  .unfold dq;split
   .rw[aae];omega
   .rw[aak];show Nat.succ_le_succ ih
  .omega
def mj(γ:List Rw)(pf:Str->Option Pl):∀(n i:Nat),Λ (fj γ pf n) i=if i < n then ((γ[i]?).bind λr=>pf (kindOf r)).map λpl=>(Λ pl i).getD 0 else none
 | 0,i=>by rw[aa3 (acz _)];rfl
 | n+1,i=>by
  let ih:=mj γ pf n i;let step:Λ (fj γ pf (n+1)) i=if i=n then (match (γ[n]?).bind λr=>pf (kindOf r) with| some pl=>!((Λ pl n).getD 0)| none=>Λ (fj γ pf n) i) else Λ (fj γ pf n) i:=by
   rw[fj];cases hb:(γ[n]?).bind λr=>pf (kindOf r) with
   | none=>dsimp only;split <;> rfl
   | some pl=>
    dsimp only;rw[tm];by_cases e:i=n
    .rw[aa0 e,aa0 ()]
    .rw[aa3 e,aa3 ()]
  rw[step,ih];by_cases e:i=n
  .subst e;rw[aa0 rfl,aa3 (acn _),aa0 (acd _)];cases(γ[i]?).bind λr=>pf (kindOf r) with
   | none=>rfl
   | some pl=>rfl
  .rw[aa3 e];by_cases h:i < n
   .rw[aa0 h,aa0 ()]
   .rw[aa3 h,aa3 ()]
set_option tactic.hygienic false
def Ue(M:Ms)(k:Nat)(pf:Str->Option Pl):Prop:=∃ks ds,M[k]? =!(.c_ ks ds)/\∀z:Str,LX ks (Sum.inr z)=(pf z).isSome/\∀pl,pf z=!pl->∃k',bx ks ds (Sum.inr z)=!(.loc k')/\M[k']? =!(dP pl)
def Ue.app{E:Ms}{k:Nat}(h:Ue M k pf):Ue (M++E) k pf:=by let(ks,ds,a,b):=h;show(ks,ds,Ω a,λz=>((b z).1,λpl e=>?_));let(k',c,d):=(b z).2 pl e;show(k',c,Ω d)
def UY(A:Addr):DF:=λas M q _=>∃ε γ i r k pl,as=[ax A ε γ,.loc k,.int (i:Nat)]/\M[k]? =!(dP pl)/\γ[i]? =!r/\gZ r/\q (.bl (fS pl i (-(Ο r)))) M
def HM:Δ ["floor","plan","place"] ["floor","plan","place"] (τ vT):=.of rfl
def Es(F:cz K "has_door" "has_door" vT f fd)(E:Ev K mg w Cm)(aP:dD P w K mg base 2 Cm "doors" ["self","place"] (uK Cm) dQ dw):ao P w K mg base (bO P w) 3 f fd ["floor","plan","place"] (b8 K (UY Cm)):=by
 show F.de HM (λds M q x h=>?_) (λaQ A outer s H E' hr=>(_,(μ (ψ (gU (Wt hr (jv 2) (jv 1)) (gU (zt ξ (iw hr (jv 1) (jv 2))) (kz (LU (iw hr (jv 1) (jv 2)) (bz E.bb (ι (da (b9 aP hr ν (jv 0) (Ν (jv 2) θ))) θ aX)))))))),λds M q x h=>?_))
 .let(ε,γ,i,r,k,pl,rfl,_):=h;rfl
 .let(ε,γ,i,r,k,pl,rfl,hk,hi,ro,h):=h;unfold fS at h;let gi:(Sum.inl (i:Int):Key)=Sum.inl ((i:Nat):Int):=rfl;show(k,_,_,Sum.inl (i:Int),rfl,hk,rfl,?_);rw[K9];cases hg:Λ pl i with
  | none=>
   rw[hg]at h;show(nofun,λ_=>h)
  | some v=>
   rw[hg]at h;let h:q (.bl (decide (0<=v)&&decide (v < (-(Ο r):Int)))) M:=h;let dg:bx (kP pl) (vP pl) (Sum.inl (i:Int))=!(.int v):=by rw[lD,hg];rfl
   show(λ_=>?_,nofun);show(k,_,_,Sum.inl (i:Int),_,rfl,hk,rfl,dg,?_);show(λz=>?_,λz=>?_)
   .let z:0<=v:=aan z;rw[aa2 z,Bool.true_and]at h;show(k,_,_,Sum.inl (i:Int),_,rfl,hk,rfl,dg,?_);show((_,_,.inl rfl,rfl),ε,γ,i,r,rfl,hi,ro,dM (iY _) ?_);walk_at "vc";show(af (d:=.lst ((Ο r).map dW)) (xs:=(Ο r).map dW) rfl ?_:eQ [.lst ((Ο r).map dW)] _ _);rw[aae];show h
   .let z:¬0<=v:=aba z;rw[aa6 z,Bool.false_and]at h;let key:decide (0<=v)=false:=aa6 z;show h
def uh(A:Addr):DF:=λas M q _=>∃ε γ k pf,as=[ax A ε γ,.loc k]/\Ue M k pf/\OM ε γ/\(∀i,i < -γ->fX γ pf i=true)/\q (.loc (-M)) (M++[dP (fj γ pf (-γ))])
def mn:Δ ["floor","plans","doors","place","hand"] ["floor","plans"] (τ tN):=.of rfl
def DG(F:cz K "doors_of" "doors_of" tN f fd)(E:Ev K mg w Cm)(bq:dD P w K mg base 1 Cm "size" ["self"] (B8 Cm) eO eK)(Υ:dD P w K mg base 1 Cm "kind" ["self","place"] (oG Cm) aU aT)(rD:aq P w K mg base 3 "has_door" ["floor","plan","place"] (UY Cm) LB Mg):ao P w K mg base (bO P w) 4 f fd ["floor","plans"] (b8 K (uh Cm)):=by
 show F.de mn (λds M q x h=>?_) (λaQ A outer s H E' hr=>(_,(ζ (χ 2 mn.nd zC)
   (ζ (gT (bZ E.bH (ι (lT bq hr ν (jv 0)) θ aX)) (ai (i:=3) mn.nd rfl (Or.inl rfl)) aB (ζ (χ 4 mn.nd (b9 Υ hr ν (jv 0) (Ν (jv 3) θ)))
   (ζ (ah (xQ hr (jv 4) (jv 1)) (μ sf) Ι)
   (ζ (ah (cG (ba (Φ rD hr ν (Ν (jv 0) (ι (iw hr (jv 1) (jv 4)) (Ν (jv 3) θ) aw))))) (μ iA) Ι)
   (μ (o_ hr (jv 2) (jv 3) (iw hr (iw hr (jv 1) (jv 4)) (jv 3))))))))
   (μ (ψ (jv 2))))),λds M q x h=>?_))
 .let(ε,γ,k,pf,rfl,_):=h;rfl
 .let(ε,γ,k,pf,rfl,tw,pl,gd0,hg):=h;let lV:=pl.len;let km:k≠-M:=λe=>by let(ks,ds,a,_):=tw;rw[e,acj (aaq _)]at a;cases a
  walk_at "vc";show((_,_,.inl rfl,rfl),ε,γ,rfl,?_);show((),?_);rw[show((-γ:Int)).toNat=-γ by omega];show cU (λzs ρ' M'=>∃(i m:Nat) (o3 o4:Option Dt),zs=dJ (i:Int) m/\i+m=-γ/\M'=M++[dP (fj γ pf i)]/\ρ'=[!(ax Cm ε γ),!(.loc k),!(.loc (-M)),o3,o4]) (λx zs ρ' M' hj et=>?_) (λρ' M' hj=>?_) _ _ _ (0,-γ,none,none,rfl,(),rfl,rfl)
  .let(i,m,o3,o4,ex,im,rfl,rfl):=hj;let(m',rfl,rfl,rfl):=cx ex;let il:i < -γ:=()
   let hi:γ[i]? =!γ[i]:=aaa il;generalize hr0:γ[i]=r at *
   let rm:r∈γ:=aap hi;let ro:=(pl.row r rm).1;let ga:fX γ pf i=mG pf i r:=by unfold fX;rw[hi]
   let ac:∀Cy,pf (kindOf r)=!Cy->fj γ pf (i+1)=dq (fj γ pf i) i ((Λ Cy i).getD 0):=λCy e=>by rw[fj,hi];change(match pf (kindOf r) with| some pl=>_| none=>_)=_;rw[e]
   let an:pf (kindOf r)=none->fj γ pf (i+1)=fj γ pf i:=λe=>by rw[fj,hi];change(match pf (kindOf r) with| some pl=>_| none=>_)=_;rw[e]
   let(ks,ds,ca,cb):=(tw.app:Ue (M++[dP (fj γ pf i)]) k pf);show((_,_,.inl rfl,rfl),ε,γ,i,r,rfl,hi,?_);show(k,_,_,Sum.inr (kindOf r),rfl,ca,rfl,?_);rw[(cb (kindOf r)).1];cases hh:pf (kindOf r) with
   | none=>
    show(λ_=>?_,nofun);let e:=hh;show et _ _ (i+1,m',_,_,by rw[acQ];rfl,(),by rw[an e],rfl)
   | some Cy=>
    show(nofun,λ_=>?_);let(k',g2,g4):=(cb (kindOf r)).2 Cy hh;let g1:=ca;let g3:=hh;show(k,ks,ds,Sum.inr (kindOf r),_,rfl,g1,rfl,g2,?_);let gr:mG pf i r=fS Cy i (-(Ο r)):=by unfold mG;rw[g3]
    show(ε,γ,i,r,k',Cy,rfl,g4,hi,ro,λz=>?_,λz=>?_)
    .let z:fS Cy i (-(Ο r))=false:=by simpa using z
     have:=gd0 i il;rw[ga,gr,z]at this;cases this
    .let z:fS Cy i (-(Ο r))=true:=by simpa using z
     obtain⟨v,hv⟩:∃v,Λ Cy i=!v:=by
      unfold fS at z;cases hv:Λ Cy i with
      | none=>rw[hv]at z;cases z
      | some v=>show(v,rfl)
     let dg:bx (kP Cy) (vP Cy) (Sum.inl (i:Int))=!(.int v):=by rw[lD,hv];rfl
     dsimp only[u0,Kz];walk_at "vc";show(k,ks,ds,Sum.inr (kindOf r),_,rfl,g1,rfl,g2,?_);show(k',_,_,Sum.inl (i:Int),_,rfl,g4,rfl,dg,?_);show(-M,_,_,Sum.inl (i:Int),rfl,aA,rfl,?_,?_)
     .unfold kP;rw[List.length_map];have:=yn γ pf i;omega
     rw[uk (v:=v),xk,d_];let e:=ac Cy g3;rw[hv]at e;let e:fj γ pf (i+1)=dq (fj γ pf i) i v:=e;show et _ _ (i+1,m',_,_,by rw[acQ];rfl,(),by rw[e],rfl)
  .let(i,m,o3,o4,ex,im,rfl,rfl):=hj;let m0:m=0:=by have:=abq List.length ex;rw[gI]at this;show this.symm
   have:i=-γ:=()
   subst this;show hg
structure kQ(γ:List Rw)(Μ:Pl):Prop where
 hand:∀(i:Nat) (r:Rw),γ[i]? =!r->Η (kindOf r)=true->∃j:Nat,Λ Μ i=!(j:Int)/\j < -(Ο r)
 Ia:∀(i:Nat) (r:Rw),γ[i]? =!r->Η (kindOf r)=false->Λ Μ i=none
noncomputable def aO(Μ:Pl)(i:Nat)(r:Rw):List bU:=match Λ Μ i with
 | some j=>let  d:=(Ο r).getD j.toNat d0;[(d.1, d.2.1,d.2.2++[(1, 1)])]
 | none=>Ο r
def QH(A:Addr):DF:=λas M q _=>∃ε γ i r k Μ,as=[ax A ε γ,.int (i:Nat),.loc k]/\M[k]? =!(dP Μ)/\γ[i]? =!r/\gZ r/\kQ γ Μ/\q (.lst ((aO Μ i r).map dW)) M
def tH:Δ ["floor","place","doors","ways"] ["floor","place","doors"] (τ qC):=.of rfl
def A2(F:cz K "ways_from" "ways_from" qC f fd)(E:Ev K mg w Cm)(aP:dD P w K mg base 2 Cm "doors" ["self","place"] (uK Cm) dQ dw)(Υ:dD P w K mg base 1 Cm "kind" ["self","place"] (oG Cm) aU aT):ao P w K mg base (bO P w) 3 f fd ["floor","place","doors"] (b8 K (QH Cm)):=by
 show F.de tH (λds M q x h=>?_) (λaQ A outer s H E' hr=>(_,(ζ (χ 3 tH.nd (da (b9 aP hr ν (jv 0) (Ν (jv 1) θ))))
   (ζ (ah (Lv (b9 Υ hr ν (jv 0) (Ν (jv 1) θ)) (Kl E.zK)) (μ (ψ (kK (ι (cw (ω (jv 3) (iw hr (jv 2) (jv 1))) (cv 3 (d:=.tup [.tup [.int 1,.int 1]]) (by rfl))) θ bJ)))) Ι)
   (μ (ψ (jv 3))))),λds M q x h=>?_))
 .let(ε,γ,i,r,k,Μ,rfl,_):=h;rfl
 .let(ε,γ,i,r,k,Μ,rfl,hk,hi,ro,dk,h):=h;show((_,_,.inl rfl,rfl),ε,γ,i,r,rfl,hi,ro,dM (iY _) ?_);show((_,_,.inl rfl,rfl),ε,γ,i,r,rfl,hi,?_);show(_,_,_,rfl,rfl,rfl,?_);rw[vv];cases hh:Η (kindOf r) with
  | true=>
   show(λ_=>?_,nofun);let(j,hj,jl):=dk.hand i r hi hh;let dg:bx (kP Μ) (vP Μ) (Sum.inl (i:Int))=!(.int (j:Int)):=by rw[lD,hj];rfl
   let e:aO Μ i r=[(((Ο r).getD j d0).1, ((Ο r).getD j d0).2.1,((Ο r).getD j d0).2.2++[(1, 1)])]:=by unfold aO;rw[hj];rfl
   rw[e]at h;let gd:(Ο r).getD j d0=(Ο r)[j]:=by rw[aab,aaa jl];rfl
   let dm:-(Ο r)[j].2.2<=1:=by
    cases r with
    | fin p=>show abe jl (acz _)
    | υ k' ds=>show(ro.2.2.2 _ (aaG jl)).1
   rw[gd]at h;obtain⟨d,hd⟩:∃d,d=(Ο r)[j]:=(_,rfl);rw[<-hd]at h dm;walk_at "vc";show(k,_,_,Sum.inl (i:Int),_,rfl,hk,rfl,dg,?_);show(Ε (d:=.lst ((Ο r).map dW)) rfl (Kg jl) ?_:aW (.lst ((Ο r).map dW)) (.int (j:Int)) _ _);rw[<-hd];let sz:∀{z:Nat},z<=1000->z<=sizeLine:=λh=>aaF h @_;show((nofun,sz ?_),sz @_,?_)
   .simp;omega
   let e2:dW (d.1, d.2.1,d.2.2++[(1, 1)])= .tup ((.int d.1::Ξ d.2.1::d.2.2.map Ξ)++[.tup [.int 1,.int 1]]):=by unfold dW;rw[List.map_append];rfl
   let h:q (.lst [dW (d.1, d.2.1,d.2.2++[(1, 1)])]) M:=h;rw[e2]at h;show h
  | false=>
   show(nofun,λ_=>?_);let e:aO Μ i r=Ο r:=by unfold aO;rw[dk.Ia i r hi hh]
   rw[e]at h;show h
noncomputable def dU(f:Nat->Rat):Nat->Rat
 | 0=>0
 | n+1=>dU f n+f n
noncomputable def bo(f:bU->Rat):List bU->Rat
 | []=>0
 | d::ds=>f d+bo f ds
def eP{f g:Nat->Rat}:∀{n:Nat},(∀i,i < n->f i=g i)->dU f n=dU g n
 | 0,_=>rfl
 | n+1,h=>by change dU f n+f n=dU g n+g n;rw[eP λi hi=>h i (acP hi),h n (acd _)]
def vL(a b:Rat)(f g:Nat->Rat):∀n,dU (λi=>a * f i - b * g i) n=a * dU f n - b * dU g n
 | 0=>by change(0:Rat)=a * 0 - b * 0;grind
 | n+1=>by change dU (λi=>a * f i - b * g i) n+(a * f n - b * g n)=a * (dU f n+f n) - b * (dU g n+g n);rw[vL a b f g n];grind
def Ci{t:Nat}(y:Nat->Rat):∀{n:Nat},n<=t->dU (λx=>(if x=t then 1 else 0) * y x) n=0
 | 0,_=>rfl
 | n+1,h=>by change dU (λx=>(if x=t then 1 else 0) * y x) n+(if n=t then 1 else 0) * y n=0;rw[Ci y (),if_neg ()];grind
def vk{t:Nat}(y:Nat->Rat):∀{n:Nat},t < n->dU (λx=>(if x=t then 1 else 0) * y x) n=y t
 | 0,h=>abe h (acz _)
 | n+1,h=>by
  change dU (λx=>(if x=t then 1 else 0) * y x) n+(if n=t then 1 else 0) * y n=y t;by_cases e:n=t
  .subst e;rw[Ci y (Nat.le_refl _),if_pos rfl];grind
  .rw[vk y (),if_neg e];grind
def qa(f:Nat->Int):∀n,((Bz.Ζ f n:Int):Rat)=dU (λi=>(f i:Rat)) n
 | 0=>rfl
 | n+1=>by change((Bz.Ζ f n+f n:Int):Rat)=dU (λi=>(f i:Rat)) n+f n;rw[Rat.intCast_add,qa f n]
def ab(q:Rat):Rat:=if q < 0 then - q else q
set_option tactic.hygienic true
def mK{m:Rat}:ab x<=m↔ - m<=x/\x<=m:=by unfold ab;split <;> grind
def TQ(x:Rat):0<=ab x:=by unfold ab;split <;> grind
set_option tactic.hygienic false
def Ll(x:Nat->Rat):∀n,∃i,i < n+1/\∀j,j < n+1->ab (x j)<=ab (x i)
 | 0=>(0,(),λj hj=>by rw[show j=0 by omega];grind)
 | n+1=>by
  let(i,hi,h):=Ll x n;by_cases c:ab (x i)<=ab (x (n+1))
  .show(n+1,(),λj hj=>?_);by_cases e:j=n+1
   .subst e;grind
   .have:=h j ();grind
  .show(i,(),λj hj=>?_);by_cases e:j=n+1
   .subst e;grind
   .show h j ()
def Nt{x:Nat->Rat}{s c:Rat}(s1:s < 1)(h:∀i,i < n->∀m,(∀j,j < n->ab (x j)<=m)->ab (x i)<=c+s * m):∀i,i < n->ab (x i) * (1 - s)<=c:=λi hi=>by obtain⟨k,rfl⟩:∃k,n=k+1:=(n - 1,());let(t,ht,NY):=Ll x k;let h1:=h t ht _ NY;let h2:=NY i hi;have:=Rat.mul_le_mul_of_nonneg_right h2 (show 0<=1 - s by grind);grind
def oa{f g:bU->Rat}:∀{ds:List bU},(∀d∈ds,f d=g d)->bo f ds=bo g ds
 | [],_=>rfl
 | d::ds,h=>by change f d+bo f ds=g d+bo g ds;rw[h d aah,oa λx hx=>h x (aaf _ hx)]
def uz(f g:bU->Rat):∀ds:List bU,bo (λd=>f d - g d) ds=bo f ds - bo g ds
 | []=>by change(0:Rat)=0 - 0;grind
 | d::ds=>by change(f d - g d)+bo (λd=>f d - g d) ds=(f d+bo f ds) - (g d+bo g ds);rw[uz f g ds];grind
abbrev cV(d:bU):Rat:=val (Γ d)
structure Ej(n:Nat)(ae:List bU):Prop where
 to:∀d∈ae,0<=d.1/\d.1 < n
 c0:∀d∈ae,0<=cV d
 one:bo cV ae<=1
def GV{n:Nat}{y:Nat->Rat}{m:Rat}(hm:∀j,j < n->ab (y j)<=m):∀{ae:List bU},(∀d∈ae,0<=d.1/\d.1 < n)->(∀d∈ae,0<=cV d)->ab (bo (λd=>cV d * y d.1.toNat) ae)<=bo cV ae * m
 | [],_,_=>by change ab 0<=0 * m;unfold ab;rw[if_neg (by grind)];grind
 | d::ae,h1,h2=>by let i:=GV hm (λx hx=>h1 x (aaf _ hx)) (λx hx=>h2 x (aaf _ hx));let(a,b):=h1 d aah;let c:=h2 d aah;let y1:=mK.mp (hm d.1.toNat ());change ab (cV d * y d.1.toNat+bo (λd=>cV d * y d.1.toNat) ae)<=(cV d+bo cV ae) * m;let e1:=abK y1.1 c;let e2:=abK y1.2 c;let i:=mK.mp i;show mK.mpr (?_,?_) <;> grind
def Fw{ae:List bU}(w:Ej n ae)(n0:0 < n){y:Nat->Rat}{m:Rat}(hm:∀j,j < n->ab (y j)<=m):ab (bo (λd=>cV d * y d.1.toNat) ae)<=m:=by
 have:=GV hm w.to w.c0;let m0:0<=m:=by have:=hm 0 n0;have:=TQ (y 0);grind
 have:=acA w.one m0;grind
def M9{c:Fr}(h:0 < c.2)(hd:c.2∣B):((nF B c:Int):Rat)=val c * B:=by
 let(k,rfl):=hd;unfold nF val;rw[ack _ (),abu,abu];have:=aR (show c.2≠0 by omega);generalize (c.1:Rat)=a at *
 generalize (c.2:Rat)=b at *
 generalize (k:Rat)=e at *
 grind
def J5{B:Int}:∀{ds:List bU},(∀d∈ds,0 < (Γ d).2/\(Γ d).2∣B)->((((ds.map Γ).map (nF B)).sum:Int):Rat)=bo cV ds * B
 | [],_=>by change((0:Int):Rat)=0 * B;grind
 | d::ds,h=>by let i:=J5 (ds:=ds) λx hx=>h x (aaf _ hx);let(a,b):=h d aah;change(((nF B (Γ d)+((ds.map Γ).map (nF B)).sum:Int)):Rat)=(cV d+bo cV ds) * B;rw[Rat.intCast_add,i,M9 a b];grind
def tT{c:Fr}(h:0 < c.2)(h0:0<=c.1):0<=val c:=by
 let e:val c * (c.2:Rat)=c.1:=by
  have:=aR (show c.2≠0 by omega);unfold val;generalize (c.1:Rat)=x at *
  generalize (c.2:Rat)=y at *
  grind
 let p:(0:Rat) < (c.2:Rat):=acr.mpr h;let q:(0:Rat)<=(c.1:Rat):=ab3.mpr h0;by_cases z:0<=val c
 .show z
 .have:=Rat.mul_pos (show 0 < - val c by grind) p;grind
def NK{ds:List bU}(o:K0 (ds.map Γ)):bo cV ds=1/\∀d∈ds,0<=cV d:=by
 let(_,_,hB):=jC (ds.map Γ) 1 0 @_ (ady _) λc hc=>((o.Nv.2 c hc).1,ady _);let hm:∀d∈ds,Γ d∈ds.map Γ:=λd hd=>aam.mpr (d,hd,rfl);let e:=J5 (B:=bT (ds.map Γ)) (ds:=ds) λd hd=>((o.Nv.2 _ (hm d hd)).1,hB _ (hm d hd));rw[o.sum]at e;let b0:=aR (show bT (ds.map Γ)≠0 by have:=o.b0;omega);show(?_,λd hd=>?_)
 .generalize ((bT (ds.map Γ):Int):Rat)=b at *
  grind
 .show tT (o.Nv.2 _ (hm d hd)).1 ?_;let p:=o.pos _ (hm d hd);unfold nF at p;let q0:0<=bT (ds.map Γ) / (Γ d).2:=Int.ediv_nonneg (aar o.b0) (aar (o.Nv.2 _ (hm d hd)).1);rcases adh (Γ d).1 0 with z| z
  .have:=Int.mul_nonpos_of_nonpos_of_nonneg (aar z) q0;omega
  .show z
def I_{p q:Fr}(hp:0 < p.2)(hq:0 < q.2):val (i9 p q)=val p - val q:=by
 unfold i9;rw[lh (acm (abC hp hq))];let h1:=aR (show p.2≠0 by omega);let h2:=aR (show q.2≠0 by omega);rw[Rat.intCast_sub,abu,abu,abu];unfold val;generalize (p.1:Rat)=a at *
 generalize (p.2:Rat)=b at *
 generalize (q.1:Rat)=c at *
 generalize (q.2:Rat)=d at *
 grind
def Fq{p q:Fr}(hp:0 < p.2)(hq:0 < q.2)(h:iQ p E)(h':iQ q E):iQ (i9 p q) E:=by let(N,e):=h;let(N',e'):=h';unfold i9;show rj (N:=N - N') (Int.ne_of_gt (Int.mul_pos hp hq)) (by grind)
def IU{p q:Fr}{D:Int}(hp:0 < p.2)(hq:0 < q.2)(h:fb p C)(h':fb q D):fb (i9 p q) (C+D):=by
 unfold i9;let a:=cq h.1 (aar hq);let b:=cq h'.1 (aar hp);let c:=cq h.2 (aar hq);let d:=cq h'.2 (aar hp);show oU (abC hp hq) ?_ ?_
 .let e:p.2 * q.2 * (C+D)=p.2 * C * q.2+q.2 * D * p.2:=by grind
  let e2: - (q.2 * D) * p.2= - (q.2 * D * p.2):=by grind
  omega
 .let e: - (p.2 * q.2 * (C+D))= - (p.2 * C) * q.2+ - (q.2 * D * p.2):=by grind
  omega
structure Nr(E C:Int)(p:Fr):Prop where
 red:Red p
 he:iQ p E
 ab:fb p C
structure nI(n:Nat)(E C:Int)(v:Nat->Rat)(ns:List Fr):Prop where
 len:-ns=n
 nr:∀x,x < n->Nr E C (ns.getD x (0, 1))
 val:∀x,x < n->val (ns.getD x (0, 1))=v x
noncomputable def u7(ε:Fr)(ns:List Fr)(d:bU):List Fr:=ns.set d.1.toNat (i9 (ns.getD d.1.toNat (0, 1)) (bt ε (Γ d)))
noncomputable def iz(ε:Fr)(n i:Nat)(ae:List bU):List Fr:=ae.foldl (u7 ε) ((List.replicate n ((0, 1):Fr)).set i (1, 1))
def aaU(c:0<=C):Nr E C (0, 1):=((@_,@_),(0,by simp),(by change(0:Int)<=1 * C;omega,by change - (1 * C)<=(0:Int);omega))
def aaO:Nr E 1 (1, 1):=((@_,@_),(E,by simp),(@_,@_))
def Bf{ns:List Fr}{t:Nat}(h:t < -ns):(ns.set t a).getD x (0, 1)=if x=t then a else ns.getD x (0, 1):=by
 rw[aab,List.getElem?_set];by_cases e:x=t
 .subst e;rw[aa0 rfl,aa0 h,aa0 rfl];rfl
 .rw[aa3 (Ne.symm e),aa3 e,<-aab]
set_option tactic.hygienic true
def L_(hi:i < n):nI n E 1 (λx=>if x=i then 1 else 0) ((List.replicate n ((0, 1):Fr)).set i (1, 1)):=by
 let g:∀x,((List.replicate n ((0, 1):Fr)).set i (1, 1)).getD x (0, 1)=if x=i then (1, 1) else (0, 1):=λx=>by
  rw[Bf (by simpa using hi)]
  congr 1
  rw[aab,acS];split <;> rfl
 show(by simp,λx _=>?_,λx _=>?_)
 .rw[g];split
  .show aaO
  .show aaU @_
 .rw[g];change Pg.val (if x=i then (1, 1) else (0, 1))=if x=i then 1 else 0
  unfold Pg.val;split
  .change((1:Int):Rat) / ((1:Int):Rat)=1;grind
  .change((0:Int):Rat) / ((1:Int):Rat)=0;grind
structure Ul(ε:Fr)(E:Int)(d:bU):Prop where
 s0:0 < ε.2
 su:iy ε
 c0:0 < (Γ d).2
 cu:iy (Γ d)
 he:iQ (bt ε (Γ d)) E
def Ul.nr{d:bU}(h:Ul ε E d):Nr E 1 (bt ε (Γ d)):=by let p:=abC h.s0 h.c0;let u:=E9 h.s0 h.c0 h.su h.cu;let r:Red (bt ε (Γ d)):=cR (acm p);let rp:=r.pos;let(u1,u2):=u;show(r,h.he,((),()))
def Co{d:bU}(h:nI n E C v ns)(c:0<=C)(hd:0<=d.1/\d.1 < n)(sc:Ul ε E d):nI n E (C+1) (λx=>v x - Pg.val ε * ((if d.1.toNat=x then 1 else 0) * cV d)) (u7 ε ns d):=by
 let ht:d.1.toNat < -ns:=by rw[h.len];omega
 let k:=sc.nr;let g:=λx=>Bf (x:=x) (a:=i9 (ns.getD d.1.toNat (0, 1)) (bt ε (Γ d))) ht;show(by unfold u7;rw[List.length_set];show h.len,λx hx=>?_,λx hx=>?_)
 .unfold u7;rw[g];let a:=h.nr x hx;split
  .rename_i e;rw[<-e];let p:=abC a.red.pos k.red.pos;show(cR (acm p),Fq a.red.pos k.red.pos a.he k.he,IU a.red.pos k.red.pos a.ab k.ab)
  .have:=aaT (show C<=C+1 by omega) (aar a.red.pos);show(a.red,a.he,(acp a.ab.1 this,by have:=a.ab.2;omega))
 .unfold u7;rw[g];let a:=h.nr x hx;let b:=h.val x hx;split
  .rename_i e;rw[<-e,I_ a.red.pos k.red.pos,b,qb sc.s0 sc.c0,if_pos rfl];grind
  .rename_i e;rw[b,if_neg (Ne.symm e)];grind
set_option tactic.hygienic false
def yd{n:Nat}{E:Int}:∀{ae:List bU} {ns:List Fr} {v:Nat->Rat} {C:Int},(∀d∈ae,(0<=d.1/\d.1 < n)/\Ul ε E d)->0<=C->nI n E C v ns->nI n E (C+-ae) (λx=>v x - Pg.val ε * bo (λd=>(if d.1.toNat=x then 1 else 0) * cV d) ae) (ae.foldl (u7 ε) ns)
 | [],ns,v,C,_,_,h=>by
  show(h.len,λx hx=>?_,λx hx=>?_)
  .rw[adm,Int.natCast_zero,Int.add_zero];show h.nr x hx
  .change _=v x - Pg.val ε * 0;rw[show v x - Pg.val ε * 0=v x by grind];show h.val x hx
 | d::ae,ns,v,C,hw,c,h=>by let(h1,h2):=hw d aah;let i:=yd (ae:=ae) (λx hx=>hw x (aaf _ hx)) () (Co h c h1 h2);rw[acy,aaN,show C+((-ae+1:Nat):Int)=C+1+-ae by omega];show(i.len,i.nr,λx hx=>?_);rw[i.val x hx];change v x - Pg.val ε * ((if d.1.toNat=x then 1 else 0) * cV d) - Pg.val ε * bo (λd=>(if d.1.toNat=x then 1 else 0) * cV d) ae=v x - Pg.val ε * ((if d.1.toNat=x then 1 else 0) * cV d+bo (λd=>(if d.1.toNat=x then 1 else 0) * cV d) ae);grind
noncomputable def vW(s:Rat)(i:Nat)(ae:List bU)(x:Nat):Rat:=(if x=i then 1 else 0) - s * bo (λd=>(if d.1.toNat=x then 1 else 0) * cV d) ae
def Pn{ae:List bU}(hi:i < n)(hw:∀d∈ae,(0<=d.1/\d.1 < n)/\Ul ε E d):nI n E (1+-ae) (vW (Pg.val ε) i ae) (iz ε n i ae):=yd hw @_ (L_ hi)
def Mz{n i:Nat}(hi:i < n)(y:Nat->Rat):∀{ae:List bU},(∀d∈ae,0<=d.1/\d.1 < n)->dU (λx=>vW s i ae x * y x) n=y i - s * bo (λd=>cV d * y d.1.toNat) ae
 | [],_=>by rw[eP (g:=λx=>(if x=i then 1 else 0) * y x) λx _=>by change((if x=i then 1 else 0) - s * 0) * y x=_;grind];rw[vk y hi];change y i=y i - s * 0;grind
 | d::ae,h=>by
  let(a,b):=h d aah;let ih:=Mz (s:=s) hi y (ae:=ae) λx hx=>h x (aaf _ hx)
  rw[eP (g:=λx=>1 * (vW s i ae x * y x) - (s * cV d) * ((if x=d.1.toNat then 1 else 0) * y x)) λx _=>by
   change((if x=i then 1 else 0) - s * ((if d.1.toNat=x then 1 else 0) * cV d+bo (λd=>(if d.1.toNat=x then 1 else 0) * cV d) ae)) * y x=1 * (((if x=i then 1 else 0) - s * bo (λd=>(if d.1.toNat=x then 1 else 0) * cV d) ae) * y x) - (s * cV d) * ((if x=d.1.toNat then 1 else 0) * y x);by_cases e:x=d.1.toNat
   .rw[if_pos e,if_pos e.symm];grind
   .rw[if_neg e,if_neg (Ne.symm e)];grind]
  rw[vL,ih,vk y (show d.1.toNat < n by omega)];change _=y i - s * (cV d * y d.1.toNat+bo (λd=>cV d * y d.1.toNat) ae);grind
def om(ns:List Fr):List Int:=ns.map λc=>c.1 * (bT ns / c.2)
def A5{ns:List Fr}(h:∀c∈ns,Nr E C c)(e0:0 < E)(c0:0<=C):0 < bT ns/\bT ns<=E/\∀c∈ns,((nF (bT ns) c:Int):Rat)=val c * (bT ns:Int)/\ - (C * E)<=nF (bT ns) c/\nF (bT ns) c<=C * E:=by
 let b0:0 < bT ns:=gB ns 1 @_ λc hc=>(h c hc).red.pos;let(d1,_,d3):=jC ns 1 E @_ (Int.one_dvd _) λc hc=>((h c hc).red.pos,z5 (h c hc).red (h c hc).he);let le:=ac1 e0 d1;show(b0,le,λc hc=>(M9 (h c hc).red.pos (d3 c hc),?_));let hd:=d3 c hc;let cp:=(h c hc).red.pos;let(a1,a2):=(h c hc).ab;let le:bT ns<=E:=le;let b0:0 < bT ns:=b0;generalize hL:bT ns=L at *
 let hd:c.2∣L:=by rw[<-hL];show hd
 let(k,rfl):=hd;unfold nF;rw[ack _ ()];let k0:0<=k:=by
  rcases adh k 0 with z| z
  .have:=acO cp z;omega
  .show z
 let m1:=cq a1 k0;let m2:=cq a2 k0;let m3:=aaT le c0;let e1:c.2 * C * k=C * (c.2 * k):=by grind
 let e2: - (c.2 * C) * k= - (C * (c.2 * k)):=by grind
 show((),())
noncomputable def nH(ε:Fr)(n i:Nat)(ae:List bU)(given:Fr):List Int:=om (iz ε n i ae++[given])
structure xT(ε:Fr)(n:Nat)(E C:Int)(ae:List bU)(given:Fr):Prop where
 wo:Ej n ae
 sc:∀d∈ae,Ul ε E d
 gn:Nr E C given
 e0:0 < E
 cl:1+(-ae:Int)<=C
def Cp{D:Int}(h:Nr E C p)(l:C<=D):Nr E D p:=by have:=aaT l (aar h.red.pos);let(a,b):=h.ab;show(h.red,h.he,((),()))
def tE{ns:List Fr}{x:Nat}(h:x < -ns):ns.getD x (0, 1)∈ns:=by rw[aab,aaa h];show aaG h
def Ef{ae:List bU}(hi:i < n)(p:xT ε n E C ae given):-(nH ε n i ae given)=n+1/\(∀x∈nH ε n i ae given,- (C * E)<=x/\x<=C * E)/\∃L:Rat,0 < L/\(∀y:Nat->Rat,dU (λx=>((nH ε n i ae given).getD x 0:Rat) * y x) n=L * (y i - Pg.val ε * bo (λd=>cV d * y d.1.toNat) ae))/\((nH ε n i ae given).getD n 0:Rat)=L * Pg.val given:=by
 let no:=Pn hi λd hd=>(p.wo.to d hd,p.sc d hd);let c0:0<=C:=by have:=p.cl;omega
 let all:∀c∈iz ε n i ae++[given],Nr E C c:=λc hc=>by
  rcases abj.mp hc with z| z
  .let(x,hx,e):=ab2 z;let VN:x < n:=by rw[<-no.len];show hx
   have:=no.nr x VN;rw[aab,aaa hx]at this;rw[<-e];show Cp this p.cl
  .rw[abh.mp z];show p.gn
 let(b0,bE,hb):=A5 all p.e0 c0;let ln:-(iz ε n i ae)=n:=no.len;let at_:∀x,x < n+1->(nH ε n i ae given).getD x 0=nF (bT (iz ε n i ae++[given])) ((iz ε n i ae++[given]).getD x (0, 1)):=λx hx=>by
  unfold nH om;let hx:x < -(iz ε n i ae++[given]):=by simp[ln];show hx
  rw[aab,aas,aab,aaa hx];rfl
 let in_:∀x,x < n+1->(iz ε n i ae++[given]).getD x (0, 1)∈iz ε n i ae++[given]:=λx hx=>tE (by simp[ln];show hx);show(by unfold nH om;simp[ln],λx hx=>?_,((bT (iz ε n i ae++[given]):Int):Rat),?_,λy=>?_,?_)
 .unfold nH om at hx;let(c,hc,rfl):=aam.mp hx;show(hb c hc).2
 .show acr.mpr b0
 .rw[eP (g:=λx=>((bT (iz ε n i ae++[given]):Int):Rat) * (vW (Pg.val ε) i ae x * y x) - 0 * 0) λx hx=>by
   rw[at_ x (),(hb _ (in_ x ())).1];have:(iz ε n i ae++[given]).getD x (0, 1)=(iz ε n i ae).getD x (0, 1):=by rw[aab,aaD (by rw[ln];show hx),<-aab]
   rw[this,no.val x hx];grind]
  rw[vL _ 0 (λx=>vW (Pg.val ε) i ae x * y x) (λ_=>0),Mz hi y p.wo.to];grind
 .rw[at_ n (),(hb _ (in_ n ())).1];have:(iz ε n i ae++[given]).getD n (0, 1)=given:=by rw[aab,aay (by rw[ln];show aaq _),ln,adx];rfl
  rw[this];grind
structure Sys(ε:Fr)(n:Nat)(B:Int)(ws:Nat->List bU)(gv:Nat->Fr):Prop where
 n1:1<=n
 s0:0<=Pg.val ε
 s1:Pg.val ε < 1
 b1:1<=B
 JB:∀i,i < n->∃E C,xT ε n E C (ws i) (gv i)/\C * E<=B
noncomputable def iP(ε:Fr)(n:Nat)(ws:Nat->List bU)(gv:Nat->Fr):List (List Int):=(List.range n).map λi=>nH ε n i (ws i) (gv i)
set_option tactic.hygienic true
section
variable{ε:Fr}{ws:Nat->List bU}{gv:Nat->Fr}
def DH{k:Nat}(h:k < n):Bz.arr (iP ε n ws gv) k x=(nH ε n k (ws k) (gv k)).getD x 0:=by
 unfold Bz.arr iP
 congr 1
 rw[aab,aas,abB h];rfl
def l9:-(iP ε n ws gv)=n:=by unfold iP;simp
def Sys.eq(S:Sys ε n B ws gv){k:Nat}(hk:k < n):∃L:Rat,0 < L/\(∀y:Nat->Rat,dU (λx=>(Bz.arr (iP ε n ws gv) k x:Rat) * y x) n=L * (y k - Pg.val ε * bo (λd=>cV d * y d.1.toNat) (ws k)))/\(Bz.arr (iP ε n ws gv) k n:Rat)=L * Pg.val (gv k):=by
 let(E,C,p,_):=S.JB k hk;let(_,_,L,l0,l1,l2):=Ef hk p;show(L,l0,λy=>?_,?_)
 .rw[<-l1 y];show eP λx _=>by rw[DH hk]
 .rw[DH hk];show l2
def Sys.zero(S:Sys ε n B ws gv){y:Nat->Rat}(h:∀k,k < n->y k=Pg.val ε * bo (λd=>cV d * y d.1.toNat) (ws k)):∀k,k < n->y k=0:=λk hk=>by
 have:=Nt (n:=n) (x:=y) (c:=0) S.s1 (λi hi m hm=>by
  let(E,C,p,_):=S.JB i hi;let w:=mK.mp (Fw p.wo () hm);let a:=abK w.1 S.s0;let b:=abK w.2 S.s0;rw[h i hi]
  show mK.mpr (?_,?_) <;> grind) k hk
 let a0:=TQ (y k);let s1:=S.s1;have:ab (y k)=0:=by
  by_cases e:ab (y k)=0
  .show e
  .let p:=Rat.mul_pos (show 0 < ab (y k) by grind) (show 0 < 1 - Pg.val ε by grind);grind
 unfold ab at this;split at this <;> grind
set_option tactic.hygienic false
def Sys.ker(S:Sys ε n B ws gv)(y:Bz.Row)(h:∀k,k < n->Bz.Ζ (λx=>Bz.arr (iP ε n ws gv) k x * y x) n=0):∀x,x < n->y x=0:=λx hx=>by
 have:=S.zero (y:=λx=>(y x:Rat)) (λk hk=>by
  let(L,l0,l1,_):=S.eq hk;let e:=abq (λz:Int=>(z:Rat)) (h k hk);rw[qa,eP (g:=λx=>(Bz.arr (iP ε n ws gv) k x:Rat) * (y x:Rat)) λx _=>abu _ _,l1 λx=>(y x:Rat)]at e;let e:L * ((y k:Rat) - Pg.val ε * bo (λd=>cV d * (y d.1.toNat:Rat)) (ws k))=0:=e;rcases Rat.mul_eq_zero.mp e with z| z
  .grind
  .grind) x hx
 show Rat.intCast_eq_zero_iff.mp this
def Sys.bd(S:Sys ε n B ws gv):Bz.Bd (Bz.arr (iP ε n ws gv)) n (n+1) B:=(S.b1,λk c hk hc=>by
 let(E,C,p,hB):=S.JB k hk;let(ln,hb,_):=Ef hk p;rw[DH hk];have:=hb ((nH ε n k (ws k) (gv k)).getD c 0) (by rw[aab,aaa ()];show aaG _)
 show((),()))
structure Tab(ε:Fr)(n:Nat)(ws:Nat->List bU)(gv:Nat->Fr)(tb:List Fr):Prop where
 len:-tb=n
 red:∀i,i < n->Red (tb.getD i (0, 1))
 eq:∀i,i < n->Pg.val (tb.getD i (0, 1))=Pg.val (gv i)+Pg.val ε * bo (λd=>cV d * Pg.val (tb.getD d.1.toNat (0, 1))) (ws i)
def Sys.uniq(S:Sys ε n B ws gv){t:List Fr}(h:Tab ε n ws gv t)(h':Tab ε n ws gv t'):t=t':=by
 let z:=S.zero (y:=λx=>Pg.val (t.getD x (0, 1)) - Pg.val (t'.getD x (0, 1))) (λk hk=>by
  rw[h.eq k hk,h'.eq k hk];rw[show(λd:bU=>cV d * (Pg.val (t.getD d.1.toNat (0, 1)) - Pg.val (t'.getD d.1.toNat (0, 1))))=λd=>cV d * Pg.val (t.getD d.1.toNat (0, 1)) - cV d * Pg.val (t'.getD d.1.toNat (0, 1)) by funext d;grind,uz]
  grind)
 apply ach
 .rw[h.len,h'.len]
 .intro i h1 h2;let hi:i < n:=by rw[<-h.len];show h1
  let a:=h.red i hi;let b:=h'.red i hi;let c:=z i hi;rw[aab,aaa h1]at a c;rw[aab,aaa h2]at b c;show AE a b (by let c:Pg.val t[i] - Pg.val t'[i]=0:=c;grind)
def Sys.ex(S:Sys ε n B ws gv)(Dc:n<=12):∃(tb:List Fr) (z:Bz.Row) (N:Int),Bz.TM (Bz.arr (iP ε n ws gv)) n n z N/\N≠0/\(∀i,i < n->N * (tb.getD i (0, 1)).1=z i * (tb.getD i (0, 1)).2)/\Tab ε n ws gv tb/\∀i,i < n->(tb.getD i (0, 1)).2<=(12 * B) ^ n:=by
 let(ρ,ο,q,d,W,t):=Bz.Turn.exists (A:=Bz.arr (iP ε n ws gv)) (n:=n) n;let hc:ο=List.range n:=by
  rcases t.all with e| ⟨x,h1,h2⟩
  .show e
  .let(z,z1,z2):=t.kernel h1 h2;have:=S.ker z z2 x h1;rw[z1]at this;show abe () t.d0
 let lr:-ρ=n:=by rw[<-t.st.lc,hc,abJ]
 let sol:=t.UX λi h1 h2=>abe h1 ();let d0:=t.d0;generalize hz:Bz.Ny (Bz.arr (iP ε n ws gv)) n W ο n (-ο)=z at *
 let g:∀i,i < n->((List.range n).map λi=>aD (z i) d).getD i (0, 1)=aD (z i) d:=λi hi=>by rw[aab,aas,abB hi];rfl
 show((List.range n).map λi=>aD (z i) d,z,d,sol,d0,λi hi=>?_,(by simp,λi hi=>?_,λi hi=>?_),λi hi=>?_)
 .rw[g i hi,<-cE d0]
 .rw[g i hi];show cR d0
 .let(L,l0,l1,l2):=S.eq hi;let(E,C,p,_):=S.JB i hi;let e:=abq (λz:Int=>(z:Rat)) (sol i hi);rw[qa,eP (g:=λx=>(Bz.arr (iP ε n ws gv) i x:Rat) * (z x:Rat)) λx _=>abu _ _,l1 λx=>(z x:Rat),abu,l2]at e;rw[g i hi,lh d0]
  rw[oa (g:=λdd=>(1 / (d:Rat)) * (cV dd * (z dd.1.toNat:Rat)) - 0) λdd hdd=>by
   let(a,b):=p.wo.to dd hdd;rw[g _ (),lh d0];have:=aR d0
   grind]
  let sc:∀(k:Rat) (ds:List bU),bo (λdd=>k * (cV dd * (z dd.1.toNat:Rat)) - 0) ds=k * bo (λdd=>cV dd * (z dd.1.toNat:Rat)) ds:=λk ds=>by
   induction ds with
   | nil=>change(0:Rat)=k * 0;grind
   | cons a ds ih=>
    change k * (cV a * (z a.1.toNat:Rat)) - 0+bo (λdd=>k * (cV dd * (z dd.1.toNat:Rat)) - 0) ds=k * (cV a * (z a.1.toNat:Rat)+bo (λdd=>cV dd * (z dd.1.toNat:Rat)) ds);rw[ih];grind
  rw[sc];have:=aR d0;let e:L * ((z i:Rat) - Pg.val ε * bo (λdd=>cV dd * (z dd.1.toNat:Rat)) (ws i))=(d:Rat) * (L * Pg.val (gv i)):=e;let e2:(z i:Rat) - Pg.val ε * bo (λdd=>cV dd * (z dd.1.toNat:Rat)) (ws i)=(d:Rat) * Pg.val (gv i):=by
   have:L * ((z i:Rat) - Pg.val ε * bo (λdd=>cV dd * (z dd.1.toNat:Rat)) (ws i) - (d:Rat) * Pg.val (gv i))=0:=by grind
   rcases Rat.mul_eq_zero.mp this with y| y
   .grind
   .grind
  grind
 .rw[g i hi];let ad:=t.st.aaE S.bd (λc tI=>aaW (t.cl c tI) (Nat.le_succ _)) ();rw[lr]at ad;let l:=kT (t:=z i) d0;let q0:=cY (t:=z i) d0;let(a1,a2):=ad;omega
end
set_option tactic.hygienic false
def QI{d:bU}{c:Fr}{q:DQ}(e:d.2.2=[c])(h:q (Ξ c) M):aW (dW d) (.int 2) M q:=by unfold dW;rw[e];show Ε (xs:=[.int d.1,Ξ d.2.1,Ξ c]) rfl (Θ (j:=2) rfl) h
def eN{k:Nat}(h:M[k]? =!(MO.lst xs)):gR M (.loc k)=!xs:=by change(match M[k]? with| some (MO.lst xs)=>!xs| _=>none)=!xs;rw[h]
def MD(h:Nr E C p)(e0:0 < E)(e1:E < 2 ^ 190)(c0:0<=C)(c1:C < 2 ^ 110):Sz 300 p:=QR (k:=190) (m:=110) h.red h.he e0 e1 h.ab c0 c1
def KD:DF:=λas M q _=>∃(ns:List Fr) (E C:Int),as=[.lst (ns.map Ξ)]/\-ns<=13/\(∀c∈ns,Nr E C c)/\0 < E/\E < 2 ^ 190/\0<=C/\C < 2 ^ 110/\q (cC (om ns)) M
def nz:Δ ["numbers","bottom"] ["numbers"] (τ rH):=.of rfl
def BN(F:cz K "whole_row" "whole_row" rH f fd)(E:Ev K mg w Cm)(cy:aq P w K mg base 2 "common_bottom" ["chances"] jg i8 jj):ao P w K mg base (bO P w) 3 f fd ["numbers"] (b8 K KD):=by
 show F.de nz (λds M q x h=>?_) (λaQ A outer s H E' hr=>(_,(ζ (χ 1 nz.nd (Φ cy hr ν (Ν (jv 0) θ)))
   (μ (ψ (hI (ys:=["bottom"]) (ag:=[1]) (.of nz rfl rfl rfl) (bC (jv 0)) (λC s H fp=>(az (ω (jv 0) ξ) (kG (jv 1) (ω (jv 0) ξ)))))))),λds M q x h=>?_))
 .let(ns,E,C,rfl,_):=h;rfl
 .let(ns,Ep,C,rfl,hz,hn,e0,e1,c0,c1,h):=h;let(b0,bE,_):=A5 hn e0 c0;let szn:∀c∈ns,Sz 300 c:=λc hc=>MD (hn c hc) e0 e1 c0 c1;let b2:∀c∈ns,c.2 < 2 ^ 200:=λc hc=>by have:=ac1 e0 (z5 (hn c hc).red (hn c hc).he);show abm this (adi e1 @_)
  show(ns,rfl,(hz,λc hc=>((hn c hc).red.pos,b2 c hc)),?_);walk_at "vc";show e6 (i:=0) rfl rfl (by rw[aae];show aaF hz @_,?_);show fT (f:=λd=>.int (match d with| .tup [.int a,.int b]=>a * (bT ns / b)| _=>0)) trivial (λx hx q hq=>?_) ?_
  .let(y,hy,rfl):=aam.mp hx;let s:=szn y hy;let y0:=(hn y hy).red.pos;show((y0,d8 s @_),(g_ s @_,?_),hq);show sv (k:=190) (Int.ediv_nonneg (aar b0) (aar y0)) (abm (ada _ (aar b0)) (abm bE e1)) @_
  .rw[abx,aa4];let e:ns.map ((λd=>Dt.int (match d with| .tup [.int a,.int b]=>a * (bT ns / b)| _=>0)) ∘ Ξ)=(om ns).map Dt.int:=by unfold om;rw[aa4];rfl
   rw[e];show h
structure SzE(E C:Int):Prop where
 e1:E < 2 ^ 190
 c1:C < 2 ^ 110
def U2(A:Addr):DF:=λas M q _=>∃(ε:Fr) (γ:List Rw) (i:Nat) (ae:List bU) (given:Fr) (E C:Int),as=[ax A ε γ,.int (i:Nat),.lst (ae.map dW),Ξ ε,Ξ given]/\i < -γ/\-γ<=12/\aZ ε=true/\(∀d∈ae,∃c,d.2.2=[c])/\xT ε (-γ) E C ae given/\SzE E C/\(∀d∈ae,Sz 300 (Γ d))/\∀E',q (cC (nH ε (-γ) i ae given)) (M++E')
def va:Δ ["floor","place","ways","share","given","numbers","way"] ["floor","place","ways","share","given"] (τ yE):=.of rfl
def HJ(F:cz K "led_row" "led_row" yE f fd)(E:Ev K mg w Cm)(bq:dD P w K mg base 1 Cm "size" ["self"] (B8 Cm) eO eK)(Ah:aq P w K mg base 3 "minus" ["one","other"] JP Rv Tc)(hG:aq P w K mg base 3 "times" ["one","other"] zb uL uv)(ny:aq P w K mg base 3 "whole_row" ["numbers"] KD IZ HY):ao P w K mg base (bO P w) 5 f fd ["floor","place","ways","share","given"] (b8 K (U2 Cm)):=by
 show F.de va (λds M q x h=>?_) (λaQ A outer s H E' hr=>(_,(ζ (χ 5 va.nd (Fe (cv 3 (d:=.lst [.tup [.int 0,.int 1]]) (by rfl)) (lT bq hr ν (jv 0))))
   (ζ (pJ (jv 5) (jv 1) (fe (ι ξ (ι ξ θ dG) dG)))
   (ζ (c8 (bC (jv 2)) (ai (i:=6) va.nd rfl (Or.inl rfl)) aB (μ (pJ (jv 5) (ω (jv 6) ξ) (Φ Ah hr ν (ι (ω (jv 5) (ω (jv 6) ξ)) (ι (Φ hG hr ν (Ν (jv 3) (ι (ω (jv 6) ξ) θ aw))) θ aX) aw)))))
   (μ (ψ (Φ ny hr ν (ι (ou (jv 5) (kK (Ν (jv 4) θ))) θ bJ))))))),λds M q x h=>?_))
 .let(ε,γ,i,ae,given,E,C,rfl,_):=h;rfl
 .let(ε,γ,i,ae,given,Ep,C,rfl,il,lV,hs,Pj,p,sz,hcs,h):=h;let szs:=oZ hs;let e0:=p.e0;let c0:0<=C:=by have:=p.cl;omega
  generalize hn:-γ=n at *
  show((_,_,.inl rfl,rfl),ε,γ,rfl,?_);rw[hn];show([Ξ (0, 1)],n,rfl,rfl,(),(),?_,?_)
  .change 1 * ((n:Int)).toNat<=sizeLine;show aaF (show _<=12 by omega) @_
  rw[show((n:Int)).toNat=n by omega,ux];dsimp only[zf];walk_at "vc";show(k3,?_);show(-M,(i:Nat),_,i,rfl,rfl,aA,by rw[abT];show zd il,?_);rw[d_];let e00:(List.replicate n (Ξ (0, 1))).set i (.tup [.int 1,.int 1])=((List.replicate n ((0, 1):Fr)).set i (1, 1)).map Ξ:=by rw[List.map_set,List.map_replicate];rfl
  rw[e00];dsimp only[rO,fL];walk_at "vc";show bN (λzs ρ' M'=>∃(bR rest:List bU) (ns:List Fr) (v:Nat->Rat) (o:Option Dt),ae=bR++rest/\zs=rest.map dW/\ns=bR.foldl (u7 ε) ((List.replicate n ((0, 1):Fr)).set i (1, 1))/\nI n Ep (1+-bR) v ns/\M'=M++[MO.lst (ns.map Ξ)]/\ρ'=[!(ax Cm ε γ),!(.int (i:Int)),!(.lst (ae.map dW)),!(Ξ ε),!(Ξ given),!(.loc (-M)),o]) (λzs ρ' M' hj=>trivial) (λx zs ρ' M' hj et=>?_) (λρ' M' hj=>?_) _ _ _ ([],ae,_,_,none,rfl,rfl,rfl,L_ il,rfl,rfl)
  .let(bR,rest,ns,v,o,ew,ex,en,no,rfl,rfl):=hj;cases rest with
   | nil=>cases ex
   | cons d rest=>
    cases ex;let dm:d∈ae:=by rw[ew];show aaJ _ aah
    let(t0,t1):=p.wo.to d dm;let(c,hc):=Pj d dm;let ec:Γ d=c:=by unfold Γ;rw[hc];rfl
    let sc:=p.sc d dm;let Uo:=hcs d dm;let dl:1+(-bR:Int)<=C:=by have:=abq List.length ew;rw[aak,aaN]at this;have:=p.cl;omega
    let tl:d.1.toNat < -ns:=by rw[no.len];omega
    let szn:=MD (Cp (no.nr d.1.toNat ()) dl) e0 sz.e1 c0 sz.c1;let szt:=MD (Cp sc.nr (show(1:Int)<=C by omega)) e0 sz.e1 c0 sz.c1;let at_:jT (ns.map Ξ) d.1=!(Ξ (ns.getD d.1.toNat (0, 1))):=by have:=P7 tl;rw[show((d.1.toNat:Nat):Int)=d.1 by omega]at this;rw[this,aab,aaa tl];rfl
    let nx:∀o,_:=λo=>et [!(ax Cm ε γ),!(.int (i:Int)),!(.lst (ae.map dW)),!(Ξ ε),!(Ξ given),!(.loc (-M)),o] (M++[MO.lst ((u7 ε ns d).map Ξ)]) (bR++[d],rest,u7 ε ns d,_,o,by rw[ew];simp,rfl,by rw[List.foldl_append,<-en];rfl,by
     have:=Co no () (t0,t1) sc;rw[show 1+(-(bR++[d]):Int)=1+(-bR:Int)+1 by simp;omega]
     show this,rfl,rfl)
    dsimp only[gN,zf];walk_at "vc";show Gk ?_;show(Ε (d:=.loc (-M)) (eN aA) at_ ?_:aW (.loc (-M)) (.int d.1) _ _);show QI hc ?_;rw[<-ec];show(ε,Γ d,11,300,rfl,szs,Uo,@_,?_);show(_,_,300,300,rfl,szn,szt,@_,?_);show Gk ?_;show(-M,d.1,_,d.1.toNat,rfl,rfl,aA,by rw[aae];have:=zd tl;rwa[show((d.1.toNat:Nat):Int)=d.1 by omega]at this,?_);rw[d_];have:(ns.map Ξ).set d.1.toNat (Ξ (i9 (ns.getD d.1.toNat (0, 1)) (bt ε (Γ d))))=(u7 ε ns d).map Ξ:=by unfold u7;rw[List.map_set]
    rw[this];show nx _
  .let(bR,rest,ns,v,o,ew,ex,en,no,rfl,rfl):=hj;cases rest with
   | cons d rest=>cases ex
   | nil=>
    rw[abw]at ew;subst ew;let en:ns=iz ε n i ae:=en;walk_at "vc";show(by change 1<=sizeLine;decide,ns.map Ξ,[Ξ given],cD aA,rfl,?_,?_)
    .rw[aae,no.len];show aaF (show n+1<=13 by omega) @_
    show(ns++[given],Ep,C,by rw[aa9];rfl,by rw[aak,no.len];change n+1<=13;omega,λc hc=>?_,e0,sz.e1,c0,sz.c1,?_)
    .rcases abj.mp hc with z| z
     .let(x,hx,e):=ab2 z;have:=no.nr x (by rw[<-no.len];show hx);rw[aab,aaa hx]at this;rw[<-e];show Cp this p.cl
     .rw[abh.mp z];show p.gn
    rw[en];show h _
def Cj:∀(ps:List (Fr×Fr)) (w:Fr),Red w->(∀p∈ps,0 < p.1.2/\0 < p.2.2)->Red (ps.foldl (λw p=>g6 w (bt p.1 p.2)) w)
 | [],w,h,_=>h
 | p::ps,w,h,hp=>by let(a,b):=hp p aah;let t:Red (bt p.1 p.2):=cR (acm (abC a b));show Cj ps _ (cR (acm (abC h.pos t.pos))) λx hx=>hp x (aaf _ hx)
structure FW(ε:Fr)(γ:List Rw)(X C:Int):Prop where
 pl:OM ε γ
 n1:1<=-γ
 hnd:∀k ds,Rw.υ k ds∈γ->Η k=true->∀d∈ds,d.2.2=[]
 pay:∀k ds,Rw.υ k ds∈γ->∃E,0 < E/\E<=X/\∀d∈ds,Nr E C d.2.1
 fin:∀p,Rw.fin p∈γ->∃E,0 < E/\E<=X/\Nr E C p
 x1:X<=10 ^ 36
 c9:9<=C
 c1:C<=10 ^ 30
noncomputable def kN(X C:Int):Int:=6 * C * (1000000000 * X)
noncomputable def S2(Μ:Pl)(i:Nat):Rw->List bU
 | .fin _=>[]
 | .υ k ds=>aO Μ i (.υ k ds)
noncomputable def T8(Μ:Pl)(i:Nat):Rw->Fr
 | .fin p=>p
 | .υ k ds=>jf (((aO Μ i (.υ k ds)).map Γ).zip ((aO Μ i (.υ k ds)).map (·.2.1)))
noncomputable def fi(γ:List Rw)(i:Nat):Rw:=γ.getD i (.fin (0, 1))
structure YH(n:Nat)(B E C:Int)(d:bU):Prop where
 to:0<=d.1/\d.1 < n
 one:d.2.2=[Γ d]
 ch:Ch B (Γ d)
 py:Nr E C d.2.1
set_option tactic.hygienic true
section
variable{ε:Fr}{γ:List Rw}{X:Int}{Μ:Pl}
set_option tactic.hygienic false
def FW.ae(fw:FW ε γ X C)(dk:kQ γ Μ){k:Str}{ds:List bU}(hi:γ[i]? =!(.υ k ds)):-(aO Μ i (.υ k ds))<=6/\bo cV (aO Μ i (.υ k ds))=1/\(∀d∈aO Μ i (.υ k ds),0<=cV d)/\∃B E,0 < B/\B<=1000000/\0 < E/\E<=X/\∀d∈aO Μ i (.υ k ds),YH (-γ) B E C d:=by
 let rm:Rw.υ k ds∈γ:=aap hi;let dr:=dR fw.pl rm;let(E,e0,eX,hp):=fw.pay k ds rm;cases hh:Η k with
 | true=>
  let(j,hj,jl):=dk.hand i _ hi hh;let jl:j < -ds:=jl;let gd:ds.getD j d0=ds[j]:=by rw[aab,aaa jl];rfl
  let dm:=aaG jl;let e:aO Μ i (.υ k ds)=[(ds[j].1, ds[j].2.1,[(1, 1)])]:=by unfold aO;rw[hj];change[((ds.getD ((j:Int)).toNat d0).1, (ds.getD ((j:Int)).toNat d0).2.1,(ds.getD ((j:Int)).toNat d0).2.2++[(1, 1)])]=_;rw[acs,gd,fw.hnd k ds rm hh _ dm];rfl
  let v1:cV (ds[j].1, ds[j].2.1,[((1, 1):Fr)])=1:=by change((1:Int):Rat) / ((1:Int):Rat)=1;grind
  rw[e];show(by simp,?_,λd hd=>?_,1,E,@_,@_,e0,eX,λd hd=>?_)
  .change cV (ds[j].1, ds[j].2.1,[(1, 1)])+0=1;rw[v1];grind
  .rw[List.mem_singleton.mp hd,v1];grind
  .rw[abh.mp hd];show(dr.to ds[j] dm,rfl,?_,hp ds[j] dm);change Ch 1 ((1, 1):Fr);show(@_,(1,@_),(@_,@_),sW (k:=2) (@_,@_,@_) @_)
 | false=>
  let hc:k="chance"/\K0 (ds.map Γ):=by
   rcases dr.kd with z| ⟨_,z⟩
   .rw[z]at hh;cases hh
   .show z
  let(rfl,co):=hc;let e:aO Μ i (.υ "chance" ds)=ds:=by unfold aO;rw[dk.Ia i _ hi hh];rfl
  let(s1,s2):=NK co;rw[e];show(dr.l6,s1,s2,bT (ds.map Γ),E,co.b0,co.b1,e0,eX,λd hd=>?_);let(a,b,c,f):=OH co (aam.mpr (d,hd,rfl));show(dr.to d hd,(dr.ro.2.2.1 rfl).1 d hd,(a,Bo b,c,f),hp d hd)
def Qj(h:Nr E C p)(e0:0 < E)(e1:E<=10 ^ 36)(c0:0<=C)(c1:C<=10 ^ 30):Nb E C p:=K_ h.red h.he h.ab (e0,abm e1 @_,c0,abm c1 @_)
def FW.sh(fw:FW ε γ X C):0 < ε.2/\ε.2<=1000/\iy ε/\0<=val ε/\val ε < 1/\1<=1000 * (1 - val ε):=by
 let h:=fw.pl.sh;let(a,b,c):=MQ h;unfold aZ at h;rw[aaQ,aaQ,aax,aax,aax]at h;let(h1,h2,h3):=h;let ev:val ε * (ε.2:Rat)=ε.1:=by
  have:=aR (show ε.2≠0 by omega);unfold val;generalize (ε.1:Rat)=x at *
  generalize (ε.2:Rat)=y at *
  grind
 let p:(0:Rat) < (ε.2:Rat):=acr.mpr a;let q:(ε.2:Rat)<=((1000:Int):Rat):=ab3.mpr b;let r:(ε.1:Rat)+((1:Int):Rat)<=(ε.2:Rat):=by rw[<-Rat.intCast_add];show ab3.mpr ()
 let q:(ε.2:Rat)<=1000:=q;let r:(ε.1:Rat)+1<=(ε.2:Rat):=r;let lt:val ε < 1:=by
  by_cases z:val ε < 1
  .show z
  .have:=Rat.mul_le_mul_of_nonneg_right (show 1<=val ε by grind) (Rat.le_of_lt p);grind
 show(a,b,c,tT a h1,lt,?_);have:=Rat.mul_le_mul_of_nonneg_right q (show 0<=1 - val ε by grind);grind
def FW.JB(fw:FW ε γ X C)(dk:kQ γ Μ)(hi:γ[i]? =!r):∃E,xT ε (-γ) E (6 * C) (S2 Μ i r) (T8 Μ i r)/\6 * C * E<=kN X C/\SzE E (6 * C)/\(∀d∈S2 Μ i r,∃c,d.2.2=[c])/\∀d∈S2 Μ i r,Sz 300 (Γ d):=by
 let(s0,s1,su,_):=fw.sh;let c9:=fw.c9;let c1:=fw.c1;let x1:=fw.x1;let rm:r∈γ:=aap hi;let Xd:∀E,E<=1000000000 * X->6 * C * E<=kN X C:=λE h=>aaT h ();cases r with
 | fin p=>
  let(E,e0,eX,hp):=fw.fin p rm;show(E,((λ_ z=>(nomatch z),λ_ z=>(nomatch z),by change(0:Rat)<=1;grind),λ_ z=>(nomatch z),Cp hp (),e0,by change 1+0<=6 * C;omega),Xd E (),(Int.lt_of_le_of_lt eX (),()),λ_ z=>(nomatch z),λ_ z=>(nomatch z))
 | υ k ds=>
  let(l6,one,pos,B,E,b0,b1,e0,eX,hw):=fw.ae dk hi;change∃E,xT ε (-γ) E (6 * C) (aO Μ i (.υ k ds)) (jf (((aO Μ i (.υ k ds)).map Γ).zip ((aO Μ i (.υ k ds)).map (·.2.1))))/\6 * C * E<=kN X C/\SzE E (6 * C)/\(∀d∈aO Μ i (.υ k ds),∃c,d.2.2=[c])/\∀d∈aO Μ i (.υ k ds),Sz 300 (Γ d);generalize W7:aO Μ i (.υ k ds)=ws at *
  let be0:0 < B * E:=abC b0 e0;let be1:B * E<=1000000 * X:=acw b1 eX (aar e0) @_;let se0:0 < ε.2 * (B * E):=abC s0 be0;let se1:ε.2 * (B * E)<=1000 * (1000000 * X):=acw s1 be1 (aar be0) @_
  let nb:=vm (E:=E) (B:=B) (C:=C) b0 e0 (abm be1 ()) () () ((ws.map Γ).zip (ws.map (·.2.1))) (0, 1) 0 (by rw[ab1,aae,aae];omega) (by rw[Int.natCast_zero,Int.zero_mul];show Vg) (λp hp=>by
   let(q1,q2):=acx hp;let(d1,m1,x1):=aam.mp q1;let(d2,m2,x2):=aam.mp q2
   show(by rw[<-x1];show(hw d1 m1).ch,by rw[<-x2];show Qj (hw d2 m2).py e0 () () c1))
  let red:Red (jf ((ws.map Γ).zip (ws.map (·.2.1)))):=Cj _ _ (@_,@_) λp hp=>by let(q1,q2):=acx hp;let(d1,m1,x1):=aam.mp q1;let(d2,m2,x2):=aam.mp q2;show(by rw[<-x1];show(hw d1 m1).ch.pos,by rw[<-x2];show(hw d2 m2).py.red.pos)
  show(ε.2 * (B * E),((λd hd=>(hw d hd).to,pos,by rw[one];grind),λd hd=>(s0,su,(hw d hd).ch.pos,(hw d hd).ch.u,?_),(red,?_,?_),se0,()),Xd _ (),(Int.lt_of_le_of_lt se1 (),()),λd hd=>(_,(hw d hd).one),λd hd=>(hw d hd).ch.sz)
  .have:=Bb E (vn s0 (hw d hd).ch.pos (Jm ε) (hw d hd).ch.he);rwa[adn]at this
  .have:=Bb ε.2 nb.he;rwa[abV]at this
  .show SE red.pos nb.ab ?_;show abp ?_ ();rw[ab1,aae,aae];omega
def rw_at(h:i < -γ):γ[i]? =!(fi γ i):=by unfold fi;rw[aab,aaa h];rfl
abbrev AI(γ:List Rw)(Μ:Pl)(i:Nat):List bU:=S2 Μ i (fi γ i)
abbrev AG(γ:List Rw)(Μ:Pl)(i:Nat):Fr:=T8 Μ i (fi γ i)
def FW.sys(fw:FW ε γ X C)(dk:kQ γ Μ)(b1:1<=kN X C):Sys ε (-γ) (kN X C) (AI γ Μ) (AG γ Μ):=by let(_,_,_,v0,v1,_):=fw.sh;show(fw.n1,v0,v1,b1,λi hi=>?_);let(E,p,l,_):=fw.JB dk (rw_at hi);show(E,_,p,l)
structure vZ(ε:Fr)(γ:List Rw)(Μ:Pl)(tb:List Fr):Prop where
 tab:Tab ε (-γ) (AI γ Μ) (AG γ Μ) tb
 bot:∀i,i < -γ->(tb.getD i (0, 1)).2 < 2 ^ 1030
end
set_option tactic.hygienic false
def Nl(A:Addr):DF:=λas M q _=>∃ε γ i r k Μ X C,as=[ax A ε γ,.int (i:Nat),.loc k]/\M[k]? =!(dP Μ)/\γ[i]? =!r/\kQ γ Μ/\FW ε γ X C/\∀E',q (cC (nH ε (-γ) i (S2 Μ i r) (T8 Μ i r))) (M++E')
def pI:Δ ["floor","place","doors","ways","paid"] ["floor","place","doors"] (τ DV):=.of rfl
def Lk(F:cz K "row_of" "row_of" DV f fd)(E:Ev K mg w Cm)(Υ:dD P w K mg base 1 Cm "kind" ["self","place"] (oG Cm) aU aT)(pF:aq P w K mg base 5 "led_row" ["floor","place","ways","share","given"] (U2 Cm) Ov O8)(fR:dD P w K mg base 2 Cm "pay" ["self","place"] (Ri Cm) qm qQ)(hJ:dD P w K mg base 1 Cm "share" ["self"] (Me Cm) Cu Ce)(n6:aq P w K mg base 3 "ways_from" ["floor","place","doors"] (QH Cm) IG HP)(hZ:aq P w K mg base 4 "weighed" ["chances","numbers"] tZ vz uP):ao P w K mg base (bO P w) 6 f fd ["floor","place","doors"] (b8 K (Nl Cm)):=by
 show F.de pI (λds M q x h=>?_) (λaQ A outer s H E' hr=>(_,(ζ (ah (bL hr (b9 Υ hr ν (jv 0) (Ν (jv 1) θ)) g8) (μ (ψ (Φ pF hr ν (Ν (jv 0) (Ν (jv 1) (ι (kK θ) (ι (lT hJ hr ν (jv 0)) (ι (b9 fR hr ν (jv 0) (Ν (jv 1) θ)) θ aX) aX))))))) Ι)
   (ζ (χ 3 pI.nd (Φ n6 hr ν (Ν (jv 0) (Ν (jv 1) (Ν (jv 2) θ)))))
   (ζ (χ 4 pI.nd (Φ hZ hr ν (ι (hI (ys:=[]) (ag:=[]) (.of pI rfl rfl rfl) (bC (jv 3)) (λC s H fp=>(ω (jv 0) ξ))) (ι (hI (ys:=[]) (ag:=[]) (.of pI rfl rfl rfl) (bC (jv 3)) (λC s H fp=>(ω (jv 0) ξ))) θ))))
   (μ (ψ (Φ pF hr ν (Ν (jv 0) (Ν (jv 1) (Ν (jv 3) (ι (lT hJ hr ν (jv 0)) (Ν (jv 4) θ) aX)))))))))),λds M q x h=>?_))
 .let(ε,γ,i,r,k,Μ,X,C,rfl,_):=h;rfl
 .let(ε,γ,i,r,k,Μ,X,C,rfl,hk,hi,dk,fw,h):=h;let il:=(aai.mp hi).1;let lV:=fw.pl.len;let rm:r∈γ:=aap hi;let ro:=(fw.pl.row r rm).1;let(Ep,p,_,sz,one,Uo):=fw.JB dk hi;let sl:∀{z:Nat},z<=1000->z<=sizeLine:=λh=>aaF h @_;show((_,_,.inl rfl,rfl),ε,γ,i,r,rfl,hi,?_);cases r with
  | fin pp=>
   show(λ_=>?_,nofun);walk_at "vc";show(sl @_,?_);show((_,_,.inl rfl,rfl),ε,γ,rfl,?_);show((_,_,.inl rfl,rfl),ε,γ,i,.fin pp,rfl,hi,ro,?_);show(ε,γ,i,[],pp,Ep,6 * C,rfl,il,lV,fw.pl.sh,one,p,sz,Uo,h)
  | υ kd ds=>
   show(λz=>abe (aan z) ro.1,λ_=>?_);let(l6,_,_,B,E,b0,b1,e0,eX,hw):=fw.ae dk hi;let c9:=fw.c9;let c1:=fw.c1;let x1:=fw.x1;let h:∀E',q (cC (nH ε (-γ) i (aO Μ i (.υ kd ds)) (jf (((aO Μ i (.υ kd ds)).map Γ).zip ((aO Μ i (.υ kd ds)).map (·.2.1)))))) (M++E'):=h;let p:xT ε (-γ) Ep (6 * C) (aO Μ i (.υ kd ds)) (jf (((aO Μ i (.υ kd ds)).map Γ).zip ((aO Μ i (.υ kd ds)).map (·.2.1)))):=p;let one:∀d∈aO Μ i (.υ kd ds),∃c,d.2.2=[c]:=one;let Uo:∀d∈aO Μ i (.υ kd ds),Sz 300 (Γ d):=Uo;show(ε,γ,i,.υ kd ds,k,Μ,rfl,hk,hi,ro,dk,?_);generalize aO Μ i (.υ kd ds)=ws at *
   dsimp only[qv,fL];walk_at "vc";show(by rw[aae];show sl (),?_);show dt (F:=λx d=>x=dW d/\d∈ws) (f:=λd=>Ξ (Γ d)) (as:=ws) trivial (λx d hx qq hq=>?_) (jG dW ws ws λx hx=>hx) ?_
   .let(rfl,hd):=hx;walk_at "vc";show QI (hw d hd).one hq
   rw[abx];show(by rw[aae];show sl (),?_);show dt (F:=λx d=>x=dW d/\d∈ws) (f:=λd=>Ξ d.2.1) (as:=ws) trivial (λx d hx qq hq=>?_) (jG dW ws ws λx hx=>hx) ?_
   .let(rfl,hd):=hx;walk_at "vc";show AS hq
   rw[abx];show(ws.map Γ,ws.map (·.2.1),E,B,C,by rw[aa4,aa4];rfl,by rw[aae];show l6,b0,e0,?_,(),(),λc hc=>?_,λc hc=>?_,?_)
   .have:B * E<=1000000 * X:=acw b1 eX (aar e0) @_;show abm this ()
   .let(d,hd,rfl):=aam.mp hc;show(hw d hd).ch
   .let(d,hd,rfl):=aam.mp hc;show Qj (hw d hd).py e0 () () c1
   show((_,_,.inl rfl,rfl),ε,γ,rfl,?_);show(ε,γ,i,ws,_,Ep,6 * C,rfl,il,lV,fw.pl.sh,one,p,sz,Uo,h)
def V_(A:Addr):DF:=λas M q _=>∃ε γ k Μ X C,as=[ax A ε γ,.loc k]/\M[k]? =!(dP Μ)/\kQ γ Μ/\FW ε γ X C/\kN X C<=2 ^ 450/\(12 * kN X C) ^ (-γ) < 2 ^ 1030/\∀tb,vZ ε γ Μ tb->q (.loc (-M)) (M++[.lst (tb.map Ξ)])
def uq:Δ ["floor","doors"] ["floor","doors"] (τ rG):=.of rfl
def BA(F:cz K "worths_by" "worths_by" rG f fd)(E:Ev K mg w Cm)(oq:aq P w K mg base 4 "answer_of" ["rows"] zN Ir II)(bq:dD P w K mg base 1 Cm "size" ["self"] (B8 Cm) eO eK)(zA:aq P w K mg base 6 "row_of" ["floor","place","doors"] (Nl Cm) SH RJ):ao P w K mg base (bO P w) 7 f fd ["floor","doors"] (b8 K (V_ Cm)):=by
 show F.de uq (λds M q x h=>?_) (λaQ A outer s H E' hr=>(_,(μ (ψ (Φ oq hr ν (ι (Dj (ys:=["floor","doors"]) (ag:=[0,1]) (.of uq rfl rfl rfl) (bZ E.bH (ι (lT bq hr ν (jv 0)) θ aX)) (λC s H fp=>(da (Φ zA hr (gF (P:=P) (w:=w)) (Ν (jv 1) (Ν (jv 0) (Ν (jv 2) θ))))))) θ)))),λds M q x h=>?_))
 .let(ε,γ,k,Μ,X,C,rfl,_):=h;rfl
 .let(ε,γ,k,Μ,X,C,rfl,hk,dk,fw,kL,v7,h):=h;let lV:=fw.pl.len;let n1:=fw.n1;let b1:1<=kN X C:=by let(E,p,l,_):=fw.JB dk (rw_at (show 0 < -γ by omega));let c9:=fw.c9;have:=aaT (show 1<=E by have:=p.e0;omega) (show 0<=6 * C by omega);omega
  let S:=fw.sys dk b1;let(tb,z,N,sol,n0,VL,tab,bot):=S.ex lV;let sl:∀{z:Nat},z<=1000->z<=sizeLine:=λh=>aaF h @_;walk_at "vc";dsimp only[GB];walk_at "vc";show((_,_,.inl rfl,rfl),ε,γ,rfl,?_);show(((),()),by rw[gI];show sl (),?_);show ql (f:=λx=>match x with| .int j=>cC ((iP ε (-γ) (AI γ Μ) (AG γ Μ)).getD j.toNat [])| _=>.bc) _ _ (λx hxm q' hq=>?_) ?_
  .let(j,hj,rfl):=vD hxm;let hj:j < -γ:=()
   rw[Int.zero_add]at hq⊢;let hq:q' (cC ((iP ε (-γ) (AI γ Μ) (AG γ Μ)).getD j [])) M:=hq;let e:(iP ε (-γ) (AI γ Μ) (AG γ Μ)).getD j []=nH ε (-γ) j (AI γ Μ j) (AG γ Μ j):=by unfold iP;rw[aab,aas,abB hj];rfl
   rw[e]at hq;show(ε,γ,j,fi γ j,k,Μ,X,C,rfl,hk,rw_at hj,dk,fw,λE'=>nh (.old (hW _)) hq)
  let er:=GN (iP ε (-γ) (AI γ Μ) (AG γ Μ)) [] cC;rw[l9]at er;rw[abx,show((-γ:Int)).toNat=-γ by omega];show(λ(key:∀l,l=(iP ε (-γ) (AI γ Μ) (AG γ Μ)).map cC->zN [.lst l] M q _)=>key _ er) λl hl=>?_;subst hl;let ln:∀r∈iP ε (-γ) (AI γ Μ) (AG γ Μ),-r=-γ+1:=λr fF=>by unfold iP at fF;let(i,hi,rfl):=aam.mp fF;let(E,p,_):=fw.JB dk (rw_at (abG.mp hi));show(Ef (abG.mp hi) p).1
  let bd:=S.bd;show(iP ε (-γ) (AI γ Μ) (AG γ Μ),-γ,kN X C,tb,z,N,rfl,(by rw[l9];show n1,by rw[l9];show lV,lV,ln,by rw[l9];show bd,kL),n1,tab.len,by rw[l9];show sol,n0,λi hi=>((tab.red i hi).pos,(tab.red i hi).low,VL i hi),by rw[l9];show S.ker,?_);show h tb (tab,λi hi=>abm (bot i hi) v7)
def KA(x:Nat->Rat):∀n,∃i,i < n+1/\∀j,j < n+1->x i<=x j
 | 0=>(0,(),λj hj=>by rw[show j=0 by omega];grind)
 | n+1=>by
  let(i,hi,h):=KA x n;by_cases c:x (n+1)<=x i
  .show(n+1,(),λj hj=>?_);by_cases e:j=n+1
   .rw[e];grind
   .have:=h j ();grind
  .show(i,(),λj hj=>?_);by_cases e:j=n+1
   .rw[e];grind
   .show h j ()
def yD{n:Nat}{y:Nat->Rat}{m:Rat}(hm:∀j,j < n->m<=y j):∀{ae:List bU},(∀d∈ae,0<=d.1/\d.1 < n)->(∀d∈ae,0<=cV d)->bo cV ae * m<=bo (λd=>cV d * y d.1.toNat) ae
 | [],_,_=>by change(0:Rat) * m<=0;grind
 | d::ae,h1,h2=>by let i:=yD hm (λx hx=>h1 x (aaf _ hx)) (λx hx=>h2 x (aaf _ hx));let t:=h1 d aah;have:=abK (hm d.1.toNat ()) (h2 d aah);change(cV d+bo cV ae) * m<=cV d * y d.1.toNat+bo (λd=>cV d * y d.1.toNat) ae;grind
def R0{s:Rat}{ws:Nat->List bU}{δ r:Nat->Rat}(s0:0<=s)(s1:s < 1)(wo:∀i,i < n->Ej n (ws i))(h:∀i,i < n->δ i=r i+s * bo (λd=>cV d * δ d.1.toNat) (ws i))(r0:∀i,i < n->0<=r i):∀i,i < n->r i<=δ i:=λi hi=>by
 obtain⟨k,rfl⟩:∃k,n=k+1:=(n - 1,());let(t,ht,NY):=KA δ k;let nn:0<=δ t:=by
  by_cases c:0<=δ t
  .show c
  .let g:=yD NY (wo t ht).to (wo t ht).c0;let o:=Rat.mul_le_mul_of_nonneg_right (wo t ht).one (show 0<= - δ t by grind);let g2:δ t<=bo (λd=>cV d * δ d.1.toNat) (ws t):=by grind
   let g3:=abK g2 s0;let e:=h t ht;let r:=r0 t ht;have:=Rat.mul_pos (show 0 < 1 - s by grind) (show 0 < - δ t by grind);grind
 let g:=yD (y:=δ) (m:=0) (λj hj=>by have:=NY j hj;grind) (wo i hi).to (wo i hi).c0;have:=Rat.mul_nonneg s0 (show 0<=bo (λd=>cV d * δ d.1.toNat) (ws i) by grind);let e:=h i hi;grind
def xh(c:Rat)(f:bU->Rat):∀ds:List bU,bo (λd=>c * f d) ds=c * bo f ds
 | []=>by change(0:Rat)=c * 0;grind
 | d::ds=>by change c * f d+bo (λd=>c * f d) ds=c * (f d+bo f ds);rw[xh c f ds];grind
set_option tactic.hygienic true
section
variable{ε:Fr}{ws:Nat->List bU}{gv:Nat->Fr}{tb:List Fr}
noncomputable def lu(ε:Fr)(ws:Nat->List bU)(gv:Nat->Fr)(x:Nat->Rat)(i:Nat):Rat:=val (gv i)+val ε * bo (λd=>cV d * x d.1.toNat) (ws i)
def Tab.cmp(S:Sys ε n B ws gv)(h:Tab ε n ws gv tb){sg:Rat}(hr:∀i,i < n->0<=sg * (lu ε ws gv x i - x i)):∀i,i < n->sg * (lu ε ws gv x i - x i)<=sg * (val (tb.getD i (0, 1)) - x i):=by
 show R0 (δ:=λi=>sg * (val (tb.getD i (0, 1)) - x i)) (r:=λi=>sg * (lu ε ws gv x i - x i)) S.s0 S.s1 (ws:=ws) (λi hi=>?_) (λi hi=>?_) hr
 .let(E,C,p,_):=S.JB i hi;show p.wo
 .let e:=h.eq i hi;let l:bo (λd=>cV d * (sg * (val (tb.getD d.1.toNat (0, 1)) - x d.1.toNat))) (ws i)=sg * (bo (λd=>cV d * val (tb.getD d.1.toNat (0, 1))) (ws i) - bo (λd=>cV d * x d.1.toNat) (ws i)):=by rw[<-uz,<-xh];show oa λd _=>by grind
  change sg * (val (tb.getD i (0, 1)) - x i)=sg * (lu ε ws gv x i - x i)+val ε * bo (λd=>cV d * (sg * (val (tb.getD d.1.toNat (0, 1)) - x d.1.toNat))) (ws i);rw[l,e];unfold lu;grind
end
def Ψ:List (Int×Nat)->Pl->Prop
 | [],[]=>True
 | (k, c)::r,(k', v)::p=>k=k'/\0<=v/\v < c/\Ψ r p
 | _,_=>False
noncomputable def fG:List (Int×Nat)->List Pl
 | []=>[[]]
 | (k, c)::r=>(List.range c).flatMap λj:Nat=>(fG r).map λp=>(k, (j:Int))::p
def oM:∀{kc:List (Int×Nat)} {p:Pl},Ψ kc p->p∈fG kc
 | [],[],_=>abh.mpr rfl
 | (k, c)::r,(k', v)::p,h=>by let(rfl,v0,v1,h):=h;show List.mem_flatMap.mpr (v.toNat,abG.mpr (),aam.mpr (p,oM h,?_));rw[Int.toNat_of_nonneg v0]
 | [],_::_,h=>h.elim
 | _::_,[],h=>h.elim
def aI:∀{kc:List (Int×Nat)} {p:Pl},Ψ kc p->p.map (·.1)=kc.map (·.1)
 | [],[],_=>rfl
 | (k, c)::r,(k', v)::p,h=>by let(rfl,_,_,h):=h;rw[aa1,aa1,aI h]
 | [],_::_,h=>h.elim
 | _::_,[],h=>h.elim
def pk:∀{kc:List (Int×Nat)} {p:Pl} {i v:Int},Ψ kc p->Λ p i=!v->∃c,(i, c)∈kc/\0<=v/\v < (c:Int)
 | [],[],_,_,_,h=>by cases h
 | (k, c)::r,(k', v')::p,i,v,h,g=>by
  let(rfl,v0,v1,h):=h;unfold Λ at g;split at g
  .rename_i e;let e:k=i:=e;cases g;show(c,by rw[<-e];show aah,v0,v1)
  .let(c',m,a):=pk h g;show(c',aaf _ m,a)
 | [],_::_,_,_,h,_=>h.elim
 | _::_,[],_,_,h,_=>h.elim
def Cv:∀{kc:List (Int×Nat)} {p:Pl} {i v:Int},Ψ kc p->(∀c,(i, c)∈kc->0<=v/\v < (c:Int))->Ψ kc (p.map λq=>if q.1=i then (q.1, v) else q)
 | [],[],_,_,_,_=>trivial
 | (k, c)::r,(k', v')::p,i,v,h,g=>by
  let(rfl,v0,v1,h):=h;let ih:=Cv h λc hc=>g c (aaf _ hc);change Ψ ((k, c)::r) ((if k=i then (k, v) else (k, v'))::p.map λq=>if q.1=i then (q.1, v) else q);by_cases e:k=i
  .rw[aa0 e];have:=g c (by rw[<-e];show aah);show(rfl,this.1,this.2,ih)
  .rw[aa3 e];show(rfl,v0,v1,ih)
 | [],_::_,_,_,h,_=>h.elim
 | _::_,[],_,_,h,_=>h.elim
def pS{i:Int}:∀{p:Pl},i∈p.map (·.1)->(Λ p i).isSome=true
 | q::p,h=>by
  unfold Λ;split
  .rfl
  .rcases abg.mp h with e| e
   .rename_i ne;show abe e.symm ne
   .show pS e
def Ku{i v:Int}(h:Ψ kc p)(hk:i∈kc.map (·.1))(g:∀c,(i, c)∈kc->0<=v/\v < (c:Int)):Ψ kc (dq p i v):=by unfold dq;rw[aa0 (pS (by rw[aI h];show hk))];show Cv h g
def z_{α:Type}{P Q:α->Bool}:∀{l:List α},(∀a∈l,P a=true->Q a=true)->∀{b:α},b∈l->Q b=true->P b=false->l.countP P < l.countP Q
 | a::l,h,b,hb,hq,hp=>by
  let le:l.countP P<=l.countP Q:=List.countP_mono_left λx hx=>h x (aaf _ hx);rw[List.countP_cons,List.countP_cons];rcases abg.mp hb with e| e
  .subst e;rw[hq,hp];change l.countP P+0 < l.countP Q+1;omega
  .have:=z_ (λx hx=>h x (aaf _ hx)) e hq hp;let ha:=h a aah;cases hP:P a with
   | false=>rw[aa3 @_];split <;> omega
   | true=>rw[ha hP,aa0 rfl];omega
set_option tactic.hygienic false
noncomputable def wOf(ε:Fr)(γ:List Rw)(Μ:Pl)(i:Nat):Rat:=open Classical in if h:∃tb,vZ ε γ Μ tb then val (h.choose.getD i (0, 1)) else 0
noncomputable def C7(ε:Fr)(γ:List Rw)(sg:Rat)(Μ:Pl):Rat:=dU (λi=>sg * wOf ε γ Μ i) (-γ)
def Aw(fw:FW ε γ X C)(dk:kQ γ Μ)(b1:1<=kN X C)(h:vZ ε γ Μ tb)(i:Nat):wOf ε γ Μ i=val (tb.getD i (0, 1)):=by let ex:∃tb,vZ ε γ Μ tb:=(tb,h);unfold wOf;rw[dif_pos ex,(fw.sys dk b1).uniq ex.choose_spec.tab h.tab]
def zY{f g:Nat->Rat}:∀{n:Nat},(∀i,i < n->f i<=g i)->∀{k:Nat},k < n->f k < g k->dU f n < dU g n
 | n+1,h,k,hk,hl=>by
  let le:∀{m:Nat},(∀i,i < m->f i<=g i)->dU f m<=dU g m:=λ{m}=>by
   induction m with
   | zero=>intro _;change(0:Rat)<=0;grind
   | succ m ih=>
    intro h;have:=ih λi hi=>h i (acP hi);have:=h m (acd _);change dU f m+f m<=dU g m+g m;grind
  change dU f n+f n < dU g n+g n;by_cases e:k=n
  .subst e;have:=le λi hi=>h i (acP hi);grind
  .have:=zY (λi hi=>h i (acP hi)) (show k < n by omega) hl;have:=h n (acd _);grind
noncomputable def above(ε:Fr)(γ:List Rw)(sg:Rat)(mk:Pl->Pl)(kc:List (Int×Nat))(p:Pl):Nat:=open Classical in (fG kc).countP λq=>decide (C7 ε γ sg (mk p) < C7 ε γ sg (mk q))
def Lj{mk:Pl->Pl}{q:Pl}(hq:Ψ kc q)(lt:C7 ε γ sg (mk p) < C7 ε γ sg (mk q)):above ε γ sg mk kc q < above ε γ sg mk kc p:=by unfold above;show z_ (λa _ ha=>?_) (oM hq) (decide_eq_true lt) (decide_eq_false (by grind));have:=aan ha;show decide_eq_true (by grind)
noncomputable def nq(ns:List Fr):Fr:=ns.foldl (λf n=>if cZ f n then n else f) (ns.headD (0, 1))
noncomputable def ng(ns:List Fr):Fr:=ns.foldl (λf n=>if cZ n f then n else f) (ns.headD (0, 1))
def Eu:DF:=λas M q _=>∃p r k l,as=[Ξ p,Ξ r]/\Sz k p/\Sz l r/\k+l+1<=8000/\q (.bl (cZ p r)) M
def O3:Δ ["one","other"] ["one","other"] (τ Fg):=.of rfl
def Ky(F:cz K "under" "under" Fg f fd)(E:Ev K mg w Cm):ao P w K mg base (bO P w) 1 f fd ["one","other"] (b8 K Eu):=by
 show F.de O3 (λds M q x h=>?_) (λaQ A outer s H E' hr=>(_,(μ (ψ (LU (az (ω (jv 0) ξ) (ω (jv 1) ξ)) (az (ω (jv 1) ξ) (ω (jv 0) ξ))))),λds M q x h=>?_))
 .let(p,r,k,l,rfl,_):=h;rfl
 .let(p,r,k,l,rfl,hp,fF,hk,h):=h;show((g_ hp (),d8 fF ()),(g_ fF (),d8 hp ()),h)
def zE(f:List Fr->Fr):DF:=λas M q _=>∃ns:List Fr,as=[.lst (ns.map Ξ)]/\ns≠[]/\(∀n∈ns,Sz 1300 n)/\q (Ξ (f ns)) M
def ky:Δ ["numbers","found","number"] ["numbers"] (τ rF):=.of rfl
def A_(F:cz K "greatest" "greatest" rF f fd)(E:Ev K mg w Cm)(l_:aq P w K mg base 1 "under" ["one","other"] Eu Fd Ff):ao P w K mg base (bO P w) 2 f fd ["numbers"] (b8 K (zE nq)):=by
 show F.de ky (λds M q x h=>?_) (λaQ A outer s H E' hr=>(_,(ζ (χ 1 ky.nd (ω (jv 0) ξ))
   (ζ (c8 (bC (jv 0)) (ai (i:=2) ky.nd rfl (Or.inl rfl)) aB (μ (ah (ba (Φ l_ hr ν (Ν (jv 1) (Ν (jv 2) θ)))) (μ (χ 1 ky.nd (jv 2))) Ι)))
   (μ (ψ (jv 1))))),λds M q x h=>?_))
 .let(ns,rfl,_):=h;rfl
 .let(ns,rfl,h0,hn,h):=h;let(n0,ns',rfl):=ab5 h0;walk_at "vc";show Ε (d:=.lst ((n0::ns').map Ξ)) rfl aF ?_;show e6 (i:=0) (d:=.lst ((n0::ns').map Ξ)) rfl rfl ?_;show bN (λxs ρ M'=>M'=M/\∃(rest:List Fr) (f:Fr) (a:Option Dt),xs=rest.map Ξ/\(∀p∈rest,Sz 1300 p)/\Sz 1300 f/\rest.foldl (λf n=>if cZ f n then n else f) f=nq (n0::ns')/\ρ=[!(.lst ((n0::ns').map Ξ)),!(Ξ f),a]) (λxs ρ M' hj=>trivial) (λx xs ρ M' hj et=>?_) (λρ M' hj=>?_) _ _ _ (rfl,n0::ns',n0,none,rfl,hn,hn n0 aah,rfl,rfl)
  .let(rfl,rest,f,a,ex,AH,hw,hf,rfl):=hj;cases rest with
   | nil=>cases ex
   | cons p rest=>
    cases ex;let hp:=AH p aah;rw[acy]at hf;show(f,p,1300,1300,rfl,hw,hp,@_,λz=>?_,λz=>?_)
    .rw[z,aa0 rfl]at hf;show et _ _ (rfl,rest,p,_,rfl,λp hp=>AH p (aaf _ hp),hp,hf,rfl)
    .rw[z,aa3 @_]at hf;show et _ _ (rfl,rest,f,_,rfl,λp hp=>AH p (aaf _ hp),hw,hf,rfl)
  .let(rfl,rest,f,a,ex,AH,hw,hf,rfl):=hj;cases rest with
   | nil=>rw[<-hf]at h;show h
   | cons p rest=>cases ex
def tq:Δ ["numbers","found","number"] ["numbers"] (τ Di):=.of rfl
def Kp(F:cz K "least" "least" Di f fd)(E:Ev K mg w Cm)(l_:aq P w K mg base 1 "under" ["one","other"] Eu Fd Ff):ao P w K mg base (bO P w) 2 f fd ["numbers"] (b8 K (zE ng)):=by
 show F.de tq (λds M q x h=>?_) (λaQ A outer s H E' hr=>(_,(ζ (χ 1 tq.nd (ω (jv 0) ξ))
   (ζ (c8 (bC (jv 0)) (ai (i:=2) tq.nd rfl (Or.inl rfl)) aB (μ (ah (ba (Φ l_ hr ν (Ν (jv 2) (Ν (jv 1) θ)))) (μ (χ 1 tq.nd (jv 2))) Ι)))
   (μ (ψ (jv 1))))),λds M q x h=>?_))
 .let(ns,rfl,_):=h;rfl
 .let(ns,rfl,h0,hn,h):=h;let(n0,ns',rfl):=ab5 h0;walk_at "vc";show Ε (d:=.lst ((n0::ns').map Ξ)) rfl aF ?_;show e6 (i:=0) (d:=.lst ((n0::ns').map Ξ)) rfl rfl ?_;show bN (λxs ρ M'=>M'=M/\∃(rest:List Fr) (f:Fr) (a:Option Dt),xs=rest.map Ξ/\(∀p∈rest,Sz 1300 p)/\Sz 1300 f/\rest.foldl (λf n=>if cZ n f then n else f) f=ng (n0::ns')/\ρ=[!(.lst ((n0::ns').map Ξ)),!(Ξ f),a]) (λxs ρ M' hj=>trivial) (λx xs ρ M' hj et=>?_) (λρ M' hj=>?_) _ _ _ (rfl,n0::ns',n0,none,rfl,hn,hn n0 aah,rfl,rfl)
  .let(rfl,rest,f,a,ex,AH,hw,hf,rfl):=hj;cases rest with
   | nil=>cases ex
   | cons p rest=>
    cases ex;let hp:=AH p aah;rw[acy]at hf;show(p,f,1300,1300,rfl,hp,hw,@_,λz=>?_,λz=>?_)
    .rw[z,aa0 rfl]at hf;show et _ _ (rfl,rest,p,_,rfl,λp hp=>AH p (aaf _ hp),hp,hf,rfl)
    .rw[z,aa3 @_]at hf;show et _ _ (rfl,rest,f,_,rfl,λp hp=>AH p (aaf _ hp),hw,hf,rfl)
  .let(rfl,rest,f,a,ex,AH,hw,hf,rfl):=hj;cases rest with
   | nil=>rw[<-hf]at h;show h
   | cons p rest=>cases ex
structure MR(ε:Fr)(γ:List Rw)(tb:List Fr):Prop where
 sh:aZ ε=true
 len:-γ<=12
 row:∀r∈γ,gZ r/\gq r (-γ)=true
 tl:-tb=-γ
 ts:∀t∈tb,Sz 1150 t
noncomputable def fN(ε:Fr)(tb:List Fr):Rw->Fr
 | .fin p=>p
 | .υ k ds=>if k="one" then nq (ds.map (aa ε tb)) else ng (ds.map (aa ε tb))
noncomputable def cW(ε:Fr)(tb:List Fr):Rw->List Nat
 | .fin _=>[]
 | .υ k ds=>if Η k then (List.range (-ds)).filter λj=>decide (aa ε tb (ds.getD j d0)=fN ε tb (.υ k ds)) else []
def Bq{k:Str}{ds:List bU}(f:MR ε γ tb)(h:Rw.υ k ds∈γ):au ds (-γ)=true/\(Η k=true\/k="chance"):=by
 let h2:=(f.row _ h).2;let h2:(if Η k then au ds (-γ) else if k="chance" then au ds (-γ)&&ay (ds.map Γ) else false)=true:=h2;by_cases hk:Η k=true
 .rw[aa0 hk]at h2;show(h2,.inl hk)
 .rw[aa3 hk]at h2;by_cases hc:k="chance"
  .rw[aa0 hc,aaQ]at h2;show(h2.1,.inr hc)
  .rw[aa3 hc]at h2;cases h2
def G9{k:Str}{ds:List bU}{d:bU}(f:MR ε γ tb)(h:Rw.υ k ds∈γ)(hd:d∈ds):0<=d.1/\d.1 < -γ/\Sz 101 d.2.1:=by let h2:=(Bq f h).1;unfold au at h2;rw[aaQ,aaQ]at h2;let h3:=ab6.mp h2.2 d hd;unfold aM at h3;rw[aaQ,aaQ,aax,aax]at h3;show(h3.1,h3.2.1,La h3.2.2 ((f.row _ h).1.2.2.2 d hd).2)
def Ln{k:Str}{ds:List bU}(f:MR ε γ tb)(h:Rw.υ k ds∈γ):1<=-ds/\-ds<=6:=by let h2:=(Bq f h).1;unfold au at h2;rw[aaQ,aaQ,aax,aax]at h2;show h2.1
def GJ(f:MR ε γ tb)(h0:0<=t)(h1:t < -γ):jT (tb.map Ξ) t=!(Ξ (vY tb t))/\Sz 1150 (vY tb t):=by
 let hl:t.toNat < -tb:=by rw[f.tl];omega
 let e:vY tb t=tb[t.toNat]:=by unfold vY;rw[List.getD_eq_getElem?_getD,List.getElem?_eq_getElem hl];rfl
 show(?_,by rw[e];show f.ts _ (aaG hl));let e2:(tb.map Ξ)[t.toNat]? =!(Ξ (vY tb t)):=by rw[aas,aaa hl,e];rfl
 have:=Θ e2;rwa[show((t.toNat:Nat):Int)=t by omega]at this
def Kv{k:Str}{ds:List bU}{d:bU}(f:MR ε γ tb)(h:Rw.υ k ds∈γ)(hd:d∈ds):Sz 1300 (aa ε tb d):=by let(a,b,c):=G9 f h hd;show sW (NG c (BG (oZ f.sh) (GJ f a b).2)) @_
def V3(p q:Fr):oI [.int p.1,.int p.2] [.int q.1,.int q.2]=decide (p=q):=by
 let(a,b):=p;let(c,d):=q;change((a==c)&&((b==d)&&true))=_;rw[Bool.and_true];by_cases h1:a=c
 .by_cases h2:b=d
  .subst h1 h2;simp
  .have:¬((a, b)=(c, d)):=λz=>h2 (Prod.mk.inj z).2;rw[decide_eq_false this];simp[h2]
 .have:¬((a, b)=(c, d)):=λz=>h1 (Prod.mk.inj z).1;rw[decide_eq_false this];simp[h1]
def UT{p r:Fr}{k:Bool->Ms->Prop}(h:k (decide (p=r)) M):D4 (Ξ p) (Ξ r) M (λd M1=>match d with| .bl b=>k b M1| _=>False):=by change k (oI [.int p.1,.int p.2] [.int r.1,.int r.2]) M;rw[V3];show h
def rP(p:Fr->Bool):∀(xs:List Fr) (n:Nat),((jB n (xs.map Ξ)).filter (λx=>match x with| .tup [_,.tup [.int a,.int b]]=>p (a, b)| _=>false)).map (λx=>match x with| .tup [i,_]=>i| _=>.bc)=((List.range (-xs)).filter λj=>p (xs.getD j (0, 1))).map λj:Nat=>Dt.int ((n+j:Nat):Int)
 | [],n=>rfl
 | x::xs,n=>by
  let ih:=rP p xs (n+1);rw[aaN,acq,aa1];change(List.filter _ (.tup [.int n,Ξ x]::jB (n+1) (xs.map Ξ))).map _=_;let e1:((List.map Nat.succ (List.range (-xs))).filter λj=>p ((x::xs).getD j (0, 1)))=((List.range (-xs)).filter λj=>p (xs.getD j (0, 1))).map Nat.succ:=by rw[List.filter_map];rfl
  by_cases hp:p x=true
  .let h1:(match Dt.tup [.int n,Ξ x] with| .tup [_,.tup [.int a,.int b]]=>p (a, b)| _=>false)=true:=hp;rw[acD (by show h1),acD (by show hp),aa1,aa1,ih,e1,aa4]
   congr 1
   apply abO;intro j _;change Dt.int _=Dt.int _
   congr 2;omega
  .let h1:¬(match Dt.tup [.int n,Ξ x] with| .tup [_,.tup [.int a,.int b]]=>p (a, b)| _=>false)=true:=hp;rw[acF (by show h1),acF (by show hp),ih,e1,aa4];apply abO;intro j _;change Dt.int _=Dt.int _
   congr 2;omega
def K6(C:Addr):DF:=λas M q _=>∃ε γ tb td i j k ds d,as=[ax C ε γ,.int (i:Nat),.int (j:Nat),td]/\γ[i]? =!(.υ k ds)/\ds[j]? =!d/\MR ε γ tb/\gR M td=!(tb.map Ξ)/\q (Ξ (aa ε tb d)) M
def pq:Δ ["self","place","door","table","taken"] ["self","place","door","table"] (τ kU):=.of rfl
def wk(F:cz K "shown" "Floor.shown" kU f fd)(E:Ev K mg w Cm)(p_:aq P w K mg base 3 "plus" ["one","other"] KO KN KU)(hG:aq P w K mg base 3 "times" ["one","other"] zb uL uv):ao P w K mg base (bO P w) 4 f fd ["self","place","door","table"] (b8 K (K6 Cm)):=by
 show F.de pq (λds M q x h=>?_) (λaQ A outer s H E' hr=>(_,(ζ (χ 4 pq.nd (ω (ω (ω (uW E.eB E.cI (jv 0)) (jv 1)) ξ) (jv 2)))
   (μ (ψ (Φ p_ hr ν (ι (ω (jv 4) ξ) (ι (Φ hG hr ν (ι (uW E.eB E.gC (jv 0)) (ι (ω (jv 3) (ω (jv 4) ξ)) θ aw))) θ aX) aw))))),λds M q x h=>?_))
 .let(ε,γ,tb,td,i,j,k,ds,d,rfl,_):=h;rfl
 .let(ε,γ,tb,td,i,j,k,ds,d,rfl,hi,hj,f,ht,h):=h;let hm:Rw.υ k ds∈γ:=aap hi;let hd:d∈ds:=aap hj;let(a,b,c):=G9 f hm hd;let(t1,t2):=GJ f a b;let hdj:(ds.map dW)[j]? =!(dW d):=by rw[aas,hj];rfl
  show(_,_,_,.inl rfl,rfl,?_);walk_at "vc";show Ε (xs:=γ.map ar) rfl (Θ (pP hi)) (vf (Ε (d:=.lst (ds.map dW)) rfl (Θ hdj) ?_));show AS (_,_,_,.inl rfl,rfl,Gk (Ε (d:=td) ht t1 (ε,vY tb d.1,11,1150,rfl,oZ f.sh,t2,@_,d.2.1,_,101,1161,rfl,c,BG (oZ f.sh) t2,@_,h)))
def qd(C:Addr):DF:=λas M q _=>∃ε γ tb td i k ds,as=[ax C ε γ,.int (i:Nat),td]/\γ[i]? =!(.υ k ds)/\MR ε γ tb/\gR M td=!(tb.map Ξ)/\q (.lst (ds.map λd=>Ξ (aa ε tb d))) M
def kI:Δ ["self","place","table"] ["self","place","table"] (τ iF):=.of rfl
def qD(F:cz K "all_shown" "Floor.all_shown" iF f fd)(E:Ev K mg w Cm)(aP:dD P w K mg base 2 Cm "doors" ["self","place"] (uK Cm) dQ dw)(j3:dD P w K mg base 4 Cm "shown" ["self","place","door","table"] (K6 Cm) Cr Cw):ao P w K mg base (bO P w) 5 f fd ["self","place","table"] (b8 K (qd Cm)):=by
 show F.de kI (λds M q x h=>?_) (λaQ A outer s H E' hr=>(_,(μ (ψ (Dj (ys:=["place","table","self"]) (ag:=[1,2,0]) (.of kI rfl rfl rfl) (bZ E.bH (ι (bz E.bb (ι (da (b9 aP hr ν (jv 0) (Ν (jv 1) θ))) θ aX)) θ aX)) (λC s H fp=>(b9 j3 hr (gF (P:=P) (w:=w)) (jv 3) (Ν (jv 1) (Ν (jv 0) (Ν (jv 2) θ)))))))),λds M q x h=>?_))
 .let(ε,γ,tb,td,i,k,ds,rfl,_):=h;rfl
 .let(ε,γ,tb,td,i,k,ds,rfl,hi,f,ht,h):=h;let hm:Rw.υ k ds∈γ:=aap hi;let ro:=(f.row _ hm).1;let l6:=Ln f hm;show((_,_,.inl rfl,rfl),ε,γ,i,.υ k ds,rfl,hi,ro,dM (ds:=ds.map dW) (iY ds) ?_);walk_at "vc";show af (d:=.lst (ds.map dW)) (xs:=ds.map dW) rfl ?_;rw[aae];show(((),()),by rw[gI];show aaF (show _<=6 by omega) @_,?_);show ql (f:=λx=>match x with| .int j=>Ξ (aa ε tb (ds.getD j.toNat d0))| _=>.bc) _ _ (λx hxm q' hq=>?_) ?_
  .let(j,hj,rfl):=vD hxm;let hj:j < -ds:=()
   let e:ds.getD (0+(j:Int)).toNat d0=ds[j]:=by rw[show(0+(j:Int)).toNat=j by omega,aab,aaa hj];rfl
   let hq:q' (Ξ (aa ε tb (ds.getD (0+(j:Int)).toNat d0))) M:=hq;rw[e]at hq;show((_,_,.inl rfl,rfl),ε,γ,tb,td,i,j,k,ds,ds[j],by rw[Int.zero_add],hi,aaa hj,f,ht,hq)
  .rw[abx,show((-ds:Int)).toNat=-ds by omega];show(λ(key:∀l,l=ds.map (λd=>Ξ (aa ε tb d))->q (.lst l) M)=>key _ (GN ds d0 (λd=>Ξ (aa ε tb d)))) λl hl=>by rw[hl];show h
def Qk(C:Addr):DF:=λas M q _=>∃ε γ tb td i r,as=[ax C ε γ,.int (i:Nat),td]/\γ[i]? =!r/\Η (kindOf r)=true/\MR ε γ tb/\gR M td=!(tb.map Ξ)/\q (Ξ (fN ε tb r)) M
def kY:Δ ["self","place","table","kind"] ["self","place","table"] (τ nK):=.of rfl
def ze(F:cz K "look" "Floor.look" nK f fd)(E:Ev K mg w Cm)(Υ:dD P w K mg base 1 Cm "kind" ["self","place"] (oG Cm) aU aT)(fR:dD P w K mg base 2 Cm "pay" ["self","place"] (Ri Cm) qm qQ)(hZ:aq P w K mg base 4 "weighed" ["chances","numbers"] tZ vz uP)(br:dD P w K mg base 5 Cm "all_shown" ["self","place","table"] (qd Cm) iD iC)(aP:dD P w K mg base 2 Cm "doors" ["self","place"] (uK Cm) dQ dw)(mR:aq P w K mg base 2 "greatest" ["numbers"] (zE nq) IV HX)(Ax:aq P w K mg base 2 "least" ["numbers"] (zE ng) Se T1):ao P w K mg base (bO P w) 6 f fd ["self","place","table"] (b8 K (Qk Cm)):=by
 show F.de kY (λds M q x h=>?_) (λaQ A outer s H E' hr=>(_,(ζ (χ 3 kY.nd (b9 Υ hr ν (jv 0) (Ν (jv 1) θ)))
   (ζ (ah (bL hr (jv 3) g8) (μ (ψ (b9 fR hr ν (jv 0) (Ν (jv 1) θ)))) Ι)
   (ζ (ah (bL hr (jv 3) g8) (μ (ψ (Φ hZ hr ν (ι (hI (ys:=[]) (ag:=[]) (.of kY rfl rfl rfl) (bC (da (b9 aP hr ν (jv 0) (Ν (jv 1) θ)))) (λC s H fp=>(ω (jv 0) ξ))) (ι (b9 br hr ν (jv 0) (Ν (jv 1) (Ν (jv 2) θ))) θ aX))))) Ι)
   (ζ (ah (bL hr (jv 3) g8) (μ (ψ (Φ mR hr ν (ι (b9 br hr ν (jv 0) (Ν (jv 1) (Ν (jv 2) θ))) θ aX)))) Ι)
   (μ (ψ (Φ Ax hr ν (ι (b9 br hr ν (jv 0) (Ν (jv 1) (Ν (jv 2) θ))) θ aX)))))))),λds M q x h=>?_))
 .let(ε,γ,tb,td,i,r,rfl,_):=h;rfl
 .let(ε,γ,tb,td,i,r,rfl,hi,hand,f,ht,h):=h;let hm:r∈γ:=aap hi;let ro:=(f.row _ hm).1;show((_,_,.inl rfl,rfl),ε,γ,i,r,rfl,hi,?_);cases r with
  | fin p=>show(λ_=>((_,_,.inl rfl,rfl),ε,γ,i,.fin p,rfl,hi,ro,h),nofun)
  | υ k ds=>
   let l6:=Ln f hm;let eS:ds.map (λd=>Ξ (aa ε tb d))=(ds.map (aa ε tb)).map Ξ:=by rw[aa4];rfl
   let hS:∀n∈ds.map (aa ε tb),Sz 1300 n:=λn hn=>by let(d,hd,rfl):=aam.mp hn;show Kv f hm hd
   let hN:ds.map (aa ε tb)≠[]:=λz=>by have:=abq List.length z;rw[aae]at this;simp at this;rw[this]at l6;show abe l6.1 @_
   show(λz=>abe (aan z) ro.1,λ_=>(λz=>?_,λz=>?_))
   .let z:k="chance":=aan z;rw[z]at hand;show abe hand (by change¬Η (Str.ofString "chance")=true;decide)
   .let z:k≠"chance":=aba z;show(λz1=>?_,λz1=>?_)
    .let z1:k="one":=aan z1;let e1:fN ε tb (.υ k ds)=nq (ds.map (aa ε tb)):=aa0 z1;rw[e1]at h;show((_,_,.inl rfl,rfl),ε,γ,tb,td,i,k,ds,rfl,hi,f,ht,?_);rw[eS];show(_,rfl,hN,hS,h)
    .let z1:k≠"one":=aba z1;let e1:fN ε tb (.υ k ds)=ng (ds.map (aa ε tb)):=aa3 z1;rw[e1]at h;show((_,_,.inl rfl,rfl),ε,γ,tb,td,i,k,ds,rfl,hi,f,ht,?_);rw[eS];show(_,rfl,hN,hS,h)
def QF(C:Addr):DF:=λas M q _=>∃ε γ tb td i r,as=[ax C ε γ,.int (i:Nat),td]/\γ[i]? =!r/\MR ε γ tb/\gR M td=!(tb.map Ξ)/\q (.lst ((cW ε tb r).map λj:Nat=>Dt.int j)) M
def kW:Δ ["self","place","table","look"] ["self","place","table"] (τ nQ):=.of rfl
def zW(F:cz K "best" "Floor.best" nQ f fd)(E:Ev K mg w Cm)(Υ:dD P w K mg base 1 Cm "kind" ["self","place"] (oG Cm) aU aT)(k_:dD P w K mg base 6 Cm "look" ["self","place","table"] (Qk Cm) Dy Eb)(br:dD P w K mg base 5 Cm "all_shown" ["self","place","table"] (qd Cm) iD iC):ao P w K mg base (bO P w) 7 f fd ["self","place","table"] (b8 K (QF Cm)):=by
 show F.de kW (λds M q x h=>?_) (λaQ A outer s H E' hr=>(_,(ζ (ah (xE (b9 Υ hr ν (jv 0) (Ν (jv 1) θ)) (Kl E.zK)) (μ (ψ (kK θ))) Ι)
   (ζ (χ 3 kW.nd (b9 k_ hr ν (jv 0) (Ν (jv 1) (Ν (jv 2) θ))))
   (μ (ψ (KG (ys:=["look"]) (ag:=[3]) (.of kW rfl rfl rfl) (zZ E.e7 (ι (b9 br hr ν (jv 0) (Ν (jv 1) (Ν (jv 2) θ))) θ aX)) (λC s H fp=>(bL hr (jv 1) (jv 2))) (λC s H fp=>(jv 0))))))),λds M q x h=>?_))
 .let(ε,γ,tb,td,i,r,rfl,_):=h;rfl
 .let(ε,γ,tb,td,i,r,rfl,hi,f,ht,h):=h;let hm:r∈γ:=aap hi;let ro:=(f.row _ hm).1;show((_,_,.inl rfl,rfl),ε,γ,i,r,rfl,hi,.str (kindOf r),[.str "one",.str "other"],[.str "one",.str "other"],rfl,rfl,rfl,?_);rw[vv];cases r with
  | fin p=>show(λ_=>(@_,h),λz=>(nomatch (show(! Η "end")=false from z)))
  | υ k ds=>
   let l6:=Ln f hm;show(λz=>?_,λz=>?_)
   .let z:Η k=false:=by have:(! Η k)=true:=z;simpa using this
    let e1:cW ε tb (.υ k ds)=[]:=aa3 (by rw[z];decide);rw[e1]at h;show(@_,h)
   .let z:Η k=true:=by have:(! Η k)=false:=z;simpa using this
    let e1:cW ε tb (.υ k ds)=(List.range (-ds)).filter λj=>decide (aa ε tb (ds.getD j d0)=fN ε tb (.υ k ds)):=aa0 z;rw[e1]at h;show((_,_,.inl rfl,rfl),ε,γ,tb,td,i,.υ k ds,rfl,hi,z,f,ht,?_);show((_,_,.inl rfl,rfl),ε,γ,tb,td,i,k,ds,rfl,hi,f,ht,?_);generalize fN ε tb (.υ k ds)=lk at *
    let eS:ds.map (λd=>Ξ (aa ε tb d))=(ds.map (aa ε tb)).map Ξ:=by rw[aa4];rfl
    rw[eS];show(_,_,_,rfl,rfl,by rw[kj,aae,aae];show aaF l6.2 @_,?_);show ft trivial (λx=>match x with| .tup [_,.tup [.int a,.int b]]=>decide ((a, b)=lk)| _=>false) (λx=>match x with| .tup [i,_]=>i| _=>.bc) _ _ (λx hx q' p' h1 h2=>?_) ?_
    .let(j,hj,ej):=ab2 hx;let(y,hy,rfl):=qK (n:=0) (i:=j) (aai.mpr (hj,ej));rw[aas]at hy;let(s0,hs0,rfl):=acJ.mp hy;let h1:decide (s0=lk)=true->q' (.int ((0+j:Nat):Int)) M:=h1;let h2:decide (s0=lk)=false->p' M:=h2;clear hx hj ej hy;let key:D4 (Ξ s0) (Ξ lk) M (λd M1=>match d with| .bl b=>(match b with| true=>q' (.int ((0+j:Nat):Int)) M1| false=>p' M1)| _=>False):=by
      show UT (k:=λb M1=>match b with| true=>q' (.int ((0+j:Nat):Int)) M1| false=>p' M1) ?_;cases hb:decide (s0=lk) with
      | true=>show h1 hb
      | false=>show h2 hb
     show key
    .rw[abx,rP (λs0=>decide (s0=lk)) (ds.map (aa ε tb)) 0,aae];let e3:∀j∈List.range (-ds),decide ((ds.map (aa ε tb)).getD j (0, 1)=lk)=decide (aa ε tb (ds.getD j d0)=lk):=λj hj=>by let hj:=abG.mp hj;rw[aab,aas,aab,aaa hj];rfl
     rw[List.filter_congr e3];let e4:∀l:List Nat,(l.map λj:Nat=>Dt.int ((0+j:Nat):Int))=l.map λj:Nat=>Dt.int j:=λl=>abO λj _=>by rw[Nat.zero_add]
     rw[e4];show h
end
end Pg
namespace L2
open PySem
def jO{g:Dt->En->(En->Prop)->Prop}{k:Nat}(J:List Key->En->Ms->Prop)(aS:∀xs ρ M,J xs ρ M->M[k]? =!(.raw u))
  (step:∀x xs ρ M,J (x::xs) ρ M->(∀ρ M,J xs ρ M->pd g tb Dn k u m xs ρ M)->g (xi x) ρ λρ'=>tb {Dn with nx:=pd g tb Dn k u m xs,ct:=pd g tb Dn k u m xs,bk:=λρ M=>M[k]? =!(.raw u)/\Dn.nx ρ (M.set k m)} ρ' M)
  (fin:∀ρ M,J [] ρ M->Dn.nx ρ (M.set k m)):∀(xs:List Key) (ρ:En) (M:Ms),J xs ρ M->pd g tb Dn k u m xs ρ M
 | [],ρ,M,h=>(aS _ _ _ h,fin _ _ h)
 | x::xs,ρ,M,h=>(aS _ _ _ h,step x xs ρ M h λρ' M' h'=>jO J aS step fin xs ρ' M' h')
end L2
namespace Pg
open PySem L2 Fr0 Tx
variable{M:Ms}{xs:List Dt}{ds:List bU}{mg:Str->Option Value}{f cN eT nN jx:Addr}{fd cL eJ og jK:FuncData}{ε:Fr}{γ:List Rw}{tb mQ:List Fr}{v X C a b:Int}{Μ cQ p:Pl}{i j n:Nat}{r:Rw}{d:bU}{hand rival:Str}{its:Array Value}{cJ:Bool}
noncomputable def js(ε:Fr)(γ:List Rw)(tb:List Fr)(i:Int):List Nat:=match γ[i.toNat]? with
 | some r=>cW ε tb r
 | none=>[]
noncomputable def C5(l:List Nat)(v:Int):Bool:=NA (.int v) (l.map λj:Nat=>V.int j)
noncomputable def sk(ε:Fr)(γ:List Rw)(tb:List Fr)(p:Int×Int):Pl:=if C5 (js ε γ tb p.1) p.2 then [] else [(p.1, ((js ε γ tb p.1).headD 0:Nat))]
noncomputable def Β(ε:Fr)(γ:List Rw)(tb:List Fr)(pl:Pl):Pl:=pl.flatMap (sk ε γ tb)
def xm:∀l:List Nat,fW (l.map λj:Nat=>Dt.int j)=!(l.map λj:Nat=>V.int j)
 | []=>rfl
 | j::l=>by let ih:=xm l;rw[aa1,aa1];unfold fW;rw[ih];rfl
def iO{k:Nat}(h:M[k]? =!m):M.set k m=M:=by
 apply adq;intro i;rw[List.getElem?_set];split
 .rename_i e;subst e;rw[aa0 (aai.mp h).1,h]
 .rfl
def c7(pl:Pl):vP pl=(pl.map (·.2)).map Dt.int:=by unfold vP;rw[List.map_map];rfl
def gP{ε:Fr}{γ:List Rw}{tb:List Fr}{i:Int}:∀{pl:Pl},i∈(Β ε γ tb pl).map (·.1)->i∈pl.map (·.1)
 | p::r,h=>by
  unfold Β at h;rw[ads,aa9]at h;rcases abj.mp h with z| z
  .unfold sk at z;split at z
   .cases z
   .rw[aa1];show abg.mpr (.inl (abh.mp z))
  .show aaf _ (gP z)
def j8{ε:Fr}{γ:List Rw}{tb:List Fr}:∀pl:Pl,-(Β ε γ tb pl)<=-pl
 | []=>aaq _
 | p::r=>by
  let ih:=j8 (ε:=ε) (γ:=γ) (tb:=tb) r;unfold Β at ih⊢;rw[ads,aak,aaN];have:-(sk ε γ tb p)<=1:=by
   unfold sk;split
   .show acR _
   .show aaq _
  omega
def pO{i:Int}:∀{pl:Pl},i∉pl.map (·.1)->Λ pl i=none
 | [],_=>rfl
 | p::r,h=>by unfold Λ;rw[aa3 λz=>h (by rw[<-z];show aah)];show pO λz=>h (aaf _ z)
def Od{E:Ms}(h:gR M td=!xs):gR (M++E) td=!xs:=by
 cases td with
 | loc j=>
  let h:(match M[j]? with| some (.lst xs)=>!xs| _=>none)=!xs:=h;change(match (M++E)[j]? with| some (.lst xs)=>!xs| _=>none)=!xs;cases e:M[j]? with
  | none=>rw[e]at h;cases h
  | some m=>rw[Ω e];rw[e]at h;show h
 | _=>show h
def Px{k:Nat}{ds:List Dt}(h:gR M td=!xs)(hk:M[k]? =!(.c_ ks ds)):gR (M.set k m) td=!xs:=by
 cases td with
 | loc j=>
  let h:(match M[j]? with| some (.lst xs)=>!xs| _=>none)=!xs:=h;change(match (M.set k m)[j]? with| some (.lst xs)=>!xs| _=>none)=!xs;rw[abi (λz=>by rw[<-z,hk]at h;cases h)];show h
 | _=>show h
section
variable{P:Program}{w:World}{K:fI}{base:Heap}{Cm:Addr}
set_option tactic.hygienic false
def z7(A:Addr):DF:=λas M q _=>∃(ε:Fr) (γ:List Rw) (tb:List Fr) (td:Dt) (k:Nat) (pl:Pl),as=[ax A ε γ,.loc k,td]/\M[k]? =!(dP pl)/\MR ε γ tb/\gR M td=!(tb.map Ξ)/\oE pl/\-pl<=12/\(∀p∈pl,0<=p.1/\∃r,γ[p.1.toNat]? =!r/\Η (kindOf r)=true/\cW ε tb r≠[])/\q (.loc (-M)) (M++[dP (Β ε γ tb pl)])
def gm:Δ ["floor","plan","table","better","place","best"] ["floor","plan","table"] (τ j9):=.of rfl
def uN(F:cz K "better_doors" "better_doors" j9 f fd)(E:Ev K mg w Cm)(lJ:dD P w K mg base 7 Cm "best" ["self","place","table"] (QF Cm) Eh Et):ao P w K mg base (bO P w) 8 f fd ["floor","plan","table"] (b8 K (z7 Cm)):=by
 show F.de gm (λds M q x h=>?_) (λaQ A outer s H E' hr=>(_,(ζ (χ 3 gm.nd zC)
   (ζ (pM (jv 1) (ai (i:=4) gm.nd rfl (Or.inl rfl)) aB (ζ (χ 5 gm.nd (b9 lJ hr ν (jv 0) (Ν (jv 4) (Ν (jv 2) θ))))
   (μ (ah (xE (sN (jv 1) (jv 4)) (jv 5)) (μ (o_ hr (jv 3) (jv 4) (ω (jv 5) ξ))) Ι))))
   (μ (ψ (jv 3))))),λds M q x h=>?_))
 .let(ε,γ,tb,td,k,pl,rfl,_):=h;rfl
 .let(ε,γ,tb,td,k,pl,rfl,hk,f,ht,nd,lV,hp,h):=h;let kl:k < -M:=(aai.mp hk).1;walk_at "vc";show(k,kP pl,pl.map (·.2),rfl,by rw[<-c7];show Ω hk,λep=>?_);change pd _ _ _ k (si P w (kP pl) (pl.map (·.2)) ep) _ _ _ ((M++[MO.c_ [] []]).set k (.raw (si P w (kP pl) (pl.map (·.2)) ep)));let K4:∀p∈pl,bx (kP pl) ((pl.map (·.2)).map Dt.int) (Sum.inl p.1)=!(.int p.2):=λp hm=>by
   rw[<-c7,lD];have:∀{l:Pl},oE l->p∈l->Λ l p.1=!p.2:=λ{l}=>by
    induction l with
    | nil=>intro _ z;cases z
    | cons a l ih=>
     intro nl hm;unfold oE at nl;rw[aa1,aca]at nl;unfold Λ;rcases abg.mp hm with e| e
     .rw[aa0 (by rw[e]),e]
     .rw[aa3 λz=>nl.1 (by rw[z];show aam.mpr (p,e,rfl))];show ih nl.2 e
   rw[this nd hm];rfl
  generalize hu:si P w (kP pl) (pl.map (·.2)) ep=u;let Rf:(M++[MO.c_ [] []]).set k (.raw u)=M.set k (.raw u)++[dP []]:=by rw[aco _ _ kl];rfl
  let hb:∀Μ,((M.set k (.raw u)++[dP Μ]).set k (.c_ (kP pl) (vP pl)))=M++[dP Μ]:=λΜ=>by
   rw[aco _ _ (by rw[abW];show kl),acY]
   congr 1
   show iO hk
  rw[Rf];show jO (λxs ρ' M'=>∃(bR rest:Pl) (o4 o5:Option Dt),pl=bR++rest/\xs=kP rest/\M'=M.set k (.raw u)++[dP (Β ε γ tb bR)]/\ρ'=[!(ax Cm ε γ),!(.loc k),!td,!(.loc (-M)),o4,o5]) (λxs ρ' M' hj=>?_) (λx xs ρ' M' hj et=>?_) (λρ' M' hj=>?_) _ _ _ ([],pl,none,none,rfl,rfl,rfl,rfl)
  .let(bR,rest,o4,o5,e,rfl,rfl,rfl):=hj;show Ω (by rw[abc kl])
  .let(bR,rest,o4,o5,e,ex,rfl,rfl):=hj;cases rest with
   | nil=>cases ex
   | cons p rest=>
    cases ex;let pm:p∈pl:=by rw[e];simp
    let(p0,r,Yn,AH,hr3):=hp p pm;let(p1,v):=p;obtain⟨i,rfl⟩:∃i:Nat,p1=(i:Int):=(p1.toNat,by have:0<=p1:=p0;omega);let Yn:γ[i]? =!r:=Yn;let hbA:js ε γ tb (i:Int)=cW ε tb r:=by unfold js;rw[acs,Yn]
    let sy:(M.set k (.raw u)++[dP (Β ε γ tb bR)])[k]? =!(.raw u):=Ω (by rw[abc kl]);let Js:(M.set k (.raw u)++[dP (Β ε γ tb bR)])[-M]? =!(dP (Β ε γ tb bR)):=by have:=aA (M:=M.set k (.raw u)) (o:=dP (Β ε γ tb bR));rwa[abW]at this
    let bsn:Β ε γ tb (bR++[((i:Int), v)])=Β ε γ tb bR++sk ε γ tb ((i:Int), v):=by unfold Β;rw[List.flatMap_append];simp
    let U3:∀Μ o5,Μ=Β ε γ tb (bR++[((i:Int), v)])->_:=λΜ o5 ea=>et [!(ax Cm ε γ),!(.loc k),!td,!(.loc (-M)),!(.int (i:Int)),o5] (M.set k (.raw u)++[dP Μ]) (bR++[((i:Int), v)],rest,_,o5,by rw[e,abv];rfl,rfl,by rw[ea],rfl);let hg:=K4 _ pm;rw[<-hu]at sy Js U3⊢;walk_at "vc";show((_,_,.inl rfl,rfl),ε,γ,tb,td,i,r,rfl,Yn,f,Od (Px ht hk),?_);generalize cW ε tb r=bl at *
    show(k,kP pl,(pl.map λx:Int×Int=>x.2),ep,Sum.inl (i:Int),v,rfl,sy,rfl,hg,?_);show(.int v,_,_,rfl,rfl,xm bl,λz=>?_,λz=>?_)
    .let z:(! C5 bl v)=true:=z;let z:¬C5 bl v=true:=by simpa using z
     let(j,bl',rfl):=ab5 hr3;dsimp only[u0];walk_at "vc";show(Ε (d:=.lst ((j::bl').map λj:Nat=>Dt.int j)) rfl aF ?_:aW (.lst ((j::bl').map λj:Nat=>Dt.int j)) (.int 0) _ _);let ll:=j8 (ε:=ε) (γ:=γ) (tb:=tb) bR;let dl:-bR<=12:=by have:=abq List.length e;rw[aak]at this;omega
     show(-M,_,_,Sum.inl (i:Int),rfl,Js,rfl,by unfold kP;rw[List.length_map];omega,?_);rw[uk (v:=(j:Int)),xk];let gn:Λ (Β ε γ tb bR) (i:Int)=none:=pO λy=>by let y:=gP y;rw[e]at nd;unfold oE at nd;rw[aa9,ac0]at nd;show nd.2.2 _ y _ aah rfl
     let e1:dq (Β ε γ tb bR) (i:Int) (j:Int)=Β ε γ tb (bR++[((i:Int), v)]):=by rw[bsn];unfold dq sk;rw[gn,hbA,aa3 z,aa3 @_];rfl
     rw[e1,List.set_append_right (h:=by rw[abW];show aaq _),abW,adx];show U3 _ _ rfl
    .let z:(! C5 bl v)=false:=z;let z:C5 bl v=true:=by simpa using z
     show U3 _ _ (by rw[bsn];unfold sk;rw[hbA,if_pos z,List.append_nil])
  .let(bR,rest,o4,o5,e,ex,rfl,rfl):=hj;have:rest=[]:=by cases rest with| nil=>rfl| cons p r=>cases ex
   subst this;rw[abw]at e;rw[c7]at hb;rw[hb,<-e];show h
noncomputable def bM(γ:List Rw)(i:Nat):Str:=match γ[i]? with
 | some r=>kindOf r
 | none=>""
noncomputable def jy(γ:List Rw)(hand:Str):List Nat:=(List.range (-γ)).filter λi=>decide (bM γ i=hand)
def gS(γ:List Rw)(hand:Str):Pl:=(jy γ hand).map λi:Nat=>((i:Int), 0)
def EL(p:Nat->Bool)(n:Nat):((dJ 0 n).filter λx=>match x with| .int j=>p j.toNat| _=>false)=((List.range n).filter p).map λi:Nat=>Dt.int i:=by
 unfold dJ;rw[List.filter_map];let e:((λx:Dt=>match x with| .int j=>p j.toNat| _=>false) ∘ λi:Nat=>Dt.int (0+(i:Int)))=p:=funext λi=>by change p (0+(i:Int)).toNat=p i;rw[show(0+(i:Int)).toNat=i by omega]
 rw[e];show abO λi _=>by change Dt.int (0+(i:Int))=Dt.int i;rw[Int.zero_add]
def FO(A:Addr):DF:=λas M q _=>∃(ε:Fr) (γ:List Rw) (hand:Str),as=[ax A ε γ,.str hand]/\-γ<=12/\q (.lst ((jy γ hand).map λi:Nat=>Dt.int i)) M
def tQ:Δ ["floor","hand"] ["floor","hand"] (τ qh):=.of rfl
def Bu(F:cz K "places_of" "places_of" qh f fd)(E:Ev K mg w Cm)(bq:dD P w K mg base 1 Cm "size" ["self"] (B8 Cm) eO eK)(Υ:dD P w K mg base 1 Cm "kind" ["self","place"] (oG Cm) aU aT):ao P w K mg base (bO P w) 2 f fd ["floor","hand"] (b8 K (FO Cm)):=by
 show F.de tQ (λds M q x h=>?_) (λaQ A outer s H E' hr=>(_,(μ (ψ (Bw (ys:=["hand","floor"]) (ag:=[1,0]) (.of tQ rfl rfl rfl) (Qe (bZ E.bH (ι (lT bq hr ν (jv 0)) θ aX))) (λC s H fp=>(bL hr (b9 Υ hr (gF (P:=P) (w:=w)) (jv 2) (Ν (jv 0) θ)) (jv 1))) (λC s H fp=>(jv 0))))),λds M q x h=>?_))
 .let(ε,γ,hand,rfl,_):=h;rfl
 .let(ε,γ,hand,rfl,lV,h):=h;let sl:∀{z:Nat},z<=1000->z<=sizeLine:=λh=>aaF h @_;walk_at "vc";dsimp only[zz,kOf];walk_at "vc";show((_,_,.inl rfl,rfl),ε,γ,rfl,?_);show((),by rw[gI];show sl (),?_);rw[show((-γ:Int)).toNat=-γ by omega];show ft trivial (λx=>match x with| .int j=>decide (bM γ j.toNat=hand)| _=>false) (λx=>x) _ _ (λx hx q' p' h1 h2=>?_) ?_
  .let(j,hj,rfl):=vD hx;rw[Int.zero_add]at h1 h2⊢;let hr:γ[j]? =!γ[j]:=aaa hj;let Sl:bM γ j=kindOf γ[j]:=by unfold bM;rw[hr]
   let h1:decide (bM γ j=hand)=true->q' (.int (j:Int)) M:=h1;let h2:decide (bM γ j=hand)=false->p' M:=h2;rw[Sl]at h1 h2;show((_,_,.inl rfl,rfl),ε,γ,j,γ[j],rfl,hr,?_);change(match decide (kindOf γ[j]=hand) with| true=>q' (.int (j:Int)) M| false=>p' M);cases hb:decide (kindOf γ[j]=hand) with
   | true=>show h1 hb
   | false=>show h2 hb
  .rw[abx,List.map_id'];show(λ(key:∀l,l=(jy γ hand).map (λi:Nat=>Dt.int i)->q (.lst l) M)=>key _ (EL (λi=>decide (bM γ i=hand)) (-γ))) λl hl=>by rw[hl];show h
def yW(A:Addr):DF:=λas M q _=>∃(ε:Fr) (γ:List Rw) (hand:Str),as=[ax A ε γ,.str hand]/\-γ<=12/\q (.loc (-M)) (M++[dP (gS γ hand)])
def lK:Δ ["floor","hand","plan","place"] ["floor","hand"] (τ oz):=.of rfl
def zO(F:cz K "first_plan" "first_plan" oz f fd)(E:Ev K mg w Cm)(ni:aq P w K mg base 2 "places_of" ["floor","hand"] (FO Cm) IC Hv):ao P w K mg base (bO P w) 3 f fd ["floor","hand"] (b8 K (yW Cm)):=by
 show F.de lK (λds M q x h=>?_) (λaQ A outer s H E' hr=>(_,(ζ (χ 2 lK.nd zC)
   (ζ (c8 (bC (Φ ni hr ν (Ν (jv 0) (Ν (jv 1) θ)))) (ai (i:=3) lK.nd rfl (Or.inl rfl)) aB (μ (o_ hr (jv 2) (jv 3) ξ)))
   (μ (ψ (jv 2))))),λds M q x h=>?_))
 .let(ε,γ,hand,rfl,_):=h;rfl
 .let(ε,γ,hand,rfl,lV,h):=h;let TJ:-(jy γ hand)<=12:=by have:=acZ (λi=>decide (bM γ i=hand)) (List.range (-γ));rw[abJ]at this;unfold jy;omega
  let pnd:(jy γ hand).Nodup:=List.nodup_range.filter _;walk_at "vc";dsimp only[rO,fL];walk_at "vc";show(ε,γ,hand,rfl,lV,?_);show bN (λxs ρ' M'=>∃(bR rest:List Nat) (o3:Option Dt),jy γ hand=bR++rest/\xs=rest.map (λi:Nat=>Dt.int i)/\M'=M++[dP (bR.map λi:Nat=>((i:Int), 0))]/\ρ'=[!(ax Cm ε γ),!(.str hand),!(.loc (-M)),o3]) (λxs ρ' M' hj=>trivial) (λx xs ρ' M' hj et=>?_) (λρ' M' hj=>?_) _ _ _ ([],jy γ hand,none,rfl,rfl,rfl,rfl)
  .let(bR,rest,o3,e,ex,rfl,rfl):=hj;cases rest with
   | nil=>cases ex
   | cons i rest=>
    cases ex;let dl:-bR<=12:=by have:=abq List.length e;rw[aak]at this;omega
    dsimp only[u0];walk_at "vc";show(-M,_,_,Sum.inl (i:Int),rfl,aA,rfl,by unfold kP;rw[List.length_map,List.length_map];omega,?_);rw[uk (v:=0),xk,d_];let gn:Λ (bR.map λi:Nat=>((i:Int), 0)) (i:Int)=none:=pO λy=>by
     rw[aa4]at y;let(j,hj,ej):=aam.mp y;let ej:(j:Int)=(i:Int):=ej;have:j=i:=()
     subst this;rw[e,ac0]at pnd;show pnd.2.2 _ hj _ aah rfl
    show et _ _ (bR++[i],rest,_,by rw[e,abv];rfl,rfl,?_,rfl);unfold dq;rw[gn,aa3 @_,aa9];rfl
  .let(bR,rest,o3,e,ex,rfl,rfl):=hj;have:rest=[]:=by cases rest with| nil=>rfl| cons p r=>cases ex
   subst this;rw[abw]at e;rw[<-e];show h
noncomputable def a_:Pl->Pl->Pl
 | p,[]=>p
 | p,e::r=>a_ (dq p e.1 e.2) r
def Gw:∀{r p:Pl},rY (kP p) (kP r)=kP (a_ p r)
 | [],p=>rfl
 | e::r,p=>by change rY (g7 (kP p) (Sum.inl e.1)) (kP r)=kP (a_ (dq p e.1 e.2) r);rw[uk (v:=e.2)];show Gw
def Ge:∀{r p:Pl},vt (kP p) (vP p) (kP r) (vP r)=vP (a_ p r)
 | [],p=>rfl
 | e::r,p=>by change vt (g7 (kP p) (Sum.inl e.1)) (fD (kP p) (Sum.inl e.1) (vP p) (.int e.2)) (kP r) (vP r)=vP (a_ (dq p e.1 e.2) r);rw[uk (v:=e.2),xk];show Ge
def fB{i:Int}:∀{r p:Pl},oE r->Λ (a_ p r) i=match Λ r i with| some v=>!v| none=>Λ p i
 | [],p,_=>rfl
 | e::r,p,nd=>by
  unfold oE at nd;rw[aa1,aca]at nd;let ih:=fB (i:=i) (r:=r) (p:=dq p e.1 e.2) nd.2;change Λ (a_ (dq p e.1 e.2) r) i=match (if e.1=i then !e.2 else Λ r i) with| some v=>!v| none=>Λ p i
  rw[ih,tm];by_cases h:e.1=i
  .let hn:Λ r i=none:=by
    cases hg:Λ r i with
    | none=>rfl
    | some v=>show abe (aam.mpr (_,AF hg,h.symm)) nd.1
   rw[hn,aa0 h,aa0 h.symm]
  .rw[aa3 h,aa3 (Ne.symm h)]
def Wa(A:Addr):DF:=λas M q _=>∃(ε:Fr) (γ:List Rw) (kh ka:Nat) (ph pa:Pl) (X C:Int),as=[ax A ε γ,.loc kh,.loc ka]/\M[kh]? =!(dP ph)/\M[ka]? =!(dP pa)/\-ph+-pa<=1000/\kQ γ (a_ ph pa)/\FW ε γ X C/\kN X C<=2 ^ 450/\(12 * kN X C) ^ (-γ) < 2 ^ 1030/\∀tb,vZ ε γ (a_ ph pa) tb->q (.loc (-M+1)) (M++[dP (a_ ph pa),.lst (tb.map Ξ)])
def kF:Δ ["floor","held","answer","doors"] ["floor","held","answer"] (τ ig):=.of rfl
def qZ(F:cz K "worths_against" "worths_against" ig f fd)(E:Ev K mg w Cm)(nv:aq P w K mg base 7 "worths_by" ["floor","doors"] (V_ Cm) Jf IS):ao P w K mg base (bO P w) 8 f fd ["floor","held","answer"] (b8 K (Wa Cm)):=by
 show F.de kF (λds M q x h=>?_) (λaQ A outer s H E' hr=>(_,(ζ (χ 3 kF.nd (EJ E.mX (Ν (jv 1) θ)))
   (ζ (eI (E5 (jv 3) (jv 2)))
   (μ (ψ (Φ nv hr ν (Ν (jv 0) (Ν (jv 3) θ))))))),λds M q x h=>?_))
 .let(ε,γ,kh,ka,ph,pa,X,C,rfl,_):=h;rfl
 .let(ε,γ,kh,ka,ph,pa,X,C,rfl,hh,ha,lz,dk,fw,kL,v7,h):=h;walk_at "vc";show(kh,_,_,rfl,hh,?_);dsimp only[GI];walk_at "vc";let kl:ka < -M:=(aai.mp ha).1;show((-M,_,_,rfl,aA),-M,ka,_,_,_,_,rfl,rfl,(),aA,Ω ha,by unfold kP;rw[List.length_map,List.length_map];show lz,?_);rw[Gw,Ge,d_];show(ε,γ,_,_,X,C,rfl,aA,dk,fw,kL,v7,λtb wt=>?_);have:=h tb wt;simpa [List.append_assoc] using this
def uf{a b:Fr}(ha:0 < a.2)(hb:0 < b.2):a.1 * b.2<=b.1 * a.2↔val a<=val b:=by
 let e1:val a * (a.2:Rat)=a.1:=by
  have:=aR (show a.2≠0 by omega);unfold val;generalize (a.1:Rat)=x at *
  generalize (a.2:Rat)=y at *
  grind
 let e2:val b * (b.2:Rat)=b.1:=by
  have:=aR (show b.2≠0 by omega);unfold val;generalize (b.1:Rat)=x at *
  generalize (b.2:Rat)=y at *
  grind
 let p1:(0:Rat) < (a.2:Rat):=acr.mpr ha;let p2:(0:Rat) < (b.2:Rat):=acr.mpr hb;let pp:=Rat.mul_pos p1 p2;rw[<-ab3,abu,abu,<-e1,<-e2];generalize (a.2:Rat)=y at *
 generalize (b.2:Rat)=z at *
 generalize val a=u at *
 generalize val b=v at *
 constructor
 .intro h;by_cases c:u<=v
  .show c
  .have:=Rat.mul_pos (show 0 < u - v by grind) pp;grind
 .intro h;have:=acA h (Rat.le_of_lt pp);grind
def mi{f n:Fr}(h1:0 < f.2)(h2:0 < n.2):cZ f n=true↔val f < val n:=by
 unfold cZ;rw[aax];have:=uf h2 h1;constructor
 .intro h;by_cases c:val n<=val f
  .have:=this.mpr c;omega
  .grind
 .intro h;by_cases c:n.1 * f.2<=f.1 * n.2
  .have:=this.mp c;grind
  .omega
def mY:∀(ns:List Fr) (f:Fr),0 < f.2->(∀n∈ns,0 < n.2)->(ns.foldl (λf n=>if cZ f n then n else f) f∈f::ns)/\val f<=val (ns.foldl (λf n=>if cZ f n then n else f) f)/\∀n∈ns,val n<=val (ns.foldl (λf n=>if cZ f n then n else f) f)
 | [],f,_,_=>(List.mem_cons_self,by change val f<=val f;grind,λ_ z=>nomatch z)
 | a::ns,f,h,hn=>by
  let ha:=hn a aah;let u:=mi h ha;rw[acy];by_cases c:cZ f a=true
  .rw[aa0 c];let(m,l,al):=mY ns a ha λn z=>hn n (aaf _ z);have:=u.mp c;show(List.mem_cons_of_mem _ m,by grind,λn z=>?_);rcases abg.mp z with e| e
   .rw[e];show l
   .show al n e
  .rw[aa3 c];let(m,l,al):=mY ns f h λn z=>hn n (aaf _ z);let c2:¬val f < val a:=λz=>c (u.mpr z);show(?_,l,λn z=>?_)
   .rcases abg.mp m with e| e
    .rw[e];show aah
    .show aaf _ (aaf _ e)
   .rcases abg.mp z with e| e
    .rw[e];grind
    .show al n e
def oj:∀(ns:List Fr) (f:Fr),0 < f.2->(∀n∈ns,0 < n.2)->(ns.foldl (λf n=>if cZ n f then n else f) f∈f::ns)/\val (ns.foldl (λf n=>if cZ n f then n else f) f)<=val f/\∀n∈ns,val (ns.foldl (λf n=>if cZ n f then n else f) f)<=val n
 | [],f,_,_=>(List.mem_cons_self,by change val f<=val f;grind,λ_ z=>nomatch z)
 | a::ns,f,h,hn=>by
  let ha:=hn a aah;let u:=mi ha h;rw[acy];by_cases c:cZ a f=true
  .rw[aa0 c];let(m,l,al):=oj ns a ha λn z=>hn n (aaf _ z);have:=u.mp c;show(List.mem_cons_of_mem _ m,by grind,λn z=>?_);rcases abg.mp z with e| e
   .rw[e];show l
   .show al n e
  .rw[aa3 c];let(m,l,al):=oj ns f h λn z=>hn n (aaf _ z);let c2:¬val a < val f:=λz=>c (u.mpr z);show(?_,l,λn z=>?_)
   .rcases abg.mp m with e| e
    .rw[e];show aah
    .show aaf _ (aaf _ e)
   .rcases abg.mp z with e| e
    .rw[e];grind
    .show al n e
noncomputable def fE(k:Str):Rat:=if k="one" then 1 else - 1
set_option tactic.hygienic true
section
variable{k:Str}
def xb(h0:ds≠[])(hp:∀d∈ds,0 < (aa ε tb d).2):fN ε tb (.υ k ds)∈ds.map (aa ε tb)/\∀d∈ds,fE k * val (aa ε tb d)<=fE k * val (fN ε tb (.υ k ds)):=by
 let(d1,oB,rfl):=ab5 h0;let hn:∀n∈(d1::oB).map (aa ε tb),0 < n.2:=λn hn=>by let(d,hd,rfl):=aam.mp hn;show hp d hd
 let h1:=hp d1 aah;unfold fE;by_cases e:k="one"
 .let e1:fN ε tb (.υ k (d1::oB))=nq ((d1::oB).map (aa ε tb)):=aa0 e;let(m,l,al):=mY ((d1::oB).map (aa ε tb)) (aa ε tb d1) h1 hn;let e2:nq ((d1::oB).map (aa ε tb))=((d1::oB).map (aa ε tb)).foldl (λf n=>if cZ f n then n else f) (aa ε tb d1):=rfl;rw[e1,e2,aa0 e];show(?_,λd hd=>?_)
  .rcases abg.mp m with y| y
   .rw[y];show aah
   .show y
  .have:=al _ (aam.mpr (d,hd,rfl));grind
 .let e1:fN ε tb (.υ k (d1::oB))=ng ((d1::oB).map (aa ε tb)):=aa3 e;let(m,l,al):=oj ((d1::oB).map (aa ε tb)) (aa ε tb d1) h1 hn;let e2:ng ((d1::oB).map (aa ε tb))=((d1::oB).map (aa ε tb)).foldl (λf n=>if cZ n f then n else f) (aa ε tb d1):=rfl;rw[e1,e2,aa3 e];show(?_,λd hd=>?_)
  .rcases abg.mp m with y| y
   .rw[y];show aah
   .show y
  .have:=al _ (aam.mpr (d,hd,rfl));grind
end
def Ac:C5 l v=true↔∃j∈l,(j:Int)=v:=by
 unfold C5 NA;rw[List.any_eq_true];constructor
 .rintro⟨u,hu,e⟩;let(j,hj,rfl):=aam.mp hu;show(j,hj,?_);unfold pW at e;simpa using e
 .rintro⟨j,hj,e⟩;show(.int j,aam.mpr (j,hj,rfl),?_);unfold pW;simpa using e
section
variable{k:Str}
def lZ(hi:γ[i]? =!r):fi γ i=r:=by unfold fi;rw[aab,hi];rfl
def gG(hh:Η k=true):j∈cW ε tb (.υ k ds)↔j < -ds/\aa ε tb (ds.getD j d0)=fN ε tb (.υ k ds):=by let e:cW ε tb (.υ k ds)=(List.range (-ds)).filter λj=>decide (aa ε tb (ds.getD j d0)=fN ε tb (.υ k ds)):=aa0 hh;rw[e,adj,abG,aax]
def Oc(hh:Η k=true)(h0:ds≠[])(hp:∀d∈ds,0 < (aa ε tb d).2):cW ε tb (.υ k ds)≠[]:=by let(m,_):=xb (k:=k) h0 hp;let(d,hd,e):=aam.mp m;let(j,jl,ej):=ab2 hd;have:j∈cW ε tb (.υ k ds):=(gG hh).mpr (jl,by rw[aab,aaa jl];change aa ε tb ds[j]=_;rw[ej,e]);show List.ne_nil_of_mem this
def gx(fw:FW ε γ X C)(hm:Rw.υ k ds∈γ)(hd:d∈ds)(hp:∀t,t < -γ->0 < (tb.getD t (0, 1)).2):val (aa ε tb d)=val d.2.1+val ε * val (tb.getD d.1.toNat (0, 1))/\Red (aa ε tb d):=by let s0:=fw.sh.1;let dr:=dR fw.pl hm;let(t0,t1):=dr.to d hd;let tp:0 < (tb.getD d.1.toNat (0, 1)).2:=hp _ ();let p0:=(dr.py d hd).2;let t:Red (bt ε (tb.getD d.1.toNat (0, 1))):=cR (acm (abC s0 tp));show(?_,cR (acm (abC p0 t.pos)));change val (g6 d.2.1 (bt ε (tb.getD d.1.toNat (0, 1))))=_;rw[BF p0 t.pos,qb s0 tp]
def oP(fw:FW ε γ X C)(hi:γ[i]? =!(.υ k ds))(hh:Η k=true)(gj:Λ Μ i=!(j:Int))(jl:j < -ds)(hp:∀t,t < -γ->0 < (tb.getD t (0, 1)).2):lu ε (AI γ Μ) (AG γ Μ) (λx=>val (tb.getD x (0, 1))) i=val (aa ε tb (ds.getD j d0)):=by
 let rm:Rw.υ k ds∈γ:=aap hi;let gd:ds.getD j d0=ds[j]:=by rw[aab,aaa jl];rfl
 let dm:=aaG jl;let e:aO Μ i (.υ k ds)=[(ds[j].1, ds[j].2.1,[(1, 1)])]:=by unfold aO;rw[gj];change[((ds.getD ((j:Int)).toNat d0).1, (ds.getD ((j:Int)).toNat d0).2.1,(ds.getD ((j:Int)).toNat d0).2.2++[(1, 1)])]=_;rw[acs,gd,fw.hnd k ds rm hh _ dm];rfl
 let v1:val ((1, 1):Fr)=1:=by change((1:Int):Rat) / ((1:Int):Rat)=1;grind
 let v0:val ((0, 1):Fr)=0:=by change((0:Int):Rat) / ((1:Int):Rat)=0;grind
 let p0:=((dR fw.pl rm).py ds[j] dm).2;let eg:val (T8 Μ i (.υ k ds))=val ds[j].2.1:=by change val (jf (((aO Μ i (.υ k ds)).map Γ).zip ((aO Μ i (.υ k ds)).map (·.2.1))))=_;rw[e];change val (g6 (0, 1) (bt (1, 1) ds[j].2.1))=_;let t:Red (bt ((1, 1):Fr) ds[j].2.1):=cR (acm (abC @_ p0));rw[BF @_ t.pos,qb @_ p0,v0,v1];grind
 unfold lu AI AG;rw[lZ hi,eg,gd,(gx fw rm dm hp).1];change _+val ε * bo (λd=>cV d * val (tb.getD d.1.toNat (0, 1))) (aO Μ i (.υ k ds))=_;rw[e];change _+val ε * (cV (ds[j].1, ds[j].2.1,[((1, 1):Fr)]) * val (tb.getD ds[j].1.toNat (0, 1))+0)=_;have:cV (ds[j].1, ds[j].2.1,[((1, 1):Fr)])=1:=v1;rw[this];grind
def Lp(h:Λ Μ i=Λ cQ i):lu ε (AI γ Μ) (AG γ Μ) x i=lu ε (AI γ cQ) (AG γ cQ) x i:=by
 let e:∀r,aO Μ i r=aO cQ i r:=λr=>by unfold aO;rw[h]
 let e1:S2 Μ i (fi γ i)=S2 cQ i (fi γ i):=by
  cases fi γ i with
  | fin p=>rfl
  | υ k ds=>show e _
 let e2:T8 Μ i (fi γ i)=T8 cQ i (fi γ i):=by
  cases fi γ i with
  | fin p=>rfl
  | υ k ds=>
   change jf (((aO Μ i (.υ k ds)).map Γ).zip ((aO Μ i (.υ k ds)).map (·.2.1)))=jf (((aO cQ i (.υ k ds)).map Γ).zip ((aO cQ i (.υ k ds)).map (·.2.1)));rw[e]
 unfold lu AI AG;rw[e1,e2]
def vZ.lu(h:vZ ε γ Μ tb)(il:i < -γ):lu ε (AI γ Μ) (AG γ Μ) (λx=>val (tb.getD x (0, 1))) i=val (tb.getD i (0, 1)):=(h.tab.eq i il).symm
end
structure gY(hand rival:Str):Prop where
 h1:Η hand=true
 h2:Η rival=true
 ne:hand≠rival
 two:∀z:Str,Η z=true->z=hand\/z=rival
 sg:fE rival= - fE hand
def gO(h:hand="one"/\rival="other"\/hand="other"/\rival="one"):gY hand rival:=by
 show(?_,?_,?_,λz hz=>?_,?_)
 .rcases h with ⟨rfl,rfl⟩| ⟨rfl,rfl⟩ <;> decide
 .rcases h with ⟨rfl,rfl⟩| ⟨rfl,rfl⟩ <;> decide
 .rcases h with ⟨rfl,rfl⟩| ⟨rfl,rfl⟩ <;> decide
 .unfold Η at hz;rw[Bool.or_eq_true,acH,acH]at hz;rcases h with ⟨rfl,rfl⟩| ⟨rfl,rfl⟩
  .show hz
  .show hz.symm
 .unfold fE;rcases h with ⟨rfl,rfl⟩| ⟨rfl,rfl⟩
  .rw[aa3 @_,aa0 rfl]
  .rw[if_pos rfl,if_neg @_];grind
def MX{k:Str}(h:Η k=true):∃r,gY k r/\gY r k:=by
 unfold Η at h;rw[Bool.or_eq_true,acH,acH]at h;rcases h with h| h
 .show("other",gO (.inl (h,rfl)),gO (.inr (rfl,h)))
 .show("one",gO (.inr (h,rfl)),gO (.inl (rfl,h)))
section
def sP(ε:Fr)(γ:List Rw)(tb:List Fr)(rival:Str)(Μ cQ:Pl)(i:Nat):Prop:=∃ds j j',γ[i]? =!(.υ rival ds)/\Λ Μ i=!((j:Nat):Int)/\Λ cQ i=!((j':Nat):Int)/\j < -ds/\j∉cW ε tb (.υ rival ds)/\j'∈cW ε tb (.υ rival ds)
def oR(fw:FW ε γ X C){k:Str}(hm:Rw.υ k ds∈γ)(hp:∀t,t < -γ->0 < (tb.getD t (0, 1)).2):Red (fN ε tb (.υ k ds))/\∀d∈ds,fE k * val (aa ε tb d)<=fE k * val (fN ε tb (.υ k ds)):=by let l1:=(dR fw.pl hm).l1;let(m,al):=xb (ε:=ε) (tb:=tb) (k:=k) (ds:=ds) (λz=>by rw[z]at l1;show abe l1 @_) λd hd=>(gx fw hm hd hp).2.pos;show(?_,al);let(d,hd,e):=aam.mp m;rw[<-e];show(gx fw hm hd hp).2
def yy{k:Str}{a b:Rat}(h:fE k * a=fE k * b):a=b:=by unfold fE at h;split at h <;> grind
def Mix(ε:Fr)(γ:List Rw)(tb:List Fr)(hand rival:Str)(Μ cQ:Pl)(i:Nat):Prop:=Λ cQ i=Λ Μ i\/sP ε γ tb hand Μ cQ i\/∃ds j j',γ[i]? =!(.υ rival ds)/\Λ Μ i=!((j:Nat):Int)/\Λ cQ i=!((j':Nat):Int)/\j' < -ds/\j∈cW ε tb (.υ rival ds)
def um(fw:FW ε γ X C)(hs:gY hand rival)(Rn:kQ γ cQ)(b1:1<=kN X C)(h:vZ ε γ Μ tb)(h':vZ ε γ cQ mQ)(hd:∀i,i < -γ->Mix ε γ tb hand rival Μ cQ i):(∀i,i < -γ->fE hand * val (tb.getD i (0, 1))<=fE hand * val (mQ.getD i (0, 1)))/\∀i,i < -γ->sP ε γ tb hand Μ cQ i->fE hand * val (tb.getD i (0, 1)) < fE hand * val (mQ.getD i (0, 1)):=by
 let hp:∀t,t < -γ->0 < (tb.getD t (0, 1)).2:=λt ht=>(h.tab.red t ht).pos;let chg:∀i,i < -γ->sP ε γ tb hand Μ cQ i->0 < fE hand * (lu ε (AI γ cQ) (AG γ cQ) (λx=>val (tb.getD x (0, 1))) i - val (tb.getD i (0, 1))):=λi il (ds,j,j',hi,g,g',jl,nb,b)=>by
  let rm:Rw.υ hand ds∈γ:=aap hi;let(x',e'):=(gG hs.h1).mp b;let(lr,al):=oR (tb:=tb) fw rm hp;let gd:ds.getD j d0=ds[j]:=by rw[aab,aaa jl];rfl
  let dm:=aaG jl;rw[oP fw hi hs.h1 g' x' hp,<-h.lu il,oP fw hi hs.h1 g jl hp,e',gd];let le:=al _ dm;let ne:val (aa ε tb ds[j])≠val (fN ε tb (.υ hand ds)):=λz=>nb ((gG hs.h1).mpr (jl,by rw[gd];show AE (gx fw rm dm hp).2 lr z));let ne2:fE hand * val (aa ε tb ds[j])≠fE hand * val (fN ε tb (.υ hand ds)):=λz=>ne (yy z);grind
 let r0:∀i,i < -γ->0<=fE hand * (lu ε (AI γ cQ) (AG γ cQ) (λx=>val (tb.getD x (0, 1))) i - val (tb.getD i (0, 1))):=λi il=>by
  rcases hd i il with e| e| ⟨ds,j,j',hi,g,g',x',b⟩
  .rw[Lp e,h.lu il];grind
  .show Rat.le_of_lt (chg i il e)
  .let rm:Rw.υ rival ds∈γ:=aap hi;let(jl,e):=(gG hs.h2).mp b;let(lr,al):=oR (tb:=tb) fw rm hp;let gd':ds.getD j' d0=ds[j']:=by rw[aab,aaa x'];rfl
   let le:=al _ (aaG x');rw[oP fw hi hs.h2 g' x' hp,<-h.lu il,oP fw hi hs.h2 g jl hp,e,gd'];rw[hs.sg]at le;grind
 let key:=Tab.cmp (fw.sys Rn b1) h'.tab (x:=λx=>val (tb.getD x (0, 1))) (sg:=fE hand) r0;show(λi il=>?_,λi il e=>?_)
 .have:=key i il;have:=r0 i il;grind
 .have:=key i il;have:=chg i il e;grind
def Ig(fw:FW ε γ X C)(hh:Η rival=true)(dk:kQ γ Μ)(Rn:kQ γ cQ)(b1:1<=kN X C)(h:vZ ε γ Μ tb)(h':vZ ε γ cQ mQ)(hd:∀i,i < -γ->Λ cQ i=Λ Μ i\/sP ε γ tb rival Μ cQ i):(∀i,i < -γ->fE rival * val (tb.getD i (0, 1))<=fE rival * val (mQ.getD i (0, 1)))/\∀i,i < -γ->sP ε γ tb rival Μ cQ i->fE rival * val (tb.getD i (0, 1)) < fE rival * val (mQ.getD i (0, 1)):=by let(r,hs,_):=MX hh;show um fw hs Rn b1 h h' λi il=>(hd i il).elim .inl λc=>.inr (.inl c)
def Fc(fw:FW ε γ X C)(hh:Η rival=true)(dk:kQ γ Μ)(Rn:kQ γ cQ)(b1:1<=kN X C)(h:vZ ε γ Μ tb)(h':vZ ε γ cQ mQ)(hd:∀i,i < -γ->Λ cQ i=Λ Μ i\/sP ε γ tb rival Μ cQ i)(il:i < -γ)(hc:sP ε γ tb rival Μ cQ i):C7 ε γ (fE rival) Μ < C7 ε γ (fE rival) cQ:=by
 let(a,b):=Ig fw hh dk Rn b1 h h' hd;unfold C7;show zY (λj hj=>?_) il ?_
 .rw[Aw fw dk b1 h,Aw fw Rn b1 h'];show a j hj
 .rw[Aw fw dk b1 h,Aw fw Rn b1 h'];show b i il hc
end
def Pf{p:Fr}(h:0 < p.2)(a:fb p C):ab (val p)<=(C:Rat):=by
 let e:val p * (p.2:Rat)=p.1:=by
  have:=aR (show p.2≠0 by omega);unfold val;generalize (p.1:Rat)=x at *
  generalize (p.2:Rat)=y at *
  grind
 let p0:(0:Rat) < (p.2:Rat):=acr.mpr h;let a1:(p.1:Rat)<=(p.2:Rat) * (C:Rat):=by rw[<-abu];show ab3.mpr a.1
 let a2: - ((p.2:Rat) * (C:Rat))<=(p.1:Rat):=by rw[<-abu,<-Rat.intCast_neg];show ab3.mpr a.2
 show mK.mpr (?_,?_)
 .by_cases z: - (C:Rat)<=val p
  .show z
  .have:=Rat.mul_pos (show 0 < - (C:Rat) - val p by grind) p0;grind
 .by_cases z:val p<=(C:Rat)
  .show z
  .have:=Rat.mul_pos (show 0 < val p - (C:Rat) by grind) p0;grind
def OV{p:Fr}(h:0 < p.2)(a:ab (val p)<=(C:Rat)):fb p C:=by
 let e:val p * (p.2:Rat)=p.1:=by
  have:=aR (show p.2≠0 by omega);unfold val;generalize (p.1:Rat)=x at *
  generalize (p.2:Rat)=y at *
  grind
 let p0:(0:Rat)<=(p.2:Rat):=ab3.mpr (aar h);let(a1,a2):=mK.mp a;let b1:=acA a1 p0;let b2:=acA a2 p0;constructor
 .apply ab3.mp;rw[Rat.intCast_mul];grind
 .apply ab3.mp;rw[Rat.intCast_neg,Rat.intCast_mul];grind
def Sys.abs{c:Rat}(S:Sys ε n B ws gv)(h:Tab ε n ws gv tb)(s3:1<=1000 * (1 - val ε))(hg:∀i,i < n->ab (val (gv i))<=c):∀i,i < n->ab (val (tb.getD i (0, 1)))<=1000 * c:=λi hi=>by
 let s0:=S.s0;let s1:=S.s1
 have:=Nt (n:=n) (x:=λx=>val (tb.getD x (0, 1))) (c:=c) s1 (λi hi m hm=>by
  let(E,C,p,_):=S.JB i hi;let w:=mK.mp (Fw p.wo () hm);let a:=abK w.1 s0;let b:=abK w.2 s0;let g:=mK.mp (hg i hi);rw[h.eq i hi]
  show mK.mpr (?_,?_) <;> grind) i hi
 let a0:=TQ (val (tb.getD i (0, 1)));have:=abK s3 a0;grind
structure uB(tb:List Fr)(n:Nat):Prop where
 len:-tb=n
 red:∀t∈tb,Red t
 sz:∀t∈tb,t.2 < 2 ^ 1030/\t.1.natAbs < 2 ^ 1150
def vZ.ok(fw:FW ε γ X C)(dk:kQ γ Μ)(b1:1<=kN X C)(h:vZ ε γ Μ tb):uB tb (-γ):=by
 let S:=fw.sys dk b1;let(_,_,_,_,_,s3):=fw.sh;let c1:=fw.c1;let ln:=h.tab.len;let g:∀t∈tb,∃i,i < -γ/\tb.getD i (0, 1)=t:=λt ht=>by let(i,hi,e):=ab2 ht;show(i,(),by rw[aab,aaa hi,e];rfl)
 let ab:=S.abs h.tab s3 (c:=((6 * C:Int):Rat)) λi hi=>by let(E,p,_):=fw.JB dk (rw_at hi);show Pf p.gn.red.pos p.gn.ab
 show(ln,λt ht=>?_,λt ht=>?_)
 .let(i,hi,e):=g t ht;rw[<-e];show h.tab.red i hi
 .let(i,hi,e):=g t ht;let r:=h.tab.red i hi;let b:=h.bot i hi;let a:=ab i hi;rw[e]at r b a;let r0:=r.pos;let a:Pg.ab (val t)<=((1000 * (6 * C):Int):Rat):=by rw[abu];show a
  let(v1,v2):=OV r0 a;show(b,?_);let m:t.2 * (1000 * (6 * C))<=2 ^ 1030 * (1000 * (6 * 10 ^ 30)):=acw (aar b) () (by have:=fw.c9;omega) @_;have:(t.1.natAbs:Int) < ((2 ^ 1150:Nat):Int):=abm (show _<=(2:Int) ^ 1030 * (1000 * (6 * 10 ^ 30)) by omega) @_;show acG.mp this
noncomputable def jV(hand:Str)(pl:Pl):Str->Option Pl:=λz=>if z=hand then !pl else none
abbrev bF(γ:List Rw)(hand:Str)(pl:Pl):Pl:=fj γ (jV hand pl) (-γ)
def cB(γ:List Rw)(rival:Str):List (Int×Nat):=(jy γ rival).map λi:Nat=>((i:Int), -(Ο (fi γ i)))
def Hc{γ:List Rw}:∀{l:List Nat},(∀i∈l,1<=-(Ο (fi γ i)))->Ψ (l.map λi:Nat=>((i:Int), -(Ο (fi γ i)))) (l.map λi:Nat=>((i:Int), (0:Int)))
 | [],_=>trivial
 | i::l,h=>(rfl,Int.le_refl _,by have:=h i aah;omega,Hc λj hj=>h j (aaf _ hj))
section
variable{pl:Pl}
def jI:i∈jy γ rival↔i < -γ/\bM γ i=rival:=by unfold jy;rw[adj,abG,aax]
def pN(fw:FW ε γ X C)(hh:Η rival=true)(h:i∈jy γ rival):∃ds,γ[i]? =!(.υ rival ds)/\Ο (fi γ i)=ds/\1<=-ds:=by
 let(il,e):=jI.mp h;let hi:γ[i]? =!γ[i]:=aaa il;unfold bM at e;rw[hi]at e;let e:kindOf γ[i]=rival:=e;cases hr:γ[i] with
 | fin p=>
  rw[hr]at e;rw[<-e]at hh;show abe hh (by change¬Η (Str.ofString "end")=true;decide)
 | υ k ds=>
  rw[hr]at e hi;let e:k=rival:=e;subst e;show(ds,hi,by rw[lZ hi];rfl,(dR fw.pl (aap hi)).l1)
def nO(fw:FW ε γ X C)(hh:Η rival=true):Ψ (cB γ rival) (gS γ rival):=Hc λi hi=>by let(ds,_,e,l):=pN fw hh hi;rw[e];show l
def dc:(cB γ rival).map (·.1)=(jy γ rival).map λi:Nat=>(i:Int):=by unfold cB;rw[List.map_map];rfl
def aK(h:Ψ (cB γ rival) p):oE p:=by unfold oE;rw[aI h,dc];let nd:(jy γ rival).Nodup:=List.nodup_range.filter _;show List.Pairwise.map _ (λa b Xe z=>Xe (by let z:(a:Int)=(b:Int):=z;omega)) nd
def bY(fw:FW ε γ X C)(hh:Η rival=true)(h:Ψ (cB γ rival) p):(∀ds,γ[i]? =!(.υ rival ds)->∃j:Nat,Λ p i=!(j:Int)/\j < -ds)/\(∀r,γ[i]? =!r->kindOf r≠rival->Λ p i=none):=by
 show(λds hi=>?_,λr hi hk=>?_)
 .let il:=(aai.mp hi).1;let m:i∈jy γ rival:=jI.mpr (il,by unfold bM;rw[hi];rfl);let s:=pS (i:=(i:Int)) (p:=p) (by rw[aI h,dc];show aam.mpr (i,m,rfl));let(v,hv):=aci.mp s;let(c,hc,v0,v1):=pk h hv;unfold cB at hc;let(i',_,e):=aam.mp hc;let e1:(i':Int)=(i:Int):=abq Prod.fst e;let e2:-(Ο (fi γ i'))=c:=abq Prod.snd e;have:i'=i:=()
  subst this;rw[lZ hi]at e2;let e2:-ds=c:=e2;show(v.toNat,by rw[hv,Int.toNat_of_nonneg v0],())
 .show pO λz=>?_;rw[aI h,dc]at z;let(i',m,e):=aam.mp z;have:i'=i:=by let e:(i':Int)=(i:Int):=e;omega
  subst this;have:=(jI.mp m).2;unfold bM at this;rw[hi]at this;show hk this
def T2(fw:FW ε γ X C)(h1:Η hand=true)(h2:Η rival=true)(l7:hand≠rival)(two:∀k:Str,Η k=true->k=hand\/k=rival)(gd:∀i,i < -γ->fX γ (jV hand pl) i=true)(h:Ψ (cB γ rival) p):kQ γ (a_ (bF γ hand pl) p):=by
 let K4:∀(i:Nat) (r:Rw),γ[i]? =!r->kindOf r≠hand->Λ (bF γ hand pl) i=none:=λi r hi hk=>by let il:=(aai.mp hi).1;rw[mj,aa0 il,hi];change Option.map _ (jV hand pl (kindOf r))=none;unfold jV;rw[aa3 hk];rfl
 show(λi r hi hk=>?_,λi r hi hk=>?_)
 .rw[fB (aK h)];rcases two _ hk with e| e
  .let il:=(aai.mp hi).1;rw[(bY (i:=i) fw h2 h).2 r hi (λz=>l7 (e.symm.trans z))];dsimp only;let g:=gd i il;unfold fX at g;rw[hi]at g;let g:mG (jV hand pl) i r=true:=g;let ep:jV hand pl (kindOf r)=!pl:=by unfold jV;rw[if_pos e]
   unfold mG at g;rw[ep]at g;let g:fS pl i (-(Ο r))=true:=g;rw[mj,aa0 il,hi];change∃j:Nat,Option.map (λpl=>(Λ pl i).getD 0) (jV hand pl (kindOf r))=!(j:Int)/\_;rw[ep];unfold fS at g;cases hv:Λ pl i with
   | none=>rw[hv]at g;cases g
   | some v=>
    rw[hv]at g;let g:(decide (0<=v)&&decide (v < (-(Ο r):Int)))=true:=g;rw[aaQ,aax,aax]at g;show(v.toNat,?_,());change (!((Λ pl i).getD 0))=_;rw[hv,Int.toNat_of_nonneg g.1];rfl
  .cases r with
   | fin q=>show abe hk (by change¬Η (Str.ofString "end")=true;decide)
   | υ k ds=>
    let e:k=rival:=e;subst e;let(j,gj,jl):=(bY (i:=i) fw h2 h).1 ds hi;rw[gj];show(j,rfl,jl)
 .rw[fB (aK h),(bY (i:=i) fw h2 h).2 r hi (λz=>by rw[z,h2]at hk;cases hk)];show K4 i r hi λz=>by rw[z,h1]at hk;cases hk
end
section
variable{pl:Pl}
def vM:∀pl:Pl,((Β ε γ tb pl).map (·.1)).Sublist (pl.map (·.1))
 | []=>List.Sublist.refl _
 | a::r=>by
  let ih:=vM r;let e:Β ε γ tb (a::r)=sk ε γ tb a++Β ε γ tb r:=by unfold Β;rw[List.flatMap_cons]
  rw[e,aa9,aa1];unfold sk;split
  .show List.Sublist.cons _ ih
  .show List.Sublist.cons₂ _ ih
def qI(h:oE pl):oE (Β ε γ tb pl):=(vM pl).nodup h
def iM{i:Int}:∀{pl:Pl},oE pl->Λ (Β ε γ tb pl) i=(match Λ pl i with
 | some v=>if C5 (js ε γ tb i) v then none else !(((js ε γ tb i).headD 0:Nat):Int)
 | none=>none)
 | [],_=>rfl
 | a::r,nd=>by
  unfold oE at nd;rw[aa1,aca]at nd;let ih:=iM (i:=i) (pl:=r) nd.2;let e:Β ε γ tb (a::r)=sk ε γ tb a++Β ε γ tb r:=by unfold Β;rw[List.flatMap_cons]
  rw[e];by_cases ei:a.1=i
  .let e2:Λ (a::r) i=!a.2:=by unfold Λ;rw[if_pos ei]
   let hn:Λ (Β ε γ tb r) i=none:=pO λz=>nd.1 (by rw[ei];show gP z);rw[e2];dsimp only;unfold sk;rw[ei];by_cases c:C5 (js ε γ tb i) a.2=true
   .rw[aa0 c,aa0 c,abx,hn]
   .rw[aa3 c,aa3 c];change Λ ((i, (((js ε γ tb i).headD 0:Nat):Int))::Β ε γ tb r) i=_;unfold Λ;rw[aa0 rfl]
  .let e2:Λ (a::r) i=Λ r i:=by rw[Λ,aa3 ei]
   rw[e2,<-ih];unfold sk;split
   .rfl
   .change Λ ((a.1, _)::Β ε γ tb r) i=_;rw[Λ,aa3 ei]
def Bi:∀(q s:Pl),Ψ kc s->(∀e∈q,e.1∈kc.map (·.1)/\∀c,(e.1, c)∈kc->0<=e.2/\e.2 < (c:Int))->Ψ kc (a_ s q)
 | [],s,h,_=>h
 | e::q,s,h,hq=>by let(a,b):=hq e aah;show Bi q (dq s e.1 e.2) (Ku h a b) λx hx=>hq x (aaf _ hx)
def gQ(fw:FW ε γ X C)(hh:Η rival=true)(h:Ψ (cB γ rival) p)(hp:∀t,t < -γ->0 < (tb.getD t (0, 1)).2)(hm:i∈jy γ rival):∃ds j,γ[i]? =!(.υ rival ds)/\Ο (fi γ i)=ds/\Λ p i=!((j:Nat):Int)/\j < -ds/\js ε γ tb i=cW ε tb (.υ rival ds)/\cW ε tb (.υ rival ds)≠[]/\(cW ε tb (.υ rival ds)).headD 0∈cW ε tb (.υ rival ds):=by let(ds,hi,ed,l1):=pN fw hh hm;let(j,gj,jl):=(bY (i:=i) fw hh h).1 ds hi;let rm:Rw.υ rival ds∈γ:=aap hi;let ne:cW ε tb (.υ rival ds)≠[]:=Oc hh (λz=>by rw[z]at l1;show abe l1 @_) λd hd=>(gx fw rm hd hp).2.pos;show(ds,j,hi,ed,gj,jl,by unfold js;rw[Int.toNat_natCast,hi],ne,?_);let(b,bs,e):=ab5 ne;rw[e];show aah
def eW(fw:FW ε γ X C)(hh:Η rival=true)(h:Ψ (cB γ rival) p)(hp:∀t,t < -γ->0 < (tb.getD t (0, 1)).2):Ψ (cB γ rival) (a_ p (Β ε γ tb p)):=by
 show Bi _ _ h λe he=>?_;let ke:e.1∈p.map (·.1):=gP (aam.mpr (e,he,rfl));let kk:=ke;rw[aI h]at kk;rw[aI h,dc]at ke;let(i,hm,ei):=aam.mp ke;let(ds,j,hi,ed,gj,jl,eb,ne,hd):=gQ fw hh h hp hm;show(kk,λc hc=>?_);let c1:c=-ds:=by
  unfold cB at hc;let(i',_,e'):=aam.mp hc;let e1:(i':Int)=e.1:=abq Prod.fst e';let e2:-(Ο (fi γ i'))=c:=abq Prod.snd e';have:i'=i:=by let ei:(i:Int)=e.1:=ei;omega
  subst this;rw[<-e2,ed]
 let gb:=iM (ε:=ε) (γ:=γ) (tb:=tb) (i:=e.1) (aK h);let nb:=qI (ε:=ε) (γ:=γ) (tb:=tb) (aK h);let ge:Λ (Β ε γ tb p) e.1=!e.2:=by
  have:∀{l:Pl},oE l->e∈l->Λ l e.1=!e.2:=λ{l}=>by
   induction l with
   | nil=>intro _ z;cases z
   | cons a l ih=>
    intro nl hm;unfold oE at nl;rw[aa1,aca]at nl;unfold Λ;rcases abg.mp hm with y| y
    .rw[aa0 (by rw[y]),y]
    .rw[aa3 λz=>nl.1 (by rw[z];show aam.mpr (e,y,rfl))];show ih nl.2 y
  show this nb he
 let ei:e.1=(i:Int):=ei.symm;rw[ge,ei,gj,eb]at gb;dsimp only at gb;split at gb
 .cases gb
 .let gb:=aaC gb;have:=((gG hh).mp hd).1;omega
def pX(fw:FW ε γ X C)(hh:Η rival=true)(h:Ψ (cB γ rival) p)(hp:∀t,t < -γ->0 < (tb.getD t (0, 1)).2)(hb:Pl):∀i,i < -γ->Λ (a_ hb (a_ p (Β ε γ tb p))) i=Λ (a_ hb p) i\/sP ε γ tb rival (a_ hb p) (a_ hb (a_ p (Β ε γ tb p))) i:=λi il=>by
 let h':=eW (tb:=tb) fw hh h hp;let gb:=iM (ε:=ε) (γ:=γ) (tb:=tb) (i:=(i:Int)) (aK h);let g1:=fB (i:=(i:Int)) (p:=p) (qI (ε:=ε) (γ:=γ) (tb:=tb) (aK h));let g2:=fB (i:=(i:Int)) (p:=hb) (aK h');let g3:=fB (i:=(i:Int)) (p:=hb) (aK h);by_cases hm:i∈jy γ rival
 .let(ds,j,hi,ed,gj,jl,eb,ne,hd):=gQ fw hh h hp hm;rw[gj,eb]at gb;dsimp only at gb;by_cases c:C5 (cW ε tb (.υ rival ds)) (j:Int)=true
  .rw[aa0 c]at gb;rw[gb]at g1;left;rw[g2,g3,g1]
  .rw[aa3 c]at gb;rw[gb]at g1;right;show(ds,j,_,hi,by rw[g3,gj],by rw[g2,g1],jl,λz=>c (Ac.mpr (j,z,rfl)),hd)
 .let hi:γ[i]? =!γ[i]:=aaa il;let gn:=(bY (i:=i) fw hh h).2 γ[i] hi λz=>hm (jI.mpr (il,by unfold bM;rw[hi];show z));rw[gn]at gb;let gb:Λ (Β ε γ tb p) i=none:=gb;rw[gb]at g1;left;rw[g2,g3,g1]
def k4(fw:FW ε γ X C)(hh:Η rival=true)(h:Ψ (cB γ rival) p)(hp:∀t,t < -γ->0 < (tb.getD t (0, 1)).2)(hb:Pl)(ne:Β ε γ tb p≠[]):∃i,i < -γ/\sP ε γ tb rival (a_ hb p) (a_ hb (a_ p (Β ε γ tb p))) i:=by
 let(e,r,er):=ab5 ne;let he:e∈Β ε γ tb p:=by rw[er];show aah
 let ke:e.1∈p.map (·.1):=gP (aam.mpr (e,he,rfl));rw[aI h,dc]at ke;let(i,hm,ei):=aam.mp ke;let ei:(i:Int)=e.1:=ei;let il:=(jI.mp hm).1;show(i,il,?_);let h':=eW (tb:=tb) fw hh h hp;let(ds,j,hi,ed,gj,jl,eb,ne',hd):=gQ fw hh h hp hm;let gb:=iM (ε:=ε) (γ:=γ) (tb:=tb) (i:=(i:Int)) (aK h);let s:(Λ (Β ε γ tb p) (i:Int)).isSome=true:=pS (aam.mpr (e,he,ei.symm));rw[gj,eb]at gb;dsimp only at gb;by_cases c:C5 (cW ε tb (.υ rival ds)) (j:Int)=true
 .rw[aa0 c]at gb;rw[gb]at s;cases s
 .rw[aa3 c]at gb;let g1:=fB (i:=(i:Int)) (p:=p) (qI (ε:=ε) (γ:=γ) (tb:=tb) (aK h));rw[gb]at g1;show(ds,j,_,hi,by rw[fB (aK h),gj],by rw[fB (aK h'),g1],jl,λz=>c (Ac.mpr (j,z,rfl)),hd)
def uS(fw:FW ε γ X C)(hh:Η rival=true)(h:Ψ (cB γ rival) p)(hp:∀t,t < -γ->0 < (tb.getD t (0, 1)).2)(e:Β ε γ tb p=[])(hi:γ[i]? =!(.υ rival ds))(gj:Λ p i=!(j:Int)):j∈cW ε tb (.υ rival ds):=by
 let il:=(aai.mp hi).1;let hm:i∈jy γ rival:=jI.mpr (il,by unfold bM;rw[hi];rfl);let(oB,j',v8,_,Ra,_,eb,_,_):=gQ (tb:=tb) fw hh h hp hm;rw[hi]at v8;cases v8;let gb:=iM (ε:=ε) (γ:=γ) (tb:=tb) (i:=(i:Int)) (aK h);rw[e,gj,eb]at gb;dsimp only at gb;split at gb
 .rename_i c;let(b,hb,y):=Ac.mp c;have:b=j:=()
  rw[<-this];show hb
 .cases gb
end
def vZ.flg(fw:FW ε γ X C)(dk:kQ γ Μ)(b1:1<=kN X C)(h:vZ ε γ Μ tb):MR ε γ tb:=by
 let ok:=h.ok fw dk b1;show(fw.pl.sh,fw.pl.len,fw.pl.row,ok.len,λt ht=>((ok.sz t ht).2,(ok.red t ht).pos,?_));have:(t.2.natAbs:Int) < ((2 ^ 1150:Nat):Int):=by rw[ab8 (aar (ok.red t ht).pos)];show adi (ok.sz t ht).1 @_
 show acG.mp this
def FQ{k:Nat}(h:M[k]? =!(dP pl)):Ue (M++[.c_ [Sum.inr hand] [.loc k]]) (-M) (jV hand pl):=by
 show(_,_,aA,λz=>(?_,λq e=>?_))
 .unfold jV;change(decide ((Sum.inr hand:Key)=Sum.inr z)|| false)=_;rw[Bool.or_false];by_cases y:z=hand
  .rw[aa0 y,aa2 (by rw[y])];rfl
  .rw[aa3 y,aa6 λx=>y (Sum.inr.inj x).symm];rfl
 .unfold jV at e;split at e
  .rename_i y;cases e;subst y;show(k,?_,Ω h);change((List.zip [Sum.inr z] [Dt.loc k]).find? _).map _=_;simp[List.zip]
  .cases e
set_option tactic.hygienic false
def Cc(A:Addr):DF:=λas M q _=>∃(ε:Fr) (γ:List Rw) (hand rival:Str) (k:Nat) (pl:Pl) (X C:Int),as=[ax A ε γ,.str hand,.loc k]/\M[k]? =!(dP pl)/\(hand="one"/\rival="other"\/hand="other"/\rival="one")/\FW ε γ X C/\kN X C<=2 ^ 450/\(12 * kN X C) ^ (-γ) < 2 ^ 1030/\1<=kN X C/\(∀i,i < -γ->fX γ (jV hand pl) i=true)/\∀(p:Pl) (tb:List Fr) (E':Ms) (kt:Nat),Ψ (cB γ rival) p->vZ ε γ (a_ (bF γ hand pl) p) tb->Β ε γ tb p=[]->-M+3<=kt->(M++[.c_ [Sum.inr hand] [.loc k],dP (bF γ hand pl),dP p]++E')[kt]? =!(.lst (tb.map Ξ))->q (.tup [.loc (-M+2),.loc kt]) (M++[.c_ [Sum.inr hand] [.loc k],dP (bF γ hand pl),dP p]++E')
def fP:Δ ["floor","hand","plan","held","answer","table","better"] ["floor","hand","plan"] (τ ug):=.of rfl
def D5(F:cz K "against" "against" ug f fd)(E:Ev K mg w Cm)(h8:aq P w K mg base 4 "doors_of" ["floor","plans"] (uh Cm) vq uo)(fc:aq P w K mg base 3 "first_plan" ["floor","hand"] (yW Cm) nR nC)(eG:aq P w K mg base 8 "worths_against" ["floor","held","answer"] (Wa Cm) ur uH)(cc:aq P w K mg base 8 "better_doors" ["floor","plan","table"] (z7 Cm) jY ko):ao P w K mg base (bO P w) 9 f fd ["floor","hand","plan"] (b8 K (Cc Cm)):=by
 show F.de fP (λds M q x h=>?_) (λaQ A outer s H E' hr=>(_,(ζ (χ 3 fP.nd (Φ h8 hr ν (Ν (jv 0) (ι (AL (jv 1) (jv 2)) θ))))
   (ζ (χ 4 fP.nd (Φ fc hr ν (Ν (jv 0) (ι (UK E.mI (jv 1)) θ aw))))
   (ζ (χ 5 fP.nd (Φ eG hr ν (Ν (jv 0) (Ν (jv 3) (Ν (jv 4) θ)))))
   (ζ (χ 6 fP.nd (Φ cc hr ν (Ν (jv 0) (Ν (jv 4) (Ν (jv 5) θ)))))
   (ζ (oS (A4 (E4 E.bb (Ν (jv 6) θ)) ξ) (ζ (eI (E5 (jv 4) (jv 6)))
   (ζ (χ 5 fP.nd (Φ eG hr ν (Ν (jv 0) (Ν (jv 3) (Ν (jv 4) θ)))))
   (μ (χ 6 fP.nd (Φ cc hr ν (Ν (jv 0) (Ν (jv 4) (Ν (jv 5) θ)))))))))
   (μ (ψ (fe (Ν (jv 4) (Ν (jv 5) θ)))))))))),λds M q x h=>?_))
 .let(ε,γ,hand,rival,k,pl,X,C,rfl,_):=h;rfl
 .let(ε,γ,hand,rival,k,pl,X,C,rfl,hk,fF,fw,kL,v7,b1,gd,h):=h;let lV:=fw.pl.len;let lk:List.lookup hand [(Str.ofString "one", Str.ofString "other"),(Str.ofString "other", Str.ofString "one"),(Str.ofString "chance", Str.ofString "chance")]=!rival:=by rcases fF with ⟨rfl,rfl⟩| ⟨rfl,rfl⟩ <;> decide
  let h1:Η hand=true:=by rcases fF with ⟨rfl,rfl⟩| ⟨rfl,rfl⟩ <;> decide
  let h2:Η rival=true:=by rcases fF with ⟨rfl,rfl⟩| ⟨rfl,rfl⟩ <;> decide
  let l7:hand≠rival:=by rcases fF with ⟨rfl,rfl⟩| ⟨rfl,rfl⟩ <;> decide
  let two:∀z:Str,Η z=true->z=hand\/z=rival:=λz hz=>by
   unfold Η at hz;rw[Bool.or_eq_true,acH,acH]at hz;rcases fF with ⟨rfl,rfl⟩| ⟨rfl,rfl⟩
   .show hz
   .show hz.symm
  let R_:∀{p},Ψ (cB γ rival) p->kQ γ (a_ (bF γ hand pl) p):=λhp=>T2 fw h1 h2 l7 two gd hp;let Iy:∀{p},Ψ (cB γ rival) p->-p<=12:=λ{p} hp=>by have:=abq List.length (aI hp);rw[aae,dc,aae]at this;let l:=acZ (λi=>decide (bM γ i=rival)) (List.range (-γ));rw[abJ]at l;let l:-(jy γ rival)<=-γ:=l;omega
  let hlen:-(bF γ hand pl)<=12:=aaF (yn γ _ _) lV;walk_at "vc";dsimp only[EU,WN];walk_at "vc";show(Sum.inr hand,rfl,?_);show(ε,γ,-M,jV hand pl,rfl,FQ hk,fw.pl,gd,?_);show(hand,rival,rfl,lk,?_);show(ε,γ,rival,rfl,lV,?_);obtain⟨CZ,hd0⟩:∃d:MO,d=MO.c_ [Sum.inr hand] [Dt.loc k]:=(_,rfl);rw[<-hd0]at h⊢;dsimp only[bF]at h R_ hlen;generalize ac2:fj γ (jV hand pl) (-γ)=held at *
  let B3:∀p:Pl,M++[CZ]++[dP held]++[dP p]=M++[CZ,dP held,dP p]:=λp=>by simp
  let kh1:-(M++[CZ])=-M+1:=by simp
  let ka1:-(M++[CZ]++[dP held])=-M+2:=by simp
  rw[kh1,ka1,B3];let atH:∀(p:Pl) (E:Ms),(M++[CZ,dP held,dP p]++E)[-M+1]? =!(dP held):=λp E=>Ω (by rw[aay (),show -M+1 - -M=1 by omega];rfl);let Um:∀(p:Pl) (E:Ms),(M++[CZ,dP held,dP p]++E)[-M+2]? =!(dP p):=λp E=>Ω (by rw[aay (),show -M+2 - -M=2 by omega];rfl);let f0:=nO fw h2;generalize gS γ rival=p0 at *
  let gp:∀{p:Pl} {tb:List Fr},vZ ε γ (a_ held p) tb->∀t,t < -γ->0 < (tb.getD t (0, 1)).2:=λwt t ht=>(wt.tab.red t ht).pos;let bok:∀{p:Pl} {tb:List Fr},Ψ (cB γ rival) p->vZ ε γ (a_ held p) tb->∀e∈p,0<=e.1/\∃r,γ[e.1.toNat]? =!r/\Η (kindOf r)=true/\cW ε tb r≠[]:=λ{p tb} hp wt e he=>by let ke:e.1∈p.map (·.1):=aam.mpr (e,he,rfl);rw[aI hp,dc]at ke;let(i,hm,ei):=aam.mp ke;let ei:(i:Int)=e.1:=ei;let(ds,j,hi,_,_,_,_,ne,_):=gQ fw h2 hp (gp wt) hm;show((),.υ rival ds,by rw[<-ei,acs];show hi,h2,ne)
  let kTb:∀{p:Pl} {E:Ms},-(M++[CZ,dP held,dP p]++E)+1=-M+4+-E:=by intro p E;rw[aak,aak];change -M+3+-E+1=_;omega
  let atT:∀(p:Pl) (E:Ms) (m:MO) (tb:List Fr),(M++[CZ,dP held,dP p]++(E++[m,.lst (tb.map Ξ)]))[-M+4+-E]? =!(.lst (tb.map Ξ)):=λp E m tb=>by rw[aay (by rw[aak];change -M+3<=_;omega),aay (by rw[aak];change -E<=-M+4+-E - (-M+3);omega)];rw[aak];change[m,MO.lst (tb.map Ξ)][-M+4+-E - (-M+3) - -E]? =_;rw[show -M+4+-E - (-M+3) - -E=1 by omega];rfl
  let e0:M++[CZ,dP held,dP p0]=M++[CZ,dP held,dP p0]++[]:=(abw _).symm;rw[e0];show(ε,γ,-M+1,-M+2,held,p0,X,C,rfl,atH p0 [],Um p0 [],by have:=Iy f0;omega,R_ f0,fw,kL,v7,λUc wt0=>?_);rw[kTb,abv (M++[CZ,dP held,dP p0])];show(ε,γ,Uc,.loc _,-M+2,p0,rfl,Um p0 _,wt0.flg fw (R_ f0) b1,eN (atT p0 [] _ Uc),aK f0,Iy f0,bok f0 wt0,?_);let Zn:∀(p p':Pl) (E:Ms),(M++[CZ,dP held,dP p]++E).set (-M+2) (dP p')=M++[CZ,dP held,dP p']++E:=λp p' E=>by rw[abv,abv,List.set_append_right (h:=by omega),show -M+2 - -M=2 by omega];rfl
  let l3:∀(p:Pl) (E:Ms),-M+3<=-(M++[CZ,dP held,dP p]++E):=λp E=>by rw[aak,aak];change -M+3<=-M+3+-E;omega
  let YR:∀{p:Pl} {tb:List Fr},Ψ (cB γ rival) p->-(Β ε γ tb p)<=12:=λhp=>aaF (j8 _) (Iy hp);show⟨λm ρ' M'=>∃(p:Pl) (tb:List Fr) (E1:Ms) (kb kt:Nat),Ψ (cB γ rival) p/\vZ ε γ (a_ held p) tb/\above ε γ (fE rival) (a_ held) (cB γ rival) p=m/\M'=M++[CZ,dP held,dP p]++E1/\M'[kb]? =!(dP (Β ε γ tb p))/\-M+3<=kb/\-M+3<=kt/\M'[kt]? =!(.lst (tb.map Ξ))/\ρ'=[!(ax Cm ε γ),!(.str hand),!(.loc k),!(.loc (-M+1)),!(.loc (-M+2)),!(.loc kt),!(.loc kb)],(_,p0,Uc,[]++[dP (a_ held p0),.lst (Uc.map Ξ)]++[dP (Β ε γ Uc p0)],_,_,f0,wt0,rfl,by simp only[List.append_assoc],aA,l3 p0 _,by change -M+3<=-M+4+0;omega,Ω (atT p0 [] _ Uc),rfl),λm ρ' M' hw=>?_⟩;let(p,tb,E1,kb,kt,fp,wt,hm,rfl,VF,kb3,kt3,hkt,rfl):=hw;walk_at "vc";show(kb,_,_,rfl,VF,?_);let kl:-(kP (Β ε γ tb p))=-(Β ε γ tb p):=by unfold kP;rw[List.length_map]
  rw[kl];show(λz=>(_,λρ2 M2 hn=>hn,?_),λz=>?_)
  .let z:(0:Int) < (-(Β ε γ tb p):Int):=aan z;let ne:Β ε γ tb p≠[]:=λy=>by rw[y]at z;show abe z @_
   let pV:=eW (tb:=tb) fw h2 fp (gp wt);let hd:=pX fw h2 fp (gp wt) held;let(i,il,hc):=k4 fw h2 fp (gp wt) held ne;dsimp only[KH,GI];walk_at "vc";show((-M+2,_,_,rfl,Um p E1),-M+2,kb,_,_,_,_,rfl,rfl,(),Um p E1,VF,by rw[kl];have:=Iy fp;have:=YR (tb:=tb) fp;unfold kP;rw[List.length_map];omega,?_);rw[Gw,Ge,Zn];generalize a_ p (Β ε γ tb p)=p' at *
   show(ε,γ,-M+1,-M+2,held,p',X,C,rfl,atH p' E1,Um p' E1,by have:=Iy pV;omega,R_ pV,fw,kL,v7,λmQ XZ=>?_);rw[kTb,abv (M++[CZ,dP held,dP p'])];show(ε,γ,mQ,.loc _,-M+2,p',rfl,Um p' _,XZ.flg fw (R_ pV) b1,eN (atT p' E1 _ mQ),aK pV,Iy pV,bok pV XZ,?_);show(_,?_,p',mQ,E1++[dP (a_ held p'),.lst (mQ.map Ξ)]++[dP (Β ε γ mQ p')],_,_,pV,XZ,rfl,by simp only[List.append_assoc],aA,l3 p' _,(),Ω (atT p' E1 _ mQ),rfl);rw[<-hm];show Lj pV (Fc fw h2 (R_ fp) (R_ pV) b1 wt XZ hd il hc)
  .let z:¬(0:Int) < (-(Β ε γ tb p):Int):=aba z;let e:Β ε γ tb p=[]:=ace.mp ();show(k3,h p tb E1 kt fp wt e kt3 hkt)
set_option tactic.hygienic true
section
variable{pa p' S_:Pl}
set_option tactic.hygienic false
def iW(fw:FW ε γ X C)(hs:gY hand rival)(fp:Ψ (cB γ hand) p)(fa:Ψ (cB γ rival) pa)(hi:γ[i]? =!r):(kindOf r=hand->Λ (a_ (bF γ hand p) pa) i=Λ p i)/\(kindOf r=rival->Λ (a_ (bF γ hand p) pa) i=Λ pa i)/\(Η (kindOf r)=false->Λ (a_ (bF γ hand p) pa) i=none):=by
 let il:=(aai.mp hi).1;let g:=fB (i:=(i:Int)) (p:=bF γ hand p) (aK fa);let hh:Λ (bF γ hand p) i=((jV hand p (kindOf r)).map λpl=>(Λ pl i).getD 0):=by rw[mj,aa0 il,hi];rfl
 show(λe=>?_,λe=>?_,λe=>?_)
 .rw[g,(bY (i:=i) fw hs.h2 fa).2 r hi λz=>hs.ne (e.symm.trans z)];change Λ (bF γ hand p) i=_;rw[hh];cases r with
  | fin q=>show abe (show Η (Str.ofString "end")=true by rw[<-hs.h1,<-e];rfl) @_
  | υ k ds=>
   let e:k=hand:=e;subst e;let(j,gj,_):=(bY (i:=i) fw hs.h1 fp).1 ds hi;have:jV k p (kindOf (.υ k ds))=!p:=aa0 rfl;rw[this];change (!((Λ p i).getD 0))=Λ p i;rw[gj];rfl
 .cases r with
  | fin q=>show abe (show Η (Str.ofString "end")=true by rw[<-hs.h2,<-e];rfl) @_
  | υ k ds=>
   let e:k=rival:=e;subst e;let(j,gj,_):=(bY (i:=i) fw hs.h2 fa).1 ds hi;rw[g,gj]
 .rw[g,(bY (i:=i) fw hs.h2 fa).2 r hi (λz=>by rw[z,hs.h2]at e;cases e)];change Λ (bF γ hand p) i=_;rw[hh];have:jV hand p (kindOf r)=none:=aa3 λz=>by rw[z,hs.h1]at e;cases e
  rw[this];rfl
def HA(ε:Fr)(γ:List Rw)(hand rival:Str)(p pa:Pl)(tb:List Fr):Prop:=Ψ (cB γ rival) pa/\vZ ε γ (a_ (bF γ hand p) pa) tb/\Β ε γ tb pa=[]
def sU{q:Pl}(nd:oE q)(i:Int):Λ (a_ [] q) i=Λ q i:=by rw[fB nd];cases Λ q i <;> rfl
def pE(fw:FW ε γ X C)(hs:gY hand rival)(fp:Ψ (cB γ hand) p)(b:HA ε γ hand rival p pa tb)(fa':Ψ (cB γ rival) S_)(pV:Ψ (cB γ hand) p')(hb:∀i,i < -γ->Λ p' i=Λ p i\/sP ε γ tb hand p p' i):∀i,i < -γ->Mix ε γ tb hand rival (a_ (bF γ hand p) pa) (a_ (bF γ hand p') S_) i:=λi il=>by
 let(fa,wt,be):=b;let hp:∀t,t < -γ->0 < (tb.getD t (0, 1)).2:=λt ht=>(wt.tab.red t ht).pos;let hi:γ[i]? =!γ[i]:=aaa il;generalize γ[i]=r at *
 let(a1,a2,a3):=iW (i:=i) fw hs fp fa hi;let(c1,c2,c3):=iW (i:=i) fw hs pV fa' hi;cases hk:Η (kindOf r) with
 | false=>left;rw[a3 hk,c3 hk]
 | true=>
  rcases hs.two _ hk with e| e
  .rcases hb i il with z| ⟨ds,j,j',v8,g,g',jl,nb,b⟩
   .left;rw[a1 e,c1 e,z]
   .right;left;show(ds,j,j',v8,by rw[a1 e];show g,by rw[c1 e];show g',jl,nb,b)
  .right;right;cases r with
   | fin q=>show abe hk (by change¬Η (Str.ofString "end")=true;decide)
   | υ k ds=>
    let e':k=rival:=e;subst e';let(j,gj,jl):=(bY (i:=i) fw hs.h2 fa).1 ds hi;let(j',Ra,x'):=(bY (i:=i) fw hs.h2 fa').1 ds hi;show(ds,j,j',hi,by rw[a2 rfl,gj],by rw[c2 rfl,Ra],x',uS fw hs.h2 fa hp be hi gj)
def mr(fw:FW ε γ X C)(hs:gY hand rival)(fp:Ψ (cB γ hand) p)(fa:Ψ (cB γ rival) pa):kQ γ (a_ (bF γ hand p) pa):=by
 show(λi r hi hk=>?_,λi r hi hk=>(iW fw hs fp fa hi).2.2 hk);let(a1,a2,_):=iW (i:=i) fw hs fp fa hi;cases r with
 | fin q=>show abe hk (by change¬Η (Str.ofString "end")=true;decide)
 | υ k ds=>
  rcases hs.two _ hk with e| e
  .let e':k=hand:=e;subst e';rw[a1 rfl];show(bY (i:=i) fw hs.h1 fp).1 ds hi
  .let e':k=rival:=e;subst e';rw[a2 rfl];show(bY (i:=i) fw hs.h2 fa).1 ds hi
noncomputable def QT(ε:Fr)(γ:List Rw)(hand rival:Str)(p:Pl)(i:Nat):Rat:=open Classical in if h:∃tb,∃pa,HA ε γ hand rival p pa tb then val (h.choose.getD i (0, 1)) else 0
def Gp(fw:FW ε γ X C)(hs:gY hand rival)(b1:1<=kN X C)(fp:Ψ (cB γ hand) p)(b:HA ε γ hand rival p pa tb)(il:i < -γ):QT ε γ hand rival p i=val (tb.getD i (0, 1)):=by
 let ex:∃tb,∃pa,HA ε γ hand rival p pa tb:=(tb,pa,b);unfold QT;rw[dif_pos ex];let(S_,b'):=ex.choose_spec;generalize ex.choose=mQ at *
 let u:=(um fw hs (mr fw hs fp b'.1) b1 b.2.1 b'.2.1 (pE fw hs fp b b'.1 fp λ_ _=>.inl rfl)).1 i il;let v:=(um fw hs (mr fw hs fp b.1) b1 b'.2.1 b.2.1 (pE fw hs fp b' b.1 fp λ_ _=>.inl rfl)).1 i il;show yy (k:=hand) (Rat.le_antisymm v u)
noncomputable def ki(ε:Fr)(γ:List Rw)(hand rival:Str)(p:Pl):Nat:=open Classical in (fG (cB γ hand)).countP λq=>decide (dU (λi=>fE hand * QT ε γ hand rival p i) (-γ) < dU (λi=>fE hand * QT ε γ hand rival q i) (-γ))
def PR(fw:FW ε γ X C)(hs:gY hand rival)(b1:1<=kN X C)(fp:Ψ (cB γ hand) p)(b:HA ε γ hand rival p pa tb)(ne:Β ε γ tb p≠[])(b':HA ε γ hand rival (a_ p (Β ε γ tb p)) S_ mQ):ki ε γ hand rival (a_ p (Β ε γ tb p)) < ki ε γ hand rival p:=by
 let hp:∀t,t < -γ->0 < (tb.getD t (0, 1)).2:=λt ht=>(b.2.1.tab.red t ht).pos;let pV:=eW (tb:=tb) fw hs.h1 fp hp;let n1:=sU (aK fp);let n2:=sU (aK pV);let cut:∀i,sP ε γ tb hand (a_ [] p) (a_ [] (a_ p (Β ε γ tb p))) i->sP ε γ tb hand p (a_ p (Β ε γ tb p)) i:=λi (ds,j,j',hi,g,g',r)=>(ds,j,j',hi,by rw[<-n1];show g,by rw[<-n2];show g',r);let hb:∀i,i < -γ->Λ (a_ p (Β ε γ tb p)) i=Λ p i\/sP ε γ tb hand p (a_ p (Β ε γ tb p)) i:=λi il=>by
  rcases pX fw hs.h1 fp hp [] i il with e| e
  .left;rw[<-n1,<-n2];show e
  .show .inr (cut i e)
 let(i,il,hc):=k4 fw hs.h1 fp hp [] ne;let mm:=pE fw hs fp b b'.1 pV hb;let(u,v):=um fw hs (mr fw hs pV b'.1) b1 b.2.1 b'.2.1 mm;let tI:sP ε γ tb hand (a_ (bF γ hand p) pa) (a_ (bF γ hand (a_ p (Β ε γ tb p))) S_) i:=by let(ds,j,j',hi,g,g',r):=cut i hc;show(ds,j,j',hi,by rw[(iW fw hs fp b.1 hi).1 rfl];show g,by rw[(iW fw hs pV b'.1 hi).1 rfl];show g',r)
 let lt:dU (λi=>fE hand * QT ε γ hand rival p i) (-γ) < dU (λi=>fE hand * QT ε γ hand rival (a_ p (Β ε γ tb p)) i) (-γ):=by
  show zY (λj hj=>?_) il ?_
  .rw[Gp fw hs b1 fp b hj,Gp fw hs b1 pV b' hj];show u j hj
  .rw[Gp fw hs b1 fp b il,Gp fw hs b1 pV b' il];show v i il tI
 unfold ki;show z_ (λa _ ha=>?_) (oM pV) (decide_eq_true lt) (decide_eq_false (by grind));have:=aan ha;show decide_eq_true (by grind)
end
section
variable{pa:Pl}
set_option tactic.hygienic false
def qw(fw:FW ε γ X C)(hh:Η hand=true)(fp:Ψ (cB γ hand) p):∀i,i < -γ->fX γ (jV hand p) i=true:=λi il=>by
 let hi:γ[i]? =!γ[i]:=aaa il;generalize γ[i]=r at *
 unfold fX;rw[hi];change mG (jV hand p) i r=true;unfold mG jV;by_cases e:kindOf r=hand
 .rw[aa0 e];cases r with
  | fin q=>show abe (show Η (Str.ofString "end")=true by rw[<-hh,<-e];rfl) @_
  | υ k ds=>
   let e:k=hand:=e;subst e;let(j,gj,jl):=(bY (i:=i) fw hh fp).1 ds hi;change fS p i (-ds)=true;unfold fS;rw[gj];change(decide (0<=(j:Int))&&decide ((j:Int) < (-ds:Int)))=true;rw[aa2 (show 0<=(j:Int) by omega),aa2 (show(j:Int) < (-ds:Int) by omega)];rfl
 .rw[aa3 e]
def Mo:ki ε γ hand rival p<=-(fG (cB γ hand)):=List.countP_le_length
def pj(fp:Ψ (cB γ hand) p):-p<=-γ:=by have:=abq List.length (aI fp);rw[aae,dc,aae]at this;let l:=acZ (λi=>decide (bM γ i=hand)) (List.range (-γ));rw[abJ]at l;let l:-(jy γ hand)<=-γ:=l;omega
def PN(fw:FW ε γ X C)(hh:Η hand=true)(fp:Ψ (cB γ hand) p)(hp:∀t,t < -γ->0 < (tb.getD t (0, 1)).2):∀e∈p,0<=e.1/\∃r,γ[e.1.toNat]? =!r/\Η (kindOf r)=true/\cW ε tb r≠[]:=λe he=>by let ke:e.1∈p.map (·.1):=aam.mpr (e,he,rfl);rw[aI fp,dc]at ke;let(i,hm,ei):=aam.mp ke;let ei:(i:Int)=e.1:=ei;let(ds,j,hi,_,_,_,_,ne,_):=gQ fw hh fp hp hm;show((),.υ hand ds,by rw[<-ei,acs];show hi,hh,ne)
def yg{v:Nat->Int}:∀{l:List Nat},(∀i∈l,0<=v i/\v i < (-(Ο (fi γ i)):Int))->Ψ (l.map λi:Nat=>((i:Int), -(Ο (fi γ i)))) (l.map λi:Nat=>((i:Int), v i))
 | [],_=>trivial
 | i::l,h=>(rfl,(h i aah).1,(h i aah).2,yg λj hj=>h j (aaf _ hj))
def xM:∀n,n<=-γ->fj γ (jV hand p) n=((List.range n).filter λi=>decide (bM γ i=hand)).map λi:Nat=>((i:Int), (Λ p i).getD 0)
 | 0,_=>rfl
 | n+1,h=>by
  let ih:=xM n ();let hi:γ[n]? =!γ[n]:=aaa ();let gn:Λ (fj γ (jV hand p) n) n=none:=by rw[mj,aa3 (acn _)]
  rw[acX,List.filter_append,aa9,<-ih];generalize γ[n]=r at *
  let ek:bM γ n=kindOf r:=by unfold bM;rw[hi]
  let e1:fj γ (jV hand p) (n+1)=match jV hand p (kindOf r) with| some pl=>dq (fj γ (jV hand p) n) n ((Λ pl n).getD 0)| none=>fj γ (jV hand p) n:=by change(match (γ[n]?).bind λr=>jV hand p (kindOf r) with| some pl=>_| none=>_)=_;rw[hi];rfl
  rw[e1];unfold jV;by_cases e:kindOf r=hand
  .rw[aa0 e,acD (by rw[ek];show aa2 e)];change dq (fj γ (jV hand p) n) n _=_;unfold dq;rw[gn];rfl
  .rw[aa3 e,acF (by rw[ek];exactλz=>e (aan z))];change fj γ (jV hand p) n=fj γ (jV hand p) n++[];rw[abw]
def ye(fw:FW ε γ X C)(hh:Η hand=true)(gd:∀i,i < -γ->fX γ (jV hand p) i=true):Ψ (cB γ hand) (bF γ hand p):=by
 unfold bF;rw[xM (-γ) (aaq _)];show yg λi hi=>?_;let(h1,h2):=adj.mp hi;let il:=abG.mp h1;let hr:=rw_at il;let h2:bM γ i=hand:=aan h2;let g:=gd i il;generalize fi γ i=r at *
 unfold bM at h2;rw[hr]at h2;let h2:kindOf r=hand:=h2;unfold fX at g;rw[hr]at g;let g:mG (jV hand p) i r=true:=g;unfold mG jV at g;rw[aa0 h2]at g;let g:fS p i (-(Ο r))=true:=g;unfold fS at g;cases e:Λ p i with
 | none=>rw[e]at g;cases g
 | some v=>
  rw[e]at g;let g:(decide (0<=v)&&decide (v < (-(Ο r):Int)))=true:=g;rw[aaQ,aax,aax]at g;show g
def Rd(ε:Fr)(γ:List Rw)(hand rival:Str)(m:Nat)(p:Pl):Prop:=m=-(fG (cB γ hand))+1\/∃pp ppa Yp,Ψ (cB γ hand) pp/\HA ε γ hand rival pp ppa Yp/\Β ε γ Yp pp≠[]/\p=a_ pp (Β ε γ Yp pp)/\m=ki ε γ hand rival pp
def Rd.lt(h:Rd ε γ hand rival m p)(fw:FW ε γ X C)(hs:gY hand rival)(b1:1<=kN X C)(fp:Ψ (cB γ hand) p)(b:HA ε γ hand rival p pa tb):ki ε γ hand rival p < m:=by
 rcases h with e| ⟨pp,ppa,Yp,f,b0,ne,e,em⟩
 .rw[e];show Nat.lt_succ_of_le Mo
 .subst e;rw[em];show PR fw hs b1 f b0 ne b
end
def BJ(A:Addr):DF:=λas M q _=>∃(ε:Fr) (γ:List Rw) (hand:Str) (st:Dt),as=[ax A ε γ,.str hand,st]/\OM ε γ/\(st= .bc/\q (.loc (-M)) (M++[dP (gS γ hand)])\/∃(k:Nat) (p:Pl),st= .loc k/\M[k]? =!(dP p)/\(∀i,i < -γ->fX γ (jV hand p) i=true)/\q (.loc (-M+1)) (M++[.c_ [Sum.inr hand] [.loc k]]++[dP (bF γ hand p)]))
def Ij:Δ ["floor","hand","start"] ["floor","hand","start"] (τ uQ):=.of rfl
def Ei(F:cz K "started" "started" uQ f fd)(E:Ev K mg w Cm)(fc:aq P w K mg base 3 "first_plan" ["floor","hand"] (yW Cm) nR nC)(h8:aq P w K mg base 4 "doors_of" ["floor","plans"] (uh Cm) vq uo):ao P w K mg base (bO P w) 5 f fd ["floor","hand","start"] (b8 K (BJ Cm)):=by
 show F.de Ij (λds M q x h=>?_) (λaQ A outer s H E' hr=>(_,(ζ (ah (Tb (jv 2) Ie) (μ (ψ (Φ fc hr ν (Ν (jv 0) (Ν (jv 1) θ))))) Ι)
   (μ (ψ (Φ h8 hr ν (Ν (jv 0) (ι (AL (jv 1) (jv 2)) θ)))))),λds M q x h=>?_))
 .let(ε,γ,hand,st,rfl,_):=h;rfl
 .let(ε,γ,hand,st,rfl,pl,h):=h;rcases h with ⟨rfl,h⟩| ⟨k,p,rfl,hk,gd,h⟩
  .show(rfl,λ_=>?_,nofun);show(ε,γ,hand,rfl,pl.len,h)
  .show(rfl,nofun,λ_=>?_);walk_at "vc";dsimp only[EU];walk_at "vc";show(Sum.inr hand,rfl,?_);show(ε,γ,-M,jV hand p,rfl,FQ hk,pl,gd,?_);rw[aak];show h
def Xt(M M1:Ms):Prop:=∀(k:Nat) (o:MO),M[k]? =!o->M1[k]? =!o
section
variable{M1 M2:Ms}
def Xt.trans(a:Xt M M1)(b:Xt M1 M2):Xt M M2:=λk o h=>b k o (a k o h)
def Xt.app{E:Ms}:Xt M (M++E):=λ_ _ h=>Ω h
def Xt.set(a:Xt M M1)(h:M[j]? =none):Xt M (M1.set j o):=λk u e=>by rw[abi (λq=>by rw[q,e]at h;cases h)];show a k u e
end
abbrev C1:=Pl×Pl×List Fr
noncomputable abbrev gM(x:(Nat×Nat)×C1):Dt:=.tup [.loc x.1.1,.loc x.1.2]
def CY(M:Ms)(lo kr:Nat)(rs:List C1):Prop:=∃ls:List ((Nat×Nat)×C1),M[kr]? =!(.lst (ls.map gM))/\(∀x∈ls,lo<=x.1.1/\lo<=x.1.2/\M[x.1.1]? =!(dP x.2.1)/\M[x.1.2]? =!(.lst (x.2.2.2.map Ξ)))/\ls.map (·.2)=rs/\(ls.map λx=>x.1.1).Nodup
section
variable{M1:Ms}{lo kr:Nat}{rs:List C1}{pa p0:Pl}
def CY.mono(h:CY M lo kr rs)(e:Xt M M1):CY M1 lo kr rs:=by let(ls,a,b,c,d):=h;show(ls,e _ _ a,λx hx=>((b x hx).1,(b x hx).2.1,e _ _ (b x hx).2.2.1,e _ _ (b x hx).2.2.2),c,d)
def CY.keep(h:CY M lo kr rs){k:Nat}(hk:k < lo)(hr:k≠kr):CY (M.set k o) lo kr rs:=by let(ls,a,b,c,d):=h;show(ls,by rw[abi hr];show a,λx hx=>?_,c,d);let(b1,b2,b3,b4):=b x hx;show(b1,b2,by rw[abi ()];show b3,by rw[abi ()];show b4)
def CY.push(h:CY M lo kr rs)(hx:M[kr]? =!(.lst xs))(hk:kr < lo)(hl:lo<=-M):CY ((M++[dP p]++[MO.lst (tb.map Ξ)]).set kr (MO.lst (xs++[Dt.tup [.loc (-M),.loc (-(M++[dP p]))]]))) lo kr (rs++[(p, pa,tb)]):=by
 let(ls,a,b,c,d):=h;rw[a]at hx;cases hx;let l1:-(M++[dP p])=-M+1:=by rw[aak];rfl
 show(ls++[((-M, -M+1), (p, pa,tb))],?_,λx hx=>?_,by rw[aa9,c];rfl,?_)
 .rw[abc (by rw[aak,l1];omega),aa9,l1];rfl
 .rw[l1];let ne:∀{k:Nat} {o:MO},lo<=k->(M++[dP p]++[MO.lst (tb.map Ξ)])[k]? =!o->((M++[dP p]++[MO.lst (tb.map Ξ)]).set kr (.lst (ls.map gM++[.tup [.loc (-M),.loc (-M+1)]])))[k]? =!o:=λ{k o} rL e=>by rw[abi ()];show e
  rcases abj.mp hx with hx| hx
  .let(b1,b2,b3,b4):=b x hx;show(b1,b2,ne b1 (Ω (Ω b3)),ne b2 (Ω (Ω b4)))
  .rw[abh.mp hx];show(hl,by change lo<=-M+1;omega,ne hl (Ω aA),ne (k:=-M+1) () (by rw[<-l1];show aA))
 .rw[aa9];show List.nodup_append.mpr (d,List.nodup_cons.mpr (by simp,List.nodup_nil),λx hx y hy e=>?_);let(z,hz,rfl):=aam.mp hx;let ey:y=-M:=abh.mp hy;have:=(aai.mp (b z hz).2.2.1).1;omega
structure P8(ε:Fr)(γ:List Rw)(hand rival:Str)(p0:Pl)(rs:List C1):Prop where
 first:∀r,rs[0]? =!r->r.1=p0
 fit:∀r∈rs,Ψ (cB γ hand) r.1/\HA ε γ hand rival r.1 r.2.1 r.2.2
 next:∀(i:Nat) (r r':C1),rs[i]? =!r->rs[i+1]? =!r'->Β ε γ r.2.2 r.1≠[]/\r'.1=a_ r.1 (Β ε γ r.2.2 r.1)
def Nx(ε:Fr)(γ:List Rw)(p0:Pl)(rs:List C1)(p:Pl):Prop:=(rs=[]/\p=p0)\/∃(sM:List C1) (r:C1),rs=sM++[r]/\Β ε γ r.2.2 r.1≠[]/\p=a_ r.1 (Β ε γ r.2.2 r.1)
def P8.push(h:P8 ε γ hand rival p0 rs)(n:Nx ε γ p0 rs p)(fp:Ψ (cB γ hand) p)(b:HA ε γ hand rival p pa tb):P8 ε γ hand rival p0 (rs++[(p, pa,tb)]):=by
 show(λr hr=>?_,λr hr=>?_,λi r r' h1 h2=>?_)
 .rcases n with ⟨rfl,rfl⟩| ⟨sM,r',rfl,_,_⟩
  .cases hr;rfl
  .show h.first r ?_;rw[aaD (by rw[aak];show Nat.succ_pos _)]at hr;show hr
 .rcases abj.mp hr with hr| hr
  .show h.fit r hr
  .rw[abh.mp hr];show(fp,b)
 .by_cases e:i+1 < -rs
  .rw[aaD ()]at h1;rw[aaD e]at h2;show h.next i r r' h1 h2
  .let l2:=(aai.mp h2).1;rw[aak]at l2;let l2:i+1 < -rs+1:=l2;let e1:i+1=-rs:=()
   rw[e1,aay (aaq _),adx]at h2;cases h2;rcases n with ⟨rfl,rfl⟩| ⟨sM,r0,rfl,ne,ep⟩
   .cases e1
   .rw[aak]at e1;let e1:i+1=-sM+1:=e1;let ei:i=-sM:=()
    subst ei;rw[abv,aay (aaq _),adx]at h1;cases h1;show(ne,ep)
def vx(fp:Ψ (cB γ hand) p):ki ε γ hand rival p+1<=-(fG (cB γ hand)):=by unfold ki;have:=z_ (l:=fG (cB γ hand)) (P:=λq=>open Classical in decide (dU (λi=>fE hand * QT ε γ hand rival p i) (-γ) < dU (λi=>fE hand * QT ε γ hand rival q i) (-γ))) (Q:=λ_=>true) (λ_ _ _=>rfl) (oM fp) rfl (aa6 Rat.lt_irrefl);rw[List.countP_true]at this;show this
end
set_option tactic.hygienic false
def d9(A:Addr):DF:=λas M q _=>∃(ε:Fr) (γ:List Rw) (hand rival:Str) (X C:Int) (st:Dt) (p0:Pl),as=[ax A ε γ,.str hand,st]/\(st= .bc/\p0=gS γ hand\/∃(k:Nat) (p:Pl),st= .loc k/\M[k]? =!(dP p)/\(∀i,i < -γ->fX γ (jV hand p) i=true)/\p0=bF γ hand p)/\(hand="one"/\rival="other"\/hand="other"/\rival="one")/\FW ε γ X C/\kN X C<=2 ^ 450/\(12 * kN X C) ^ (-γ) < 2 ^ 1030/\1<=kN X C/\-(fG (cB γ hand))<=1000/\∀(M1:Ms) (kp ka kt kr lo:Nat) (rs sM:List C1) (p pa:Pl) (tb:List Fr),Xt M M1->(-M<=kp/\-M<=kt/\-M<=kr/\-M<=lo)->M1[kp]? =!(dP p)->M1[ka]? =!(dP pa)->M1[kt]? =!(.lst (tb.map Ξ))->CY M1 lo kr rs->P8 ε γ hand rival p0 rs->rs=sM++[(p, pa,tb)]->Β ε γ tb p=[]->-rs<=-(fG (cB γ hand))->q (.tup [.loc kp,.loc ka,.loc kt,.loc kr]) M1
def kX:Δ ["floor","hand","start","plan","rounds","found","better"] ["floor","hand","start"] (τ yw):=.of rfl
def Ho(F:B2 K "mended" yw U its f fd)(E:Ev K mg w Cm)(qY:aq P w K mg base 5 "started" ["floor","hand","start"] (BJ Cm) Nn Kr)(qW:aq P w K mg base 9 "against" ["floor","hand","plan"] (Cc Cm) MU MB)(cc:aq P w K mg base 8 "better_doors" ["floor","plan","table"] (z7 Cm) jY ko):ao P w K mg base (bO P w) 10 f fd ["floor","hand","start"] (b8 K (d9 Cm)):=by
 show F.de kX (λds M q x h=>?_) (λaQ A outer s H E' hr=>(_,(ζ (ip (χ 3 kX.nd (Φ qY hr ν (Ν (jv 0) (Ν (jv 1) (Ν (jv 2) θ))))))
   (ζ (χ 4 kX.nd (i7 θ))
   (μ (oS (ba wL) (ζ (χ 5 kX.nd (Φ qW hr ν (Ν (jv 0) (Ν (jv 1) (Ν (jv 3) θ)))))
   (ζ (eI (fC (jv 4) (ι (fe (ι (EJ E.mX (Ν (jv 3) θ)) (ι (zX E.kg (ι (ω (jv 5) ξ) θ aw)) θ aX) aX)) θ GY)))
   (ζ (χ 6 kX.nd (Φ cc hr ν (Ν (jv 0) (Ν (jv 3) (ι (ω (jv 5) ξ) θ aw)))))
   (ζ (ah (bL hr (E4 E.bb (Ν (jv 6) θ)) ξ) (μ (ψ (fe (Ν (jv 3) (ι (ω (jv 5) ξ) (ι (ω (jv 5) ξ) (Ν (jv 4) θ) aw) aw))))) Ι)
   (μ (eI (E5 (jv 3) (jv 6)))))))))))),λds M q x h=>?_))
 .let(ε,γ,hand,rival,X,C,st,p0,rfl,_):=h;rfl
 .let(ε,γ,hand,rival,X,C,st,p0,rfl,OJ,fF,fw,kL,v7,b1,hN,h):=h;let hs:=gO fF;let lV:=fw.pl.len;let sl:∀{z:Nat},z<=1000->z < sizeLine:=λh=>abE h @_;show⟨λρ M'=>∃kp:Nat,Xt M M'/\M[kp]? =none/\M'[kp]? =!(dP p0)/\Ψ (cB γ hand) p0/\ρ=[!(ax Cm ε γ),!(.str hand),!st,!(.loc kp),none,none,none],?_,?_⟩
  .show(ε,γ,hand,st,rfl,fw.pl,?_);rcases OJ with ⟨rfl,rfl⟩| ⟨k,p,rfl,hk,gd,rfl⟩
   .show .inl (rfl,-M,Xt.app,acj (aaq _),aA,nO fw hs.h1,rfl)
   .show .inr (k,p,rfl,hk,gd,-M+1,Xt.app.trans Xt.app,acj (Nat.le_succ _),?_,ye fw hs.h1 gd,rfl);rw[show -M+1=-(M++[MO.c_ [Sum.inr hand] [.loc k]]) by rw[aak];rfl];show aA
  rintro ρ0 M' ⟨kp,x0,kn,Vq,f0,rfl⟩;walk_at "vc";dsimp only[G6];walk_at "vc";show(@_,?_);let kpl:kp < -M':=(aai.mp Vq).1;let kpM:-M<=kp:=by
   rcases Nat.lt_or_ge kp (-M) with q| q
   .rw[aaa q]at kn;cases kn
   .show q
  let krn:M[-M']? =none:=by
   cases e:M[-M']? with
   | none=>rfl
   | some o=>
    have:=x0 _ _ e;rw[acj (aaq _)]at this;cases this
  show⟨λm ρ' M2=>∃(p:Pl) (rs:List C1) (o5 o6:Option Dt),Ψ (cB γ hand) p/\Rd ε γ hand rival m p/\((rs=[]/\m=-(fG (cB γ hand))+1)\/-rs+m<=-(fG (cB γ hand)))/\Xt M M2/\M2[kp]? =!(dP p)/\CY M2 (-M'+1) (-M') rs/\P8 ε γ hand rival p0 rs/\Nx ε γ p0 rs p/\ρ'=[!(ax Cm ε γ),!(.str hand),!st,!(.loc kp),!(.loc (-M')),o5,o6],(_,p0,[],none,none,f0,.inl rfl,.inl (rfl,rfl),x0.trans Xt.app,Ω Vq,([],aA,λ_ h=>(nomatch h),rfl,List.nodup_nil),(λ_ h=>(nomatch h),λ_ h=>(nomatch h),λ_ _ _ h=>(nomatch h)),.inl (rfl,rfl),rfl),λm ρ' M2 hw=>?_⟩;let(p,rs,o5,o6,fp,hm,hx,x2,T6,ra,rd,nx,rfl):=hw;walk_at "vc";show(λ_=>(_,λρ2 M2 hn=>hn,?_),nofun);show(ε,γ,hand,rival,kp,p,X,C,rfl,T6,fF,fw,kL,v7,b1,qw fw hs.h1 fp,λpa tb E2 kt fa wt be hkt Vj=>?_);let bst:HA ε γ hand rival p pa tb:=(fa,wt,be);let lt:=hm.lt fw hs b1 fp bst;let rd':=rd.push nx fp bst;let krM:-M<=-M':=by
   rcases Nat.lt_or_ge (-M') (-M) with q| q
   .rw[aaa q]at krn;cases krn
   .show q
  let kr2:-M' < -M2:=by let(_,a,_):=ra;show(aai.mp a).1
  let C2:(M2++[MO.c_ [Sum.inr hand] [Dt.loc kp],dP (bF γ hand p),dP pa]++E2)[-M2+2]? =!(dP pa):=Ω (by rw[aay (),Nat.add_sub_cancel_left];rfl);let x3:Xt M2 (M2++[MO.c_ [Sum.inr hand] [Dt.loc kp],dP (bF γ hand p),dP pa]++E2):=Xt.app.trans Xt.app;let l3:-M2<=-(M2++[MO.c_ [Sum.inr hand] [Dt.loc kp],dP (bF γ hand p),dP pa]++E2):=by rw[aak,aak];omega
  let kak:-M2+2≠-M'/\-M2+2≠kp:=()
  let ktk:kt≠-M'/\kt≠kp:=()
  let abA:-M<=kp/\-M<=kt/\-M<=-M'/\-M<=-M'+1:=()
  generalize M2++[MO.c_ [Sum.inr hand] [Dt.loc kp],dP (bF γ hand p),dP pa]++E2=M3 at *
  generalize -M2+2=ka at *
  let ra3:=ra.mono x3;let hp3:=x3 _ _ T6;let x3':=x2.trans x3;let(ls,aj,_,al,_):=id ra3;let rl:-rs<=1000:=by
   rcases hx with ⟨rfl,_⟩| hx
   .show acR _
   .omega
  let nl:-(ls.map gM)=-rs:=by rw[aae,<-al,aae]
  dsimp only[SJ];walk_at "vc";show((_,_,rfl,aj),kp,_,_,rfl,hp3,?_);let r1:∀(M':Ms) (q:DQ),q (.loc kt) M'->aW (.tup [.loc ka,.loc kt]) (.int 1) M' q:=λM' q hq=>Ε (d:=.tup [.loc ka,.loc kt]) rfl (Θ (j:=1) rfl) hq;let r0:∀(M':Ms) (q:DQ),q (.loc ka) M'->aW (.tup [.loc ka,.loc kt]) (.int 0) M' q:=λM' q hq=>Ε (d:=.tup [.loc ka,.loc kt]) rfl aF hq;show r1 _ _ ?_;dsimp only[Cg,gR];rw[Ω Vj];show(@_,-M',_,_,rfl,rfl,Ω (Ω aj),sl (by rw[nl];show rl),?_);let ra4:=ra3.push (p:=p) (pa:=pa) (tb:=tb) aj (acd _) ();let YM:∀{k:Nat} {o:MO},k≠-M'->M3[k]? =!o->((M3++[dP p]++[MO.lst (tb.map Ξ)]).set (-M') (.lst (ls.map gM++[.tup [.loc (-M3),.loc (-(M3++[dP p]))]])))[k]? =!o:=λ{k o} hk e=>by rw[abi (Ne.symm hk)];show Ω (Ω e)
  let x4:Xt M ((M3++[dP p]++[MO.lst (tb.map Ξ)]).set (-M') (.lst (ls.map gM++[.tup [.loc (-M3),.loc (-(M3++[dP p]))]]))):=((x3'.trans Xt.app).trans Xt.app).set krn;let Us:=YM () hp3;let ha4:=YM kak.1 C2;let ht4:=YM ktk.1 Vj;let e4:(M3++[MO.c_ (kP p) (vP p)]++[MO.lst (tb.map Ξ)])=M3++[dP p]++[MO.lst (tb.map Ξ)]:=rfl;let e5:-(M3++[MO.c_ (kP p) (vP p)])=-(M3++[dP p]):=rfl;rw[e4,e5];generalize (M3++[dP p]++[MO.lst (tb.map Ξ)]).set (-M') (.lst (ls.map gM++[.tup [.loc (-M3),.loc (-(M3++[dP p]))]]))=M4 at *
  let hp:∀t,t < -γ->0 < (tb.getD t (0, 1)).2:=λt ht=>(wt.tab.red t ht).pos;let pV:=eW (tb:=tb) fw hs.h1 fp hp;let pl:=pj fp;show r1 _ _ ?_;show(ε,γ,tb,.loc kt,kp,p,rfl,Us,wt.flg fw (mr fw hs fp fa) b1,eN ht4,aK fp,(),PN fw hs.h1 fp hp,?_);let bl:-(Β ε γ tb p)<=12:=aaF (j8 _) ();show(_,_,_,rfl,aA,?_);let kl:-(kP (Β ε γ tb p))=-(Β ε γ tb p):=by unfold kP;rw[List.length_map]
  rw[kl];let Qs:-rs+1<=-(fG (cB γ hand)):=by
   have:=vx (ε:=ε) (rival:=rival) fp;rcases hx with ⟨rfl,_⟩| hx
   .change 0+1<=_;omega
   .omega
  show(λz=>?_,λz=>?_)
  .let z:(-(Β ε γ tb p):Int)=0:=aan z;let e:Β ε γ tb p=[]:=ace.mp ();show r0 _ _ (r1 _ _ (@_,?_));show h _ kp ka kt _ _ _ rs p pa tb (x4.trans Xt.app) abA (Ω Us) (Ω ha4) (Ω ht4) (ra4.mono Xt.app) rd' rfl e (by rw[aak];show Qs)
  .let z:¬(-(Β ε γ tb p):Int)=0:=aba z;let ne:Β ε γ tb p≠[]:=λy=>z (by rw[y];rfl);dsimp only[GI];walk_at "vc";show((_,_,_,rfl,Ω Us),kp,_,_,_,_,_,rfl,rfl,Nat.ne_of_lt (List.getElem?_eq_some_iff.mp Us).1,Ω Us,aA,by rw[kl];unfold kP;rw[List.length_map];omega,?_);rw[Gw,Ge];let aaB:-(rs++[(p, pa,tb)])+ki ε γ hand rival p<=-(fG (cB γ hand)):=by
    have:=vx (ε:=ε) (rival:=rival) fp;rw[aak];rcases hx with ⟨rfl,_⟩| hx
    .change 0+1+_<=_;omega
    .change -rs+1+_<=_;omega
   let lt4:=(aai.mp Us).1;show(_,lt,_,_,_,_,pV,.inr (p,pa,tb,fp,bst,ne,rfl,rfl),.inr aaB,(x4.trans Xt.app).set kn,?_,(ra4.mono Xt.app).keep () (),rd',.inr (rs,_,rfl,ne,rfl),rfl);rw[abc (by rw[aak];omega)]
set_option tactic.hygienic true
section
variable{pa p1 p2 q1 q2 qr:Pl}
def Rh:gY "one" "other":=gO (.inl (rfl,rfl))
def sg1:fE "one"=1:=aa0 rfl
def sg2:fE "other"= - 1:=aa3 @_
end
def WM(h1: - (10 ^ 30)<=a)(h2:a<=10 ^ 30)(h3:b<=1000000):bA (a, b)=true:=by
 unfold bA;have:(if a < 0 then - a else a)<=10 ^ 30:=by split <;> omega
 change(decide ((if a < 0 then - a else a)<=10 ^ 30)&&decide (b<=1000000))=true;rw[aa2 this,aa2 h3];rfl
set_option tactic.hygienic false
def GL{t:Int}(h1: - (10 ^ 30)<=t)(h2:t<=10 ^ 30)(h0:0 < b)(h3:b<=1000000):bA (aD t b)=true:=by
 let l1:=uX (t:=t) (show b≠0 by omega);let l2:=kT (t:=t) (show b≠0 by omega);generalize aD t b=f at *
 let(x,y):=f;let l1:x.natAbs<=t.natAbs:=l1;let l2:y.natAbs<=b.natAbs:=l2;show WM () () ()
def DL{t:Int}(t0:0<=t)(t1:t < b)(hb1:b<=1000):aZ (aD t b)=true:=by
 let NB:0 < b:=()
 let l2:=kT (t:=t) (show b≠0 by omega);let q0:=cY (t:=t) (show b≠0 by omega);let hc:=cE (t:=t) (show b≠0 by omega);generalize aD t b=f at *
 let(x,y):=f;let l2:y.natAbs<=b.natAbs:=l2;let q0:0 < y:=q0;let hc:t * y=b * x:=hc;let x0:0<=x:=by
  rcases adh x 0 with z| z
  .have:=acO NB z;have:=ab7 t0 (aar q0);omega
  .show z
 let x1:x < y:=by
  rcases adh x y with z| z
  .show z
  .let h3:b * y<=b * x:=aaT z (aar NB);let h4:t * y < b * y:=Int.mul_lt_mul_of_pos_right t1 q0;omega
 unfold aZ;change(decide (0<=x)&&(decide (x < y)&&decide (y<=1000)))=true;rw[aa2 x0,aa2 x1,aa2 (show y<=1000 by omega)];rfl
def Zq(ns:List Int)(k:Int):Int:=ns.getD k.toNat 0
def SA{ns:List Int}{k:Int}(h0:0<=k)(h2:k < -ns):jT (ns.map Dt.int) k=!(.int (Zq ns k)):=by
 let e:(ns.map Dt.int)[k.toNat]? =!(.int (Zq ns k)):=by rw[aas,aaa (show k.toNat < -ns by omega)];unfold Zq;rw[aab,aaa (show k.toNat < -ns by omega)];rfl
 have:=Θ e;rwa[show((k.toNat:Nat):Int)=k by omega]at this
def Nm(n:Int):Prop:=0<=n/\n < 10 ^ 300
def VX:BW 10 60:=(@_,@_,@_)
def ZE:BW 10 30:=(@_,@_,@_)
def p18:BW 10 18:=(@_,@_,@_)
def p12:BW 10 12:=(@_,@_,@_)
def p6:BW 10 6:=(@_,@_,@_)
def qf{n:Int}(h:Nm n):fJ n:=sv (k:=1000) h.1 (adi h.2 @_) @_
def Kb(h0:0 < b)(h1:b<=10 ^ 300):Nm (a % b):=(abQ _ (),Int.lt_of_lt_of_le (abN _ h0) h1)
def Dw{n:Int}(h:Nm n)(h0:0 < b):Nm (n / b):=(Int.ediv_nonneg h.1 (aar h0),abm (ada _ h.1) h.2)
def Xv:DF:=λas M q _=>∃(ns:List Int) (k:Int),as=[.i_ ns,.int k]/\-ns<=63/\0<=k/\k<=200/\∀n,Nm n->q (.int n) M
def sI:Δ ["_law_script","_law_k","_law_mixed","_law_cell"] ["_law_script","_law_k"] (τ EB):=.of rfl
def Kk(F:cz K "_law_at" "_law_at" EB f fd)(E:Ev K mg w Cm):ao P w K mg base (bO P w) 1 f fd ["_law_script","_law_k"] (b8 K Xv):=by
 show F.de sI (λds M q x h=>?_) (λaQ A outer s H E' hr=>(_,(ζ (ah (rN (jv 1) (bz E.bb (Ν (jv 0) θ))) (μ (ψ (bP (ω (jv 0) (jv 1)) (az (az (az (az (jH ξ ξ) (jH ξ ξ)) (jH ξ ξ)) (jH ξ ξ)) (jH ξ ξ))))) Ι)
   (ζ (χ 2 sI.nd (cw ξ (az ξ (bz E.bb (Ν (jv 0) θ)))))
   (ζ (c8 (bC (da (yK (jv 0) ξ))) (ai (i:=3) sI.nd rfl (Or.inl rfl)) aB (μ (χ 2 sI.nd (bP (cw (az (jv 2) ξ) (bP (jv 3) (jH ξ ξ))) ξ))))
   (μ (ψ (bP (az (cw (jv 2) ξ) (cw (az (jv 1) (jv 1)) ξ)) ξ)))))),λds M q x h=>?_))
 .let(ns,k,rfl,_):=h;rfl
 .let(ns,k,rfl,nl,hk,k2,h):=h;let bk:fJ k:=bg (k:=40) ();let bl:fJ (-ns:Int):=bg (k:=40) ();let b6:fJ ((10:Int) ^ (60:Int).toNat):=bg (k:=210) @_;walk_at "vc";show(af (d:=.i_ ns) (xs:=ns.map .int) rfl ?_:eQ [.i_ ns] M _);rw[aae];show(λh1=>?_,λh1=>?_)
  .let Z1:k < -ns:=aan h1;show(Ε (d:=.i_ ns) rfl (SA hk Z1) ?_:aW (.i_ ns) (.int k) M _);show(VX,VX,(b6,b6),VX,(bg (k:=410) @_,b6),VX,(bg (k:=610) @_,b6),VX,(bg (k:=810) @_,b6),@_,h _ (Kb @_ @_))
  .show(af (d:=.i_ ns) (xs:=ns.map .int) rfl ?_:eQ [.i_ ns] M _);rw[aae];show((bg (k:=40) @_,bl),?_);dsimp only[rO,fL,Vo,Ng];walk_at "vc";show(ns.map .int,6,rfl,rfl,?_);rw[<-ado];show dM (hW _) ?_;show bN (λzs ρ' M'=>M'=M/\∃(rest:List Int) (m:Int) (o:Option Dt),zs=rest.map Dt.int/\0<=m/\m < 2147483647/\ρ'=[!(.i_ ns),!(.int k),!(.int m),o]) (λzs ρ' M' hj=>trivial) (λx zs ρ' M' hj et=>?_) (λρ' M' hj=>?_) _ _ _ (rfl,_,_,none,rfl,(),(),rfl)
   .let(rfl,rest,m,o,ex,m0,m1,rfl):=hj;cases rest with
    | nil=>cases ex
    | cons c rest=>
     cases ex;show((bg (k:=40) (),bg (k:=40) @_),p12,@_,@_,et _ _ (rfl,rest,_,_,rfl,abQ _ @_,abN _ @_,rfl))
   .let(rfl,rest,m,o,ex,m0,m1,rfl):=hj;let kk:0<=k * k/\k * k<=200 * 200:=(ab7 hk hk,acw k2 k2 hk @_);show((bk,bk),(bg (k:=40) (),bg (k:=40) ()),@_,h _ (Kb @_ @_))
def Xs(x:Int):Prop:=0<=x/\x < 2 ^ 110
def yY:DF:=λas M q _=>∃(n:Int) (aV:Nat),as=[.int n,.int (aV:Nat)]/\fJ n/\aV<=60/\∀xs:List Int,-xs=aV->(∀x∈xs,Xs x)->q (.loc (-M)) (M++[.lst (xs.map Dt.int)])
def gK:Δ ["_law_number","_law_many","_law_some","_law_seed","_law_k"] ["_law_number","_law_many"] (τ oy):=.of rfl
def yG(F:cz K "_law_stream" "_law_stream" oy f fd)(E:Ev K mg w Cm):ao P w K mg base (bO P w) 1 f fd ["_law_number","_law_many"] (b8 K yY):=by
 show F.de gK (λds M q x h=>?_) (λaQ A outer s H E' hr=>(_,(ζ (χ 2 gK.nd (i7 θ))
   (ζ (χ 3 gK.nd (cw (bP (az (jv 0) ξ) ξ) ξ))
   (ζ (gT (bZ E.bH (Ν (jv 1) θ)) (ai (i:=4) gK.nd rfl (Or.inl rfl)) aB (ζ (χ 3 gK.nd (bP (cw (cw (az (jv 3) ξ) (az (jv 4) (jv 4))) ξ) ξ))
   (μ (eI (fC (jv 2) (Ν (jv 3) θ))))))
   (μ (ψ (jv 2)))))),λds M q x h=>?_))
 .let(n,aV,rfl,_):=h;rfl
 .let(n,aV,rfl,bn,m60,h):=h;show(@_,(bn,bg (k:=20) @_),@_,?_);let s0:=abQ (n * 69621) (show(2147483629:Int)≠0 by decide);let s1:=abN (n * 69621) (show(0:Int) < 2147483629 by decide);dsimp only[wm];generalize n * 69621 % 2147483629=sd at *
  show(((),()),?_);rw[show((aV:Int)).toNat=aV by omega];show cU (λzs ρ' M'=>∃(i c:Nat) (xs:List Int) (sd:Int) (o:Option Dt),zs=dJ (i:Int) c/\i+c=aV/\-xs=i/\(∀x∈xs,Xs x)/\0<=sd/\sd<=2147483647/\M'=M++[.lst (xs.map Dt.int)]/\ρ'=[!(.int n),!(.int (aV:Int)),!(.loc (-M)),!(.int sd),o]) (λx zs ρ' M' hj et=>?_) (λρ' M' hj=>?_) _ _ _ (0,aV,[],sd+1,none,rfl,(),rfl,λ_ z=>(nomatch z),(),(),rfl,rfl)
  .let(i,c,xs,sd,o,ex,ic,xl,hx,d0,d1,rfl,rfl):=hj;let(c',rfl,rfl,rfl):=cx ex;let i60:(i:Int) < 60:=()
   let ii:0<=(i:Int) * i/\(i:Int) * i<=60 * 60:=(ab7 () (),acw () () () @_);show((bg (k:=40) (),bg (k:=20) @_),(bg (k:=20) (),bg (k:=20) ()),@_,?_);let t0:=abQ (sd * 48271+(i:Int) * i+7) (show(2147483647:Int)≠0 by decide);let t1:=abN (sd * 48271+(i:Int) * i+7) (show(0:Int) < 2147483647 by decide);show((_,_,rfl,aA),-M,_,_,rfl,rfl,aA,?_,?_)
   .rw[aae,xl];show abE (show i<=60 by omega) @_
   rw[d_];show et _ _ (i+1,c',xs++[(sd * 48271+(i:Int) * i+7) % 2147483647],_,_,by rw[Int.natCast_add];rfl,(),by simp[xl],λy hy=>?_,t0,Int.le_of_lt t1,by simp,rfl);rcases abj.mp hy with z| z
   .show hx y z
   .rw[abh.mp z];show(t0,adi t1 @_)
  .let(i,c,xs,sd,o,ex,ic,xl,hx,d0,d1,rfl,rfl):=hj;let c0:c=0:=by have:=abq List.length ex;rw[gI]at this;show this.symm
   show h xs () hx
def Md:DF:=λas M q _=>∃t b:Int,as=[.int t,.int b]/\0 < b/\fJ b/\q (Ξ (aD t b)) M
def lR:Δ ["_law_top","_law_bottom","_law_one","_law_two"] ["_law_top","_law_bottom"] (τ m8):=.of rfl
set_option tactic.hygienic true
def yv(F:cz K "_law_lowest" "_law_lowest" m8 f fd)(E:Ev K mg w Cm):ao P w K mg base (bO P w) 1 f fd ["_law_top","_law_bottom"] (b8 K Md):=by
 show F.de lR (λds M q x h=>?_) (λaQ A outer s H E' hr=>(_,(ζ (Mm (i:=2) (j:=3) lR.nd rfl rfl (ι (FY E.tY (Ν (jv 0) θ)) (Ν (jv 1) θ) aX))
   (ζ (oS (kH hr (jv 3) ξ) (μ (Mm (i:=2) (j:=3) lR.nd rfl rfl (Ν (jv 3) (ι (bP (jv 2) (jv 3)) θ bJ)))))
   (μ (ψ (fe (ι (kG (jv 0) (jv 2)) (ι (kG (jv 1) (jv 2)) θ bJ) bJ)))))),λds M q x h=>?_))
 .let(t,b,rfl,_):=h;rfl
 .let(t,b,rfl,h0,h1,h):=h;let ga:g (if t < 0 then - t else t) b=g t b:=by have:=P5 t b;rwa[aa3 (show¬b < 0 by omega)]at this
  show⟨λm ρ M'=>M'=M/\∃(x y:Int),ρ=[!(.int t),!(.int b),!(.int x),!(.int y)]/\0<=x/\0<=y/\g x y=g t b/\m=y.toNat,(_,rfl,_,_,rfl,by split <;> omega,(),ga,rfl),?_⟩;rintro m ρ M' ⟨rfl,x,y,rfl,hx,hy,e,rfl⟩;show(λhb=>?_,λhb=>?_)
  .let O5:y≠0:=by simpa using hb
   show(_,λρ' M2 h2=>h2,?_);show((),(x % y).toNat,?_,rfl,y,x % y,rfl,hy,abQ _ O5,?_,rfl)
   .have:=abN x (show 0 < y by omega);have:=abQ x O5;omega
   .rw[<-acK x hy,Kd ()];show e
  .let O5:y=0:=by simpa using hb
   subst O5;rw[J8 hx]at e;subst e;let hg:0 < g t b:=AQ ();let hle:g t b<=b:=ac1 h0 (Int.gcd_dvd_right ..);let hb:fJ (g t b):=abE (show(g t b).natAbs<=b.natAbs by omega) h1;let e:aD t b=(t / g t b, b / g t b):=by rw[NM h0,ac4 _ (aar hg),ac4 _ (aar hg)]
   rw[e]at h;show((hg,hb),(hg,hb),k3,h)
set_option tactic.hygienic false
def KC:DF:=λas M q _=>∃n:Int,as=[.int n]/\∀b,q (.bl b) M
def wA:Δ ["_law_number"] ["_law_number"] (τ jW):=.of rfl
def tW(F:cz K "_law_by_digits" "_law_by_digits" jW f fd)(E:Ev K mg w Cm):ao P w K mg base (bO P w) 1 f fd ["_law_number"] (b8 K KC):=by
 show F.de wA (λds M q x h=>?_) (λaQ A outer s H E' hr=>(_,(μ (ψ (aad (jv 0) (jH ξ ξ)))),λds M q x h=>?_))
 .let(n,rfl,_):=h;rfl
 .let(n,rfl,h):=h;show(p18,h _)
def C6(ss:List Int):Dt:=.lst (ss.map Dt.int)
structure L8(ss:List Int):Prop where
 len:-ss=5
 pos:∀s∈ss,0 < s/\s<=2 * 10 ^ 30+1
def V1(h:L8 ss){j:Int}:∃s,jT (ss.map Dt.int) (j % 5)=!(.int s)/\0 < s/\s<=2 * 10 ^ 30+1:=by
 let j0:=abQ j (show(5:Int)≠0 by decide);let j1:=abN j (show(0:Int) < 5 by decide);let hl:(j % 5).toNat < -ss:=by rw[h.len];omega
 have:=gX hl;rw[show(((j % 5).toNat:Nat):Int)=j % 5 by omega]at this;show(_,this,h.pos _ (aaG hl))
def Fz:DF:=λas M q _=>∃(n k:Int) (aV:Nat) (ss:List Int),as=[.int n,.int k,.int (aV:Nat),C6 ss]/\Nm n/\0<=k/\k<=12/\aV<=30/\L8 ss/\∀xs:List Int,-xs=aV->(∀x∈xs,Xs x)->q (.loc (-M)) (M++[.lst (xs.map Dt.int)])
def gH:Δ ["_law_number","_law_k","_law_many","_law_sizes","_law_some","_law_rest","_law_j"] ["_law_number","_law_k","_law_many","_law_sizes"] (τ nB):=.of rfl
def yR(F:cz K "_law_things" "_law_things" nB f fd)(E:Ev K mg w Cm)(aE:aq P w K mg base 1 "_law_by_digits" ["_law_number"] KC cN cL)(eZ:aq P w K mg base 1 "_law_stream" ["_law_number","_law_many"] yY nZ n_):ao P w K mg base (bO P w) 2 f fd ["_law_number","_law_k","_law_many","_law_sizes"] (b8 K Fz):=by
 show F.de gH (λds M q x h=>?_) (λaQ A outer s H E' hr=>(_,(ζ (ah (cG (ba (Φ aE hr ν (Ν (jv 0) θ)))) (μ (ψ (Φ eZ hr ν (ι (cw (az (jv 0) ξ) (jv 1)) (Ν (jv 2) θ) bJ)))) Ι)
   (ζ (χ 4 gH.nd (i7 θ))
   (ζ (χ 5 gH.nd (kG (jv 0) ξ))
   (ζ (gT (bZ E.bH (Ν (jv 2) θ)) (ai (i:=6) gH.nd rfl (Or.inl rfl)) aB (ζ (eI (fC (jv 4) (ι (bP (jv 5) (ω (jv 3) (bP (jv 6) ξ))) θ bJ)))
   (μ (χ 5 gH.nd (kG (jv 5) (ω (jv 3) (bP (jv 6) ξ)))))))
   (μ (ψ (jv 4))))))),λds M q x h=>?_))
 .let(n,k,aV,ss,rfl,_):=h;rfl
 .let(n,k,aV,ss,rfl,hn,k0,k1,Za,so,h):=h;show(n,rfl,λb=>(λ_=>?_,λ_=>?_))
  .show((qf hn,bg (k:=10) @_),?_);show(n * 12+k,aV,rfl,?_,(),h);let(n0,n1):=hn;show sv (k:=1100) () ?_ @_;show Int.lt_of_lt_of_le (show n * 12+k < 10 ^ 300 * 12+13 by omega) @_
  .show(@_,(@_,bg (k:=10) @_),((),()),?_);rw[show((aV:Int)).toNat=aV by omega];show cU (λzs ρ' M'=>∃(i c:Nat) (xs:List Int) (r:Int) (o:Option Dt),zs=dJ (i:Int) c/\i+c=aV/\-xs=i/\(∀x∈xs,Xs x)/\Nm r/\M'=M++[.lst (xs.map Dt.int)]/\ρ'=[!(.int n),!(.int k),!(.int (aV:Int)),!(C6 ss),!(.loc (-M)),!(.int r),o]) (λx zs ρ' M' hj et=>?_) (λρ' M' hj=>?_) _ _ _ (0,aV,[],_,none,rfl,(),rfl,λ_ z=>(nomatch z),Dw hn @_,rfl,rfl)
   .let(i,c,xs,r,o,ex,ic,xl,hx,fF,rfl,rfl):=hj;let(c',rfl,rfl,rfl):=cx ex;let(sz,es,s0,s1):=V1 so (j:=(i:Int));let rd:∀(M':Ms) (q:DQ),q (.int sz) M'->aW (C6 ss) (.int ((i:Int) % 5)) M' q:=λM' q hq=>Ε (d:=C6 ss) rfl es hq;walk_at "vc";show((_,_,rfl,aA),?_);show(@_,rd _ _ (s0,?_));show(-M,_,_,rfl,rfl,aA,?_,?_)
    .rw[aae,xl];show abE (show i<=60 by omega) @_
    rw[d_];show(@_,rd _ _ ((s0,sv (k:=110) (aar s0) (abm s1 @_) @_),?_));show et _ _ (i+1,c',xs++[r % sz],_,_,by rw[Int.natCast_add];rfl,(),by simp[xl],λy hy=>?_,Dw fF s0,by simp,rfl);rcases abj.mp hy with z| z
    .show hx y z
    .rw[abh.mp z];show(abQ _ (),adi (abN _ s0) (abm s1 @_))
   .let(i,c,xs,r,o,ex,ic,xl,hx,fF,rfl,rfl):=hj;let c0:c=0:=by have:=abq List.length ex;rw[gI]at this;show this.symm
    show h xs () hx
def A8:DF:=λas M q _=>∃n low:Int,as=[.int n,.int low]/\Nm n/\1<=low/\low<=1000/\∀p,aZ p=true->q (Ξ p) M
def ku:Δ ["_law_number","_law_low","_law_bottom","_law_top"] ["_law_number","_law_low"] (τ lE):=.of rfl
def wc(F:cz K "_law_share_of" "_law_share_of" lE f fd)(E:Ev K mg w Cm)(aE:aq P w K mg base 1 "_law_by_digits" ["_law_number"] KC cN cL)(aY:aq P w K mg base 1 "_law_lowest" ["_law_top","_law_bottom"] Md eT eJ):ao P w K mg base (bO P w) 2 f fd ["_law_number","_law_low"] (b8 K A8):=by
 show F.de ku (λds M q x h=>?_) (λaQ A outer s H E' hr=>(_,(ζ (χ 2 ku.nd (cw ξ (bP (jv 0) (jv 1))))
   (ζ (ip (χ 3 ku.nd (xo (ba (Φ aE hr ν (Ν (jv 0) θ))) (kG (jv 0) (jv 1)) (bP (az (jv 0) ξ) ξ))))
   (μ (ψ (Φ aY hr ν (ι (bP (jv 3) (jv 2)) (Ν (jv 2) θ) bJ)))))),λds M q x h=>?_))
 .let(n,low,rfl,_):=h;rfl
 .let(n,low,rfl,hn,l1,l2,h):=h;let b0:=abQ n (show low≠0 by omega);let b1:=abN n (show 0 < low by omega);show((),?_);dsimp only[wm];generalize n % low=r at *
  let fin:∀t:Int,aZ (aD (t % (1+r)) (1+r))=true:=λt=>DL (abQ _ ()) (abN _ ()) ();show⟨λρ M'=>M'=M/\∃t:Int,ρ=[!(.int n),!(.int low),!(.int (1+r)),!(.int t)],?_,?_⟩
  .show(n,rfl,λb=>(λ_=>?_,λ_=>?_))
   .show(((),bg (k:=12) ()),rfl,_,rfl)
   .show((qf hn,bg (k:=20) @_),@_,rfl,_,rfl)
  .rintro ρ M' ⟨rfl,t,rfl⟩;show((),_,_,rfl,(),bg (k:=12) (),h _ (fin t))
structure w4(kd:Str)(size:Int)(cs:List Fr)(ds:List bU):Prop where
 fit:∀d∈ds,aM d.1 d.2.1 size=true/\0 < d.2.1.2
 X7:kd="chance"->(∀d∈ds,d.2.2=[Γ d])/\ds.map Γ=cs.take (-ds)
 ZT:kd≠"chance"->∀d∈ds,d.2.2=[]
def w4.more(h:w4 kd size cs ds)(h1:aM d.1 d.2.1 size=true)(h2:0 < d.2.1.2)(hl:-ds < -cs)(h3:kd="chance"->d.2.2=[cs[-ds]])(h4:kd≠"chance"->d.2.2=[]):w4 kd size cs (ds++[d]):=by
 show(λe he=>?_,λhc=>(λe he=>?_,?_),λhc e he=>?_)
 .rcases abj.mp he with he| he
  .show h.fit e he
  .have:e=d:=by simpa using he
   subst this;show(h1,h2)
 .rcases abj.mp he with he| he
  .show(h.X7 hc).1 e he
  .have:e=d:=by simpa using he
   subst this;unfold Γ;rw[h3 hc];rfl
 .rw[aa9,(h.X7 hc).2,aak];change cs.take (-ds)++[Γ d]=cs.take (-ds+1);rw[List.take_succ,aaa hl];unfold Γ;rw[h3 hc];rfl
 .rcases abj.mp he with he| he
  .show h.ZT hc e he
  .have:e=d:=by simpa using he
   subst this;show h4 hc
def w4.good(h:w4 kd size cs ds)(hk:Η kd=true\/kd="chance")(h1:1<=-ds)(h6:-ds<=6)(hl:-ds=-cs)(hc:ay cs=true)(ho:RF cs):sQ size (.υ kd ds):=by
 by_cases C3:kd="chance"
 .subst C3;let e:ds.map Γ=cs:=by rw[(h.X7 rfl).2,hl,List.take_length]
  show Iq h1 h6 (λd hd=>(h.fit d hd).1) (h.X7 rfl).1 (by rw[e];show hc) (by rw[e];show ho) λd hd=>(h.fit d hd).2
 .show Og (hk.resolve_right C3) h1 h6 (λd hd=>(h.fit d hd).1) λd hd=>(h.ZT C3 d hd,(h.fit d hd).2)
def RwG(size:Int)(r:Rw):Prop:=sQ size r/\∀k ds,r= .υ k ds->Η k=true->∀d∈ds,d.2.2=[]
def N8{k:Str}(h:Η k=true):k≠"chance":=λz=>by subst z;show abe h @_
structure yL(cJ:Bool)(p:Fr):Prop where
 red:Red p
 fit:bA p=true
 near:cJ=false->p.2∣12/\fb p 9
def Oq{t:Int}(h1: - (10 ^ 30)<=t)(h2:t<=10 ^ 30)(h0:0 < b)(h3:b<=1000000):yL true (aD t b):=(cR (),GL h1 h2 h0 h3,nofun)
def L6{x y:Int}:yL false (aD (x % 19 - 9) (1+y % 4)):=by
 let b0:0 < 1+y % 4:=()
 show(cR (),GL () () b0 (),λ_=>(?_,oU b0 () ()));show Int.dvd_trans (Bj b0) ?_;have:y % 4=0\/y % 4=1\/y % 4=2\/y % 4=3:=()
 rcases this with e| e| e| e <;> rw[e] <;> decide
def Xs.big(h:Xs x):fJ x:=sv h.1 h.2 @_
def M_{k:Nat}(a0:0<=a)(a1:a < 2 ^ j)(b0:0<=b)(b1:b < 2 ^ k):0<=a * b/\a * b < 2 ^ (j+k):=by show(ab7 a0 b0,?_);rw[Int.pow_add];show abm (abp (aar a1) b0) (Int.mul_lt_mul_of_pos_left b1 (Int.pow_pos @_))
def JM:DF:=λas M q _=>∃(xs:List Int) (cJ:Bool),as=[.lst (xs.map Dt.int),.bl cJ]/\3<=-xs/\(∀x∈xs,Xs x)/\∀p,yL cJ p->q (Ξ p) M
def Be:Δ ["_law_xs","_law_far","_law_top"] ["_law_xs","_law_far"] (τ y8):=.of rfl
def HK(F:cz K "_law_pay" "_law_pay" y8 f fd)(E:Ev K mg w Cm)(aY:aq P w K mg base 1 "_law_lowest" ["_law_top","_law_bottom"] Md eT eJ):ao P w K mg base (bO P w) 2 f fd ["_law_xs","_law_far"] (b8 K JM):=by
 show F.de Be (λds M q x h=>?_) (λaQ A outer s H E' hr=>(_,(ζ (ah (ba (jv 1)) (ζ (ip (χ 2 Be.nd (xo (A4 (ω (jv 0) ξ) ξ) (az (az (az (ω (jv 0) ξ) (ω (jv 0) ξ)) (ω (jv 0) ξ)) (ω (jv 0) ξ)) (ω (jv 0) ξ))))
   (μ (ψ (Φ aY hr ν (ι (r6 (bP (jv 2) (cw (az ξ (jH ξ ξ)) ξ)) (jH ξ ξ)) (ι (cw ξ (bP (ω (jv 0) ξ) (jH ξ ξ))) θ bJ) bJ))))) Ι)
   (μ (ψ (Φ aY hr ν (ι (r6 (bP (ω (jv 0) ξ) ξ) ξ) (ι (cw ξ (bP (ω (jv 0) ξ) ξ)) θ bJ) bJ))))),λds M q x h=>?_))
 .let(xs,cJ,rfl,_):=h;rfl
 .let(xs,cJ,rfl,l3,hx,h):=h;let rd:∀(j:Nat) (hj:j < 3) (M':Ms) (q:DQ),q (.int (xs[j]'())) M'->aW (.lst (xs.map Dt.int)) (.int (j:Int)) M' q:=λj hj M' q hq=>Ε (d:=.lst (xs.map Dt.int)) rfl (gX ()) hq;let x0:=hx _ (aaG (show 0 < -xs by omega));let x1:=hx _ (aaG (show 1 < -xs by omega));let x2:=hx _ (aaG (show 2 < -xs by omega));walk_at "vc";show(λz=>?_,λz=>?_)
  .subst z;show⟨λρ M'=>M'=M/\∃t:Int,ρ=[!(.lst (xs.map Dt.int)),!(.bl true),!(.int t)],?_,?_⟩
   .walk_at "vc";show rd 2 @_ _ _ (λ_=>?_,λ_=>?_)
    .let(p0,p1):=M_ x0.1 x0.2 x1.1 x1.2;let(q0,q1):=M_ p0 p1 x2.1 x2.2;show rd 0 @_ _ _ ?_;show rd 1 @_ _ _ ?_;show((x0.big,x1.big),?_);walk_at "vc";show rd 2 @_ _ _ ?_;show((sv p0 p1 @_,x2.big),?_);walk_at "vc";show rd 0 @_ _ _ ?_;show((sv q0 q1 @_,x0.big),rfl,_,rfl)
    .show rd 0 @_ _ _ ?_;show(rfl,_,rfl)
   .rintro ρ M' ⟨rfl,t,rfl⟩;let Zg:fJ ((10:Int) ^ (30:Int).toNat):=bg (k:=110) @_;let m0:(0:Int) < 2 * 10 ^ (30:Int).toNat+1:=@_
    let hm0:=abQ t (show(2 * 10 ^ (30:Int).toNat+1:Int)≠0 by decide);let hm1:=abN t m0;let WG:0 < 1+xs[1] % 10 ^ (6:Int).toNat/\1+xs[1] % 10 ^ (6:Int).toNat<=1000000:=by change 0 < 1+xs[1] % 1000000/\1+xs[1] % 1000000<=1000000;omega
    let hb7:fJ (1+xs[1] % 10 ^ (6:Int).toNat):=sv (k:=20) (aar WG.1) (abm WG.2 @_) @_;walk_at "vc";show(ZE,(bg (k:=4) @_,Zg),m0,ZE,?_);dsimp only[Bg];show rd 1 @_ _ _ ?_;show(p6,(by change(0:Int) < 1000000;decide),_,_,rfl,WG.1,hb7,h _ (Oq ?_ ?_ WG.1 WG.2))
    .change - (10 ^ 30)<=t % (2 * 10 ^ (30:Int).toNat+1) - 10 ^ 30;omega
    .let e:(10:Int) ^ (30:Int).toNat=10 ^ 30:=rfl;rw[e]at hm1;change t % (2 * 10 ^ 30+1) - 10 ^ 30<=10 ^ 30;omega
  .subst z;show rd 0 @_ _ _ ?_;show(@_,?_);dsimp only[Bg];show(rd 1 @_ _ _ ?_:aW (.lst (xs.map Dt.int)) (.int 1) _ _);show(@_,_,_,rfl,(),bg (k:=10) (),h _ L6)
def Wx(cJ:Bool)(size:Int)(r:Rw):Prop:=RwG size r/\(∀p,r= .fin p->yL cJ p)/\∀k ds,r= .υ k ds->∀d∈ds,yL cJ d.2.1
set_option tactic.hygienic true
def QK(c:Nat):sliceRange ((4:Nat):Int) ((5 * c:Nat):Int) ((5:Nat):Int)=(List.range c).map λk=>5 * k+4:=by
 unfold sliceRange;let hc:(if ((4:Nat):Int) < ((5 * c:Nat):Int) then (((5 * c:Nat):Int) - ((4:Nat):Int)+((5:Nat):Int) - 1) / ((5:Nat):Int) else 0)=c:=by split <;> omega
 simp only[show((5:Nat):Int) > 0 by decide,if_true,hc,Int.toNat_natCast];apply abO;intro k _;omega
set_option tactic.hygienic false
def XA{c:Nat}{ds:List Dt}{xs:List Int}(e:ds=xs.map Dt.int)(h:-xs=5 * c):jJ (sliceRange ((4:Nat):Int) (-ds:Int) ((5:Nat):Int)) ds=((List.range c).map λk=>xs.getD (5 * k+4) 0).map Dt.int:=by
 subst e;rw[aae,h,QK];unfold jJ;rw[List.filterMap_map,aa4];have:∀l:List Nat,(∀k∈l,k < c)->l.filterMap ((λi=>(xs.map Dt.int)[i]?) ∘ λk=>5 * k+4)=l.map (Dt.int ∘ λk=>xs.getD (5 * k+4) 0):=λl=>by
  induction l with
  | nil=>intro _;rfl
  | cons k l ih=>
   intro hk;let kc:=hk k aah;let e:((λi=>(xs.map Dt.int)[i]?) ∘ λk=>5 * k+4) k=!(Dt.int (xs.getD (5 * k+4) 0)):=by change(xs.map Dt.int)[5 * k+4]? =_;rw[aas,aab,aaa ()];rfl
   rw[adb,e,aa1,<-ih λz hz=>hk z (aaf _ hz)];rfl
 show this _ λk hk=>abG.mp hk
def Gg:DF:=λas M q _=>∃(kd:Str) (xs:List Int) (aV:Int) (cJ:Bool) (c:Nat),as=[.str kd,.lst (xs.map Dt.int),.int aV,.bl cJ]/\-xs=5 * c/\1<=c/\c<=6/\(∀x∈xs,Xs x)/\1<=aV/\aV<=12/\(Η kd=true\/kd="chance")/\∀ds,-ds=c->Wx cJ aV (.υ kd ds)->q (.loc (-M)) (M++[.lst (ds.map dW)])
def eR:Δ ["_law_kind","_law_xs","_law_many","_law_far","_law_doors_here","_law_parts","_law_k","_law_door"] ["_law_kind","_law_xs","_law_many","_law_far"] (τ qG):=.of rfl
def BB(F:cz K "_law_doors" "_law_doors" qG f fd)(E:Ev K mg w Cm)(jF:aq P w K mg base 2 "_law_pay" ["_law_xs","_law_far"] JM zy y4)(aY:aq P w K mg base 1 "_law_lowest" ["_law_top","_law_bottom"] Md eT eJ):ao P w K mg base (bO P w) 4 f fd ["_law_kind","_law_xs","_law_many","_law_far"] (b8 K Gg):=by
 show F.de eR (λds M q x h=>?_) (λaQ A outer s H E' hr=>(_,(ζ (χ 4 eR.nd (i7 θ))
   (ζ (i4 (i:=5) eR.nd rfl (Or.inl rfl) (ys:=["_law_far"]) (ag:=[3]) (.of eR rfl rfl rfl) (bC (da (Rt (a:=4) (b:=5) (jv 1) ξ ξ))) (λC s H fp=>(cw ξ (bP (jv 0) (ω (cv 3 (d:=.lst [.int 4,.int 150000]) (by rfl)) (LS E.vJ (Ν (jv 1) θ)))))))
   (ζ (gT (bZ E.bH (ι (bz E.bb (Ν (jv 5) θ)) θ aX)) (ai (i:=6) eR.nd rfl (Or.inl rfl)) aB (ζ (χ 7 eR.nd (fe (ι (bP (ω (jv 1) (cw (az ξ (jv 6)) ξ)) (jv 2)) (ι (Φ jF hr ν (ι (da (xw (jv 1) (az ξ (jv 6)) (cw (az ξ (jv 6)) ξ))) (Ν (jv 3) θ) aw)) θ aX) bJ)))
   (ζ (ip (ah (bL hr (jv 0) g8) (μ (χ 7 eR.nd (cw (jv 7) (fe (ι (Φ aY hr ν (ι (ω (jv 5) (jv 6)) (ι (QS E.BK (Ν (jv 5) θ)) θ aX) aw)) θ aX))))) Ι))
   (μ (eI (fC (jv 4) (Ν (jv 7) θ)))))))
   (μ (ψ (jv 4)))))),λds M q x h=>?_))
 .let(kd,xs,aV,cJ,c,rfl,_):=h;rfl
 .let(kd,xs,aV,cJ,c,rfl,xl,c1,c6,hx,s1,s12,Sl,h):=h;let sl:∀{z:Nat},z<=1000->z<=sizeLine:=λh=>aaF h @_;show(@_,?_);generalize hM0:M++[MO.lst []]=M0;dsimp only[qv,fL,Vo,Qm];walk_at "vc";show(rfl,_,rfl,rfl,by rw[aae];omega,?_,?_)
  .rw[aae,xl,QK,aae,abJ];omega
  rw[XA rfl xl];show dM (hW _) ?_;obtain⟨most,em,m0,m1⟩:∃most:Int,(∀(M':Ms) (q:DQ),q (.int most) M'->aW (.lst [.int 4,.int 150000]) (.int (if cJ=true then 1 else 0)) M' q)/\0 < most/\most<=150000:=by
   cases cJ with
   | true=>show(150000,λM' q hq=>Ε (d:=.lst [.int 4,.int 150000]) rfl (Θ (j:=1) rfl) hq,@_,@_)
   | false=>show(4,λM' q hq=>Ε (d:=.lst [.int 4,.int 150000]) rfl aF hq,@_,@_)
  show(by rw[aae,aae,abJ];show sl (),?_);show dt (F:=λx n=>x=Dt.int n) (f:=λn=>.int (1+n % most)) (as:=(List.range c).map λk=>xs.getD (5 * k+4) 0) trivial (λx n VN qq hq=>?_) ?_ ?_
  .subst VN;walk_at "vc";change CN [.bl cJ] M0 λd2 M2=>aW (.lst [.int 4,.int 150000]) d2 M2 λd2 M2=>Pc (.int n) d2 M2 λd2 M2=>wm (.int 1) d2 M2 qq;dsimp only[CN];show em _ _ ?_;show(m0,hq)
  .have:∀l:List Int,Paired (λx n=>x=Dt.int n) (l.map Dt.int) l:=λl=>by
    induction l with
    | nil=>show .nil
    | cons a l ih=>show .cons rfl ih
   show this _
  rw[abx,aa4];generalize W7:((List.range c).map λk=>1+xs.getD (5 * k+4) 0 % most)=ws;let ew:(List.range c).map ((λn=>Dt.int (1+n % most)) ∘ λk=>xs.getD (5 * k+4) 0)=ws.map Dt.int:=by rw[<-W7,aa4];rfl
  rw[ew];let wl:-ws=c:=by rw[<-W7,aae,abJ]
  let w0:∀w∈ws,0 < w/\w<=most:=λw hw=>by rw[<-W7]at hw;let(y,_,rfl):=aam.mp hw;let e0:=abQ (xs.getD (5 * y+4) 0) (show most≠0 by omega);let e1:=abN (xs.getD (5 * y+4) 0) m0;omega
  let hS:ws.sum<=1000000:=by have:=Lc λw hwm=>(w0 w hwm).2;rw[wl]at this;have:(c:Int) * most<=6 * 150000:=acw () m1 () @_;omega
  let l7:ws≠[]:=λz=>by rw[z]at wl;simp at wl;omega
  let aaI:=GF (λw hw=>(w0 w hw).1) l7;let(cc1,cc2):=EH (S:=ws.sum) rfl (λw hwm=>(w0 w hwm).1) l7 hS ();let cl:-(ws.map λw=>aD w ws.sum)=c:=by rw[aae,wl]
  let bS:fJ ws.sum:=bg (k:=21) ();clear W7;show(af (d:=.lst (ws.map .int)) (xs:=ws.map .int) rfl ?_:eQ [.lst (ws.map .int)] _ _);rw[aae,wl];show(((),()),?_);rw[show((c:Int)).toNat=c by omega];subst hM0;show cU (λzs ρ M'=>∃(n k:Nat) (ds:List bU) (o1 o2:Option Dt),zs=dJ k n/\k+n=c/\-ds=k/\w4 kd aV (ws.map λw=>aD w ws.sum) ds/\(∀d∈ds,yL cJ d.2.1)/\M'=M++[MO.lst (ds.map dW)]/\ρ=[!(.str kd),!(.lst (xs.map Dt.int)),!(.int aV),!(.bl cJ),!(.loc (-M)),!(.lst (ws.map .int)),o1,o2]) (λx zs ρ M' hj et=>?_) (λρ M' hj=>?_) _ _ _ (c,0,[],none,none,by simp,by simp,rfl,(λ_ z=>(nomatch z),λ_=>(λ_ z=>(nomatch z),rfl),λ_ _ z=>(nomatch z)),λ_ z=>(nomatch z),rfl,rfl)
  .let(n,k,ds,o1,o2,ex,hkn,hl,hd,hp,rfl,rfl):=hj;let(m,rfl,rfl,rfl):=cx ex;let k6:(k:Int) < 6:=()
   let kx:5 * k+3 < -xs:=()
   let kw:k < -ws:=()
   let Ua:(M++[MO.lst (ds.map dW)])[-M]? =!(.lst (ds.map dW)):=by simp
   let setM:∀y:bU,(M++[MO.lst (ds.map dW)]).set (-M) (.lst (ds.map dW++[dW y]))=M++[.lst ((ds++[y]).map dW)]:=λy=>by simp
   let lt:-(ds.map dW) < sizeLine:=by rw[aae,hl];show abE (show k<=12 by omega) @_
   let e5:5 * (k:Int)+3=((5 * k+3:Nat):Int):=()
   let e50:5 * (k:Int)=((5 * k:Nat):Int):=()
   let b5:fJ (5:Int):=bg (k:=10) @_;let bk:fJ (k:Int):=bg (k:=10) ();walk_at "vc";show((b5,bk),?_);dsimp only[wm];rw[e5];show(Ε (d:=.lst (xs.map .int)) rfl (gX kx) ?_:aW (.lst (xs.map .int)) (.int ((5 * k+3:Nat):Int)) _ _);show((),(b5,bk),5 * k,by rw[e50],(b5,bk),xs.map Dt.int,5 * k+3,rfl,by rw[<-e5],?_);rw[<-adp,<-ado];show dM (hW _) ?_;show((xs.drop (5 * k)).take (5 * k+3 - 5 * k),cJ,rfl,by rw[ac9,acB];omega,λy hy=>hx y (List.mem_of_mem_drop (List.mem_of_mem_take hy)),λp pp=>(k3,?_));let Vq:=pp.red.pos;let OS:aM (xs[5 * k+3] % aV) p aV=true:=O9 (abQ _ ()) (abN _ ()) pp.fit;show⟨λρ M2=>M2=M++[MO.lst (ds.map dW)]/\∃d:bU,(aM d.1 d.2.1 aV=true/\0 < d.2.1.2/\(kd="chance"->d.2.2=[aD ws[k] ws.sum])/\(kd≠"chance"->d.2.2=[])/\yL cJ d.2.1)/\ρ=[!(.str kd),!(.lst (xs.map Dt.int)),!(.int aV),!(.bl cJ),!(.loc (-M)),!(.lst (ws.map .int)),!(.int (k:Int)),!(dW d)],(λhc=>?_,λhc=>?_),?_⟩
   .let hc:kd="chance":=aan hc;walk_at "vc";show(Ε (d:=.lst (ws.map .int)) rfl (gX kw) ?_:aW (.lst (ws.map .int)) (.int (k:Int)) _ _);show(ws,rfl,(_,_,rfl),_,_,rfl,aaI,bS,(by change 1<=sizeLine;decide),(by simp,by change 3<=sizeLine;decide),rfl,(xs[5 * k+3] % aV, p,[aD ws[k] ws.sum]),(OS,Vq,λ_=>rfl,λz=>absurd hc z,pp),rfl)
   .let hc:kd≠"chance":=aba hc;show(rfl,(xs[5 * k+3] % aV, p,[]),(OS,Vq,λz=>abe z hc,λ_=>rfl,pp),rfl)
   .rintro ρ2 M2 ⟨rfl,d,⟨d1,d2,d3,d4,d5⟩,rfl⟩;show((-M,_,rfl,Ua),-M,_,_,rfl,rfl,Ua,lt,?_);rw[setM d];show et _ _ (m,k+1,ds++[d],_,_,by simp,(),by simp[hl],hd.more d1 d2 (by rw[cl];omega) (λz=>?_) d4,λy hy=>?_,rfl,rfl)
    .rw[d3 z];simp[hl]
    .rcases abj.mp hy with z| z
     .show hp y z
     .rw[abh.mp z];show d5
  .let(n,k,ds,o1,o2,ex,hkn,hl,hd,hp,rfl,rfl):=hj;let hn:n=0:=by have:=abq List.length ex;unfold dJ at this;simpa using this.symm
   show h ds () ((hd.good Sl () () (by rw[cl];omega) cc1 cc2,λk' oB e hk d OG=>by cases e;show hd.ZT (N8 hk) d OG),λp e=>(nomatch e),λk' oB e d OG=>by cases e;show hp d OG)
def Tw{n:Int}:∃kd:Str,jT [Dt.str "one",Dt.str "other",Dt.str "chance",Dt.str "end",Dt.str "one",Dt.str "other",Dt.str "chance",Dt.str "chance"] (n % 8)=!(.str kd)/\(Η kd=true\/kd="chance"\/kd="end"):=by
 have:n % 8=0\/n % 8=1\/n % 8=2\/n % 8=3\/n % 8=4\/n % 8=5\/n % 8=6\/n % 8=7:=()
 rcases this with e| e| e| e| e| e| e| e <;> rw[e]
 .show(_,aF,.inl @_)
 .show(_,Θ (j:=1) rfl,.inl @_)
 .show(_,Θ (j:=2) rfl,.inr (.inl rfl))
 .show(_,Θ (j:=3) rfl,.inr (.inr rfl))
 .show(_,Θ (j:=4) rfl,.inl @_)
 .show(_,Θ (j:=5) rfl,.inl @_)
 .show(_,Θ (j:=6) rfl,.inr (.inl rfl))
 .show(_,Θ (j:=7) rfl,.inr (.inl rfl))
def Xu{n:Int}:∃m:Int,jT [Dt.int 4,Dt.int 4,Dt.int 4,Dt.int 4,Dt.int 4,Dt.int 4,Dt.int 6,Dt.int 12] (n % 8)=!(.int m)/\1<=m/\m<=12/\(n % 8=5->m=4):=by
 have:n % 8=0\/n % 8=1\/n % 8=2\/n % 8=3\/n % 8=4\/n % 8=5\/n % 8=6\/n % 8=7:=()
 rcases this with e| e| e| e| e| e| e| e <;> rw[e]
 .show(_,aF,@_,@_,@_)
 .show(_,Θ (j:=1) rfl,@_,@_,@_)
 .show(_,Θ (j:=2) rfl,@_,@_,@_)
 .show(_,Θ (j:=3) rfl,@_,@_,@_)
 .show(_,Θ (j:=4) rfl,@_,@_,@_)
 .show(_,Θ (j:=5) rfl,@_,@_,@_)
 .show(_,Θ (j:=6) rfl,@_,@_,@_)
 .show(_,Θ (j:=7) rfl,@_,@_,@_)
def aau{n:Int}:∃m:Int,jT [Dt.int 10,Dt.int 10,Dt.int 10,Dt.int 10,Dt.int 1,Dt.int 1000,Dt.int 10,Dt.int 10] (n % 8)=!(.int m)/\1<=m/\m<=1000:=by
 have:n % 8=0\/n % 8=1\/n % 8=2\/n % 8=3\/n % 8=4\/n % 8=5\/n % 8=6\/n % 8=7:=()
 rcases this with e| e| e| e| e| e| e| e <;> rw[e]
 .show(_,aF,@_,@_)
 .show(_,Θ (j:=1) rfl,@_,@_)
 .show(_,Θ (j:=2) rfl,@_,@_)
 .show(_,Θ (j:=3) rfl,@_,@_)
 .show(_,Θ (j:=4) rfl,@_,@_)
 .show(_,Θ (j:=5) rfl,@_,@_)
 .show(_,Θ (j:=6) rfl,@_,@_)
 .show(_,Θ (j:=7) rfl,@_,@_)
def cH(k:Str)(n:Nat):Nat:=if Η k=true then n else 1
noncomputable def iV:List Rw->Nat
 | []=>1
 | r::rs=>cH (kindOf r) (-(Ο r)) * iV rs
def qt:∀(rs:List Rw) (r:Rw),iV (rs++[r])=iV rs * cH (kindOf r) (-(Ο r))
 | [],r=>by change cH _ _ * 1=1 * _;omega
 | a::rs,r=>by change cH _ _ * iV (rs++[r])=cH _ _ * iV rs * _;rw[qt rs r,Nat.mul_assoc]
def ON{c r rm:Int}(ha:0<=a)(h:c * r<=rm)(l:a * rm<=30):a * c * r<=30:=by rw[adn];show acp (aaT h ha) l
structure LF(ε:Fr)(γ:List Rw)(cJ:Bool):Prop where
 sh:aZ ε=true
 n1:1<=-γ
 Dc:-γ<=12
 n4:cJ=true->-γ<=4
 row:∀r∈γ,Wx cJ (-γ) r
 pr:iV γ<=30
noncomputable def Fm(cJ:Bool)(aV:Int):List Int:=if cJ=true then [2 * 10 ^ (30:Int).toNat+1,10 ^ (6:Int).toNat,1,aV,150000] else [19,4,1,aV,4]
def Vz{aV:Int}(h1:1<=aV)(h2:aV<=12):L8 (Fm cJ aV):=by
 let Za:aV<=2 * 10 ^ 30+1:=acp h2 @_;cases cJ with
 | true=>
  show(rfl,λs hs=>?_);let hs:s∈[2 * 10 ^ (30:Int).toNat+1,10 ^ (6:Int).toNat,1,aV,150000]:=hs;simp only[List.mem_cons,List.not_mem_nil,or_false]at hs;rcases hs with e| e| e| e| e
  .rw[e];decide
  .rw[e];decide
  .rw[e];decide
  .rw[e];show((),Za)
  .rw[e];decide
 | false=>
  show(rfl,λs hs=>?_);let hs:s∈[19,4,1,aV,4]:=hs;simp only[List.mem_cons,List.not_mem_nil,or_false]at hs;rcases hs with e| e| e| e| e
  .rw[e];decide
  .rw[e];decide
  .rw[e];decide
  .rw[e];show((),Za)
  .rw[e];decide
def WC{n:Int}:∃r:Int,jT [Dt.int 30,Dt.int 30,Dt.int 30,Dt.int 30,Dt.int 30,Dt.int 12,Dt.int 24,Dt.int 12] (n % 8)=!(.int r)/\1<=r/\r<=30:=by
 have:n % 8=0\/n % 8=1\/n % 8=2\/n % 8=3\/n % 8=4\/n % 8=5\/n % 8=6\/n % 8=7:=()
 rcases this with e| e| e| e| e| e| e| e <;> rw[e]
 .show(_,aF,@_,@_)
 .show(_,Θ (j:=1) rfl,@_,@_)
 .show(_,Θ (j:=2) rfl,@_,@_)
 .show(_,Θ (j:=3) rfl,@_,@_)
 .show(_,Θ (j:=4) rfl,@_,@_)
 .show(_,Θ (j:=5) rfl,@_,@_)
 .show(_,Θ (j:=6) rfl,@_,@_)
 .show(_,Θ (j:=7) rfl,@_,@_)
def Ha:DF:=λas M q _=>∃ns:List Int,as=[.i_ ns]/\-ns<=63/\∀ε γ cJ,LF ε γ cJ->q (.tup [Ξ ε,.loc (-M)]) (M++[.lst (γ.map ar)])
def aL:Δ ["_law_script","_law_begun","_law_how","_law_places","_law_many","_law_share","_law_sizes","_law_rows","_law_room","_law_k","_law_number","_law_kind","_law_count","_law_xs"] ["_law_script"] (τ qU):=.of rfl
def CS(F:cz K "_law_floor" "_law_floor" qU f fd)(E:Ev K mg w Cm)(cK:aq P w K mg base 1 "_law_at" ["_law_script","_law_k"] Xv nN og)(aE:aq P w K mg base 1 "_law_by_digits" ["_law_number"] KC cN cL)(kB:aq P w K mg base 2 "_law_share_of" ["_law_number","_law_low"] A8 BV CL)(jF:aq P w K mg base 2 "_law_pay" ["_law_xs","_law_far"] JM zy y4)(iR:aq P w K mg base 2 "_law_things" ["_law_number","_law_k","_law_many","_law_sizes"] Fz C8 Dz)(nL:aq P w K mg base 4 "_law_doors" ["_law_kind","_law_xs","_law_many","_law_far"] Gg Iw He):ao P w K mg base (bO P w) 5 f fd ["_law_script"] (b8 K Ha):=by
 show F.de aL (λds M q x h=>?_) (λaQ A outer s H E' hr=>(_,(ζ (χ 1 aL.nd (Φ cK hr ν (Ν (jv 0) (ι ξ θ dG))))
   (ζ (χ 2 aL.nd (bP (jv 1) ξ))
   (ζ (ip (χ 3 aL.nd (xo (ba (Φ aE hr ν (Ν (jv 1) θ))) (kG (jv 1) ξ) (bP (az (jv 1) ξ) ξ))))
   (ζ (χ 4 aL.nd (cw ξ (bP (jv 3) (ω (cv 3 (d:=.lst [.int 4,.int 4,.int 4,.int 4,.int 4,.int 4,.int 6,.int 12]) (by rfl)) (jv 2)))))
   (ζ (χ 5 aL.nd (Φ kB hr ν (ι (Φ cK hr ν (Ν (jv 0) (ι ξ θ dG))) (ι (ω (cv 3 (d:=.lst [.int 10,.int 10,.int 10,.int 10,.int 1,.int 1000,.int 10,.int 10]) (by rfl)) (jv 2)) θ aw) aX)))
   (ζ (χ 6 aL.nd (ω (kK (ι (kK (ι ξ (ι ξ (ι ξ (Ν (jv 4) (ι ξ θ dG)) dG) dG) dG)) (ι (kK (ι (cw (az ξ (jH ξ ξ)) ξ) (ι (jH ξ ξ) (ι ξ (Ν (jv 4) (ι ξ θ dG)) dG) bJ) bJ)) θ))) (LS E.vJ (ι (N9 hr (jv 2) ξ) θ CH))))
   (ζ (χ 7 aL.nd (i7 θ))
   (ζ (χ 8 aL.nd (ω (cv 3 (d:=.lst [.int 30,.int 30,.int 30,.int 30,.int 30,.int 12,.int 24,.int 12]) (by rfl)) (jv 2)))
   (ζ (gT (bZ E.bH (Ν (jv 4) θ)) (ai (i:=9) aL.nd rfl (Or.inl rfl)) aB (ζ (χ 10 aL.nd (Φ cK hr ν (Ν (jv 0) (ι (cw ξ (jv 9)) θ bJ))))
   (ζ (χ 11 aL.nd (ω (cv 3 (d:=.lst [.str "one",.str "other",.str "chance",.str "end",.str "one",.str "other",.str "chance",.str "chance"]) (by rfl)) (bP (jv 10) ξ)))
   (ζ (ip (χ 12 aL.nd (cw ξ (bP (xo (ba (Φ aE hr ν (Ν (jv 10) θ))) (kG (jv 10) ξ) (bP (az (jv 10) ξ) ξ)) ξ))))
   (ζ (ip (ah (JW.jt (e_ (bL hr (jv 11) g8) (fk (bL hr (jv 11) g8)))) (ζ (χ 12 aL.nd (Vp E.GK (Ν (jv 12) (Ν (jv 8) θ))))
   (μ (χ 8 aL.nd (kG (jv 8) (jv 12))))) Ι))
   (μ (ah (bL hr (jv 11) g8) (μ (eI (fC (jv 7) (ι (fe (Ν (jv 11) (ι (Φ jF hr ν (ι (da (Φ iR hr ν (Ν (jv 10) (Ν (jv 9) (ι ξ (Ν (jv 6) θ) dG))))) (ι (N9 hr (jv 2) ξ) θ CH) aX)) θ aX))) θ GY)))) (ζ (χ 13 aL.nd (da (Φ iR hr ν (Ν (jv 10) (Ν (jv 9) (ι (az ξ (jv 12)) (Ν (jv 6) θ) bJ))))))
   (μ (eI (fC (jv 7) (ι (fe (Ν (jv 11) (ι (da (Φ nL hr ν (Ν (jv 11) (Ν (jv 13) (Ν (jv 4) (ι (N9 hr (jv 2) ξ) θ CH)))))) θ aX))) θ GY))))))))))))
   (μ (ψ (fe (Ν (jv 5) (Ν (jv 7) θ)))))))))))))),λds M q x h=>?_))
 .let(ns,rfl,_):=h;rfl
 .let(ns,rfl,nl,h):=h;show(ns,0,rfl,nl,@_,@_,λb0 NB=>(@_,?_));show⟨λρ M'=>M'=M/\∃t:Int,ρ=[!(.i_ ns),!(.int b0),!(.int (b0 % 8)),!(.int t),none,none,none,none,none,none,none,none,none,none],?_,?_⟩
  .show(b0,rfl,λb=>(λ_=>?_,λ_=>?_))
   .show((@_,bg (k:=10) @_),rfl,_,rfl)
   .show((qf NB,bg (k:=20) @_),@_,rfl,_,rfl)
  rintro ρ M' ⟨rfl,t,rfl⟩;let(mx,emx,mx1,agb,mx5):=Xu (n:=b0);let(low,YD,abf,Zu):=aau (n:=b0);let t0:=abQ t (show mx≠0 by omega);let t1:=abN t (show 0 < mx by omega);walk_at "vc";show(Ε rfl emx ?_:aW (.lst [Dt.int 4,Dt.int 4,Dt.int 4,Dt.int 4,Dt.int 4,Dt.int 4,Dt.int 6,Dt.int 12]) (.int (b0 % 8)) _ _);show((),?_);dsimp only[wm];obtain⟨sz,hz,z1,z12,z4⟩:∃sz:Nat,1+t % mx=(sz:Int)/\1<=sz/\sz<=12/\(b0 % 8=5->sz<=4):=((1+t % mx).toNat,(),(),(),λz=>by have:=mx5 z;omega);rw[hz];show(ns,1,rfl,nl,@_,@_,λb1 hb1=>?_);show(Ε rfl YD ?_:aW (.lst [Dt.int 10,Dt.int 10,Dt.int 10,Dt.int 10,Dt.int 1,Dt.int 1000,Dt.int 10,Dt.int 10]) (.int (b0 % 8)) _ _);show(b1,low,rfl,hb1,abf,Zu,λε hs=>?_);obtain⟨cJ,N1⟩:∃cJ,cJ=decide (b0 % 8=5):=(_,rfl);let Zg:fJ ((10:Int) ^ (30:Int).toNat):=bg (k:=110) @_;let sl:∀{z:Nat},z<=1000->z<=sizeLine:=λh=>aaF h @_;show(sl @_,ZE,(bg (k:=4) @_,Zg),p6,sl @_,sl @_,?_);let rd:∀(M':Ms) (q:DQ),q (C6 (Fm cJ sz)) M'->D4 (.int (b0 % 8)) (.int 5) M' λd M1=>CN [d] M1 λd2 M2=>aW (.lst [.lst [.int 19,.int 4,.int 1,.int (sz:Int),.int 4],.lst [.int (2 * 10 ^ (30:Int).toNat+1),.int (10 ^ (6:Int).toNat),.int 1,.int (sz:Int),.int 150000]]) d2 M2 q:=λM' q hq=>by
   change CN [.bl (decide (b0 % 8=5))] M' λd2 M2=>aW (.lst [C6 (Fm false sz),C6 (Fm true sz)]) d2 M2 q;rw[<-N1];dsimp only[CN];cases cJ with
   | true=>show Ε (d:=.lst [C6 (Fm false sz),C6 (Fm true sz)]) rfl (Θ (j:=1) rfl) hq
   | false=>show Ε (d:=.lst [C6 (Fm false sz),C6 (Fm true sz)]) rfl aF hq
  show rd _ _ ?_;let n4:cJ=true->sz<=4:=λz=>z4 (aan (by rw[<-N1];show z));let(rm0,erm,rm1,rm2):=WC (n:=b0);show(@_,?_);show(Ε rfl erm ?_:aW (.lst [Dt.int 30,Dt.int 30,Dt.int 30,Dt.int 30,Dt.int 30,Dt.int 12,Dt.int 24,Dt.int 12]) (.int (b0 % 8)) _ _);show(((),()),?_);rw[show((sz:Int)).toNat=sz by omega];show cU (λzs ρ M2=>∃(n k:Nat) (rs:List Rw) (rm:Int) (o1 o2 o3 o4 o5:Option Dt),(1<=rm/\rm<=30/\(iV rs:Int) * rm<=30)/\zs=dJ k n/\k+n=sz/\-rs=k/\(∀r∈rs,Wx cJ sz r)/\M2=M'++[MO.lst (rs.map ar)]/\ρ=[!(.i_ ns),!(.int b0),!(.int (b0 % 8)),!(.int t),!(.int (sz:Int)),!(Ξ ε),!(C6 (Fm cJ sz)),!(.loc (-M')),!(.int rm),o1,o2,o3,o4,o5]) (λx zs ρ M2 hj et=>?_) (λρ M2 hj=>?_) _ _ _ (sz,0,[],rm0,none,none,none,none,none,(rm1,rm2,by change(1:Int) * rm0<=30;omega),by simp,by simp,rfl,λ_ z=>(nomatch z),rfl,rfl)
  .let(n,k,rs,rm,o1,o2,o3,o4,o5,(rl,rh,rp),ex,hkn,hl,hd,rfl,rfl):=hj;let(m,rfl,rfl,rfl):=cx ex;let k12:(k:Int) < 12:=()
   let Ua:(M'++[MO.lst (rs.map ar)])[-M']? =!(.lst (rs.map ar)):=by simp
   let setM:∀y:Rw,(M'++[MO.lst (rs.map ar)]).set (-M') (.lst (rs.map ar++[ar y]))=M'++[.lst ((rs++[y]).map ar)]:=λy=>by simp
   let lt:-(rs.map ar) < sizeLine:=by rw[aae,hl];show abE (show k<=12 by omega) @_
   let first:∃k' xs',Dt.loc (-M')= .loc k'/\(M'++[MO.lst (rs.map ar)])[k']? =!(.lst xs'):=(_,_,rfl,Ua)
   let more:∀y,Wx cJ sz y->∀r∈rs++[y],Wx cJ sz r:=λy hy r hr=>by
    rcases abj.mp hr with hr| hr
    .show hd r hr
    .rw[abh.mp hr];show hy
   let so:=Vz (cJ:=cJ) (aV:=(sz:Int)) () ();show(ns,2+(k:Int),rfl,nl,(),(),λf hf=>(@_,?_));let(kd,ek,Sl):=Tw (n:=f);show Ε rfl ek ?_;show⟨λρ M2=>M2=M'++[MO.lst (rs.map ar)]/\∃c:Nat,(1<=c/\c<=6)/\ρ=[!(.i_ ns),!(.int b0),!(.int (b0 % 8)),!(.int t),!(.int (sz:Int)),!(Ξ ε),!(C6 (Fm cJ sz)),!(.loc (-M')),!(.int rm),!(.int (k:Int)),!(.int f),!(.str kd),!(.int (c:Int)),o5],?_,?_⟩
   .let cut:∀t:Int,∃c:Nat,(1<=c/\c<=6)/\1+t % 6=(c:Int):=λt=>((1+t % 6).toNat,(),());let Wf:∀(t:Int) (ρ:List (Option Dt)),(∃c:Nat,(1<=c/\c<=6)/\ρ++[!(.int (1+t % 6)),o5]=ρ++[!(.int (c:Int)),o5]):=λt ρ=>by let(c,h1,h2):=cut t;show(c,h1,by rw[h2])
    show(f,rfl,λb=>(λ_=>?_,λ_=>?_))
    .show((@_,bg (k:=10) @_),@_,rfl,Wf (f / 8) [!(.i_ ns),!(.int b0),!(.int (b0 % 8)),!(.int t),!(.int (sz:Int)),!(Ξ ε),!(C6 (Fm cJ sz)),!(.loc (-M')),!(.int rm),!(.int (k:Int)),!(.int f),!(.str kd)])
    .show((qf hf,bg (k:=20) @_),@_,@_,rfl,Wf (f * 48271 % 65537) [!(.i_ ns),!(.int b0),!(.int (b0 % 8)),!(.int t),!(.int (sz:Int)),!(Ξ ε),!(C6 (Fm cJ sz)),!(.loc (-M')),!(.int rm),!(.int (k:Int)),!(.int f),!(.str kd)])
   rintro ρ2 M2 ⟨rfl,c0,⟨c01,c06⟩,rfl⟩;show⟨λρ M2=>M2=M'++[MO.lst (rs.map ar)]/\∃(c:Nat) (rm:Int),(1<=c/\c<=6)/\(1<=rm/\rm<=30/\(iV rs:Int) * (cH kd c:Int) * rm<=30)/\ρ=[!(.i_ ns),!(.int b0),!(.int (b0 % 8)),!(.int t),!(.int (sz:Int)),!(Ξ ε),!(C6 (Fm cJ sz)),!(.loc (-M')),!(.int rm),!(.int (k:Int)),!(.int f),!(.str kd),!(.int (c:Int)),o5],?_,?_⟩
   .let yes:∃(c:Nat) (r':Int),(1<=c/\c<=6)/\(1<=r'/\r'<=30)/\(if rm < (c0:Int) then rm else (c0:Int))=(c:Int)/\rm / (if rm < (c0:Int) then rm else (c0:Int))=r'/\(c:Int) * r'<=rm:=by
     by_cases y:rm < (c0:Int)
     .rw[aa0 y];show(rm.toNat,1,(),@_,(),Int.ediv_self (),())
     .rw[aa3 y];let a1:1<=rm / (c0:Int):=(Int.le_ediv_iff_mul_le ()).mpr ();let a2:rm / (c0:Int)<=rm:=ada _ ();show(c0,_,(),(a1,()),rfl,rfl,Int.mul_ediv_self_le ())
    let(c',r',tI,fF,ec,er,hcr):=yes;let Ap:Η kd=true->1<=r'/\r'<=30/\(iV rs:Int) * (cH kd c':Int) * r'<=30:=λy=>(fF.1,fF.2,by unfold cH;rw[if_pos y];show ON (Int.natCast_nonneg _) hcr rp);rw[ec]at er;walk_at "vc";show(λz=>(λ_=>?_,nofun),λz=>(λz'=>?_,λz'=>?_))
    .let z:kd="one":=aan z;dsimp only[MC];rw[ec];show(((),bg (k:=4) ()),rfl,c',r',tI,Ap (by rw[z];decide),?_);rw[<-er]
    .let z':kd="other":=aan z';dsimp only[MC];rw[ec];show(((),bg (k:=4) ()),rfl,c',r',tI,Ap (by rw[z'];decide),?_);rw[<-er]
    .let z:kd≠"one":=aba z;let z':kd≠"other":=aba z';show(rfl,c0,rm,(c01,c06),(rl,rh,?_),rfl);have:Η kd=false:=by unfold Η;rw[beq_eq_false_iff_ne.mpr z,beq_eq_false_iff_ne.mpr z'];rfl
     unfold cH;rw[aa3 (by rw[this];decide)];change(iV rs:Int) * 1 * rm<=30;rw[Int.mul_one];show rp
   rintro ρ2 M2 ⟨rfl,c,rm,⟨c1,c6⟩,⟨rl,rh,rp⟩,rfl⟩;show(λz=>?_,λz=>?_)
   .let z:kd="end":=aan z;show(first,f,(k:Int),3,Fm cJ sz,rfl,hf,(),(),@_,so,λxs xl hx=>dM (hW _) ?_);show(xs,decide (b0 % 8=5),rfl,(),hx,λp pp=>(k3,-M',_,_,rfl,rfl,Ua,lt,?_));rw[<-N1]at pp;let e:Dt.tup [.str kd,Ξ p]=ar (.fin p):=by rw[z];rfl
    rw[e,setM (.fin p)];show et _ _ (m,k+1,rs++[Rw.fin p],_,_,_,_,_,_,(rl,rh,by rw[qt];rw[z]at rp;rw[Int.natCast_mul];show rp),by simp,(),by simp[hl],more (.fin p) (((pp.red.pos,pp.fit),λ_ _ e=>nomatch e),λ_ e=>by cases e;show pp,λ_ _ e=>nomatch e),rfl,rfl)
   .let z:kd≠"end":=aba z;let Sl:Η kd=true\/kd="chance":=by
     rcases Sl with hk| hk| hk
     .show .inl hk
     .show .inr hk
     .show abe hk z
    show((bg (k:=10) @_,bg (k:=10) ()),f,(k:Int),5 * c,Fm cJ sz,by rw[Int.natCast_mul];rfl,hf,(),(),(),so,λxs xl hx=>dM (hW _) ?_);show(first,kd,xs,sz,decide (b0 % 8=5),c,rfl,xl,c1,c6,hx,(),(),Sl,λds dl hds=>dM (iY ds) ?_);rw[<-N1]at hds;show(k3,-M',_,_,rfl,rfl,Ua,lt,?_);show et _ _ (m,k+1,rs++[Rw.υ kd ds],_,_,_,_,_,_,(rl,rh,by rw[qt,Int.natCast_mul];rw[<-dl]at rp;show rp),by simp,(),by simp[hl],more (.υ kd ds) hds,setM (.υ kd ds),rfl)
  .let(n,k,rs,rm,o1,o2,o3,o4,o5,(rl,rh,rp),ex,hkn,hl,hd,rfl,rfl):=hj;let hn:n=0:=by have:=abq List.length ex;unfold dJ at this;simpa using this.symm
   let e:-rs=sz:=()
   show(k3,h ε rs cJ (hs,(),(),λz=>by have:=n4 z;omega,by rw[e];show hd,by have:=aaT rl (Int.natCast_nonneg (iV rs));omega))
def Kx:DF:=λas M q _=>∃γ:List Rw,as=[.lst (γ.map ar)]/\-γ<=12/\(∀r∈γ,gZ r)/\q (.lst (γ.map ar)) M
def xW:Δ ["_law_rows"] ["_law_rows"] (τ tU):=.of rfl
def E3(F:cz K "_law_copy" "_law_copy" tU f fd)(E:Ev K mg w Cm):ao P w K mg base (bO P w) 1 f fd ["_law_rows"] (b8 K Kx):=by
 show F.de xW (λds M q x h=>?_) (λaQ A outer s H E' hr=>(_,(μ (ψ (FU (ys:=[]) (ag:=[]) (.of xW rfl rfl rfl) (bC (jv 0)) (λC s H fp=>(fe (Ν (jv 0) (ι (xo (bL hr (jv 0) g8) (jv 1) (da (zX E.kg (Ν (jv 1) θ)))) θ))))))),λds M q x h=>?_))
 .let(γ,rfl,_):=h;rfl
 .let(γ,rfl,lV,ro,h):=h;walk_at "vc";dsimp only[DW,fL];walk_at "vc";show(by rw[aae];show aaF (show _<=12 by omega) @_,?_);show qp trivial (λx=>x) _ _ (λx hx qq hq=>?_) ?_
  .let(r,fF,rfl):=aam.mp hx;let rr:=ro r fF;cases r with
   | fin p=>
    show(λ_=>?_,nofun);show(k3,hq)
   | υ k ds=>
    show(λz=>abe (aan z) rr.1,λ_=>?_);show Oe (iY ds) ?_;show(k3,hq)
  .rw[abx,List.map_id'];show h
noncomputable def xF(cJ:Bool):Int:=if cJ=true then 10 ^ 36 else 12
noncomputable def cF(cJ:Bool):Int:=if cJ=true then 10 ^ 30 else 9
def qB{m:Nat}(hb:1<=b)(hmn:m<=n):b ^ m<=b ^ n:=by let(c,rfl):=Nat.exists_eq_add_of_le hmn;rw[Int.pow_add];let p:0 < b ^ c:=Int.pow_pos ();let q:0<=b ^ m:=acN ();have:=aaT (show 1<=b ^ c by omega) q;omega
set_option tactic.hygienic true
def ua{p:Fr}(h:bA p=true)(p0:0 < p.2):fb p (10 ^ 30)/\p.2<=1000000:=by
 unfold bA at h;rw[aaQ,aax,aax]at h;let h1:=h.1;have:10 ^ 30<=p.2 * 10 ^ 30:=by have:=abp (show 1<=p.2 by omega) (show(0:Int)<=10 ^ 30 by decide);omega
 unfold fb;split at h1 <;> show(((),()),h.2)
def yL.nr{p:Fr}{E:Int}(h:yL cJ p)(he:p.2∣E):Nr E (cF cJ) p:=by
 show(h.red,Bo he,?_);cases cJ with
 | true=>show(ua h.fit h.red.pos).1
 | false=>show(h.near rfl).2
def LF.fw(lf:LF ε γ cJ):FW ε γ (xF cJ) (cF cJ):=by
 show((lf.sh,lf.Dc,λr hr=>(lf.row r hr).1.1),lf.n1,λk ds hm hk=>(lf.row _ hm).1.2 k ds rfl hk,λk ds hm=>?_,λp hm=>?_,?_,?_,?_)
 .let pp:=(lf.row _ hm).2.2 k ds rfl;cases cJ with
  | true=>
   let l6:-ds<=6:=(dR (ε:=ε) (γ:=γ) (lf.sh,lf.Dc,λr hr=>(lf.row r hr).1.1) hm).l6;let all:∀a∈ds.map (·.2.1.2),0 < a/\a<=1000000:=λa ha=>by let(d,hd,rfl):=aam.mp ha;show((pp d hd).red.pos,(ua (pp d hd).fit (pp d hd).red.pos).2)
   show(rT (ds.map (·.2.1.2)),vi λa ha=>(all a ha).1,?_,λd hd=>(pp d hd).nr (AM (aam.mpr (d,hd,rfl))));have:=Gs all;rw[aae]at this;show acp this ?_;show acp (qB @_ l6) @_
  | false=>show(12,@_,@_,λd hd=>(pp d hd).nr ((pp d hd).near rfl).1)
 .let pp:=(lf.row _ hm).2.1 p rfl;cases cJ with
  | true=>show(p.2,pp.red.pos,acp (ua pp.fit pp.red.pos).2 @_,pp.nr (Int.dvd_refl _))
  | false=>show(12,@_,@_,pp.nr (pp.near rfl).1)
 .cases cJ <;> decide
 .cases cJ <;> decide
 .cases cJ <;> decide
def LF.sz(lf:LF ε γ cJ):kN (xF cJ) (cF cJ)<=2 ^ 450/\(12 * kN (xF cJ) (cF cJ)) ^ (-γ) < 2 ^ 1030:=by
 cases cJ with
 | true=>show(@_,abm (qB @_ (lf.n4 rfl)) @_)
 | false=>show(@_,abm (qB @_ lf.Dc) @_)
noncomputable def Qh(γ:List Rw)(hand:Str)(n:Nat):List (Int×Nat):=((List.range n).filter λi=>decide (bM γ i=hand)).map λi:Nat=>((i:Int), -(Ο (fi γ i)))
def N0(h:bM γ n=hand):Qh γ hand (n+1)=Qh γ hand n++[((n:Int), -(Ο (fi γ n)))]:=by unfold Qh;rw[acX,List.filter_append,acD (by rw[h];show aa2 rfl),aa9];rfl
def RU(h:bM γ n≠hand):Qh γ hand (n+1)=Qh γ hand n:=by unfold Qh;rw[acX,List.filter_append,acF (by rw[aa6 h];decide)];rw[List.filter_nil,abw]
def xc{k v:Int}{c:Nat}:∀{kc:List (Int×Nat)} {p:Pl},Ψ kc p->0<=v->v < (c:Int)->Ψ (kc++[(k, c)]) (p++[(k, v)])
 | [],[],_,h0,h1=>(rfl,h0,h1,trivial)
 | (_, _)::_,(_, _)::_,(e,a,b,h),h0,h1=>(e,a,b,xc h h0 h1)
 | [],_::_,h,_,_=>h.elim
 | _::_,[],h,_,_=>h.elim
def Pw(f:Ψ (Qh γ hand n) p):dq p n v=p++[((n:Int), v)]:=by unfold dq;rw[aa3];intro q;let(u,e):=aci.mp q;let(c,hc,_):=pk f e;let(i,hi,e):=aam.mp hc;let e:(i:Int)=(n:Int):=abq (·.1) e;have:=abG.mp (adj.mp hi).1;omega
structure Ry(γ:List Rw)(hand:Str)(p:Pl):Prop where
 nd:oE p
 len:-p<=12
 has:∀(i:Nat) (r:Rw),γ[i]? =!r->kindOf r=hand->∃j:Nat,Λ p i=!(j:Int)/\j < -(Ο r)
 only:∀(i v:Int),Λ p i=!v->∃(j:Nat) (r:Rw),i=(j:Int)/\γ[j]? =!r/\kindOf r=hand
 fit:Ψ (cB γ hand) p
structure n8(γ:List Rw)(hand:Str)(n:Nat)(p:Pl):Prop where
 nd:oE p
 len:-p<=n
 has:∀(i:Nat) (r:Rw),i < n->γ[i]? =!r->kindOf r=hand->∃j:Nat,Λ p i=!(j:Int)/\j < -(Ο r)
 only:∀(i v:Int),Λ p i=!v->∃(j:Nat) (r:Rw),i=(j:Int)/\γ[j]? =!r/\kindOf r=hand
 fit:Ψ (Qh γ hand n) p
def O_{i:Int}(h:-p<=n):-(dq p i v)<=n+1:=by
 unfold dq;split
 .rw[aae];omega
 .rw[aak];show Nat.succ_le_succ h
def n8.put(h:n8 γ hand n p)(hi:γ[n]? =!r)(hk:kindOf r=hand)(hj:j < -(Ο r)):n8 γ hand (n+1) (dq p n (j:Int)):=by
 show(TR h.nd,O_ h.len,λi r' il v8 rL=>?_,λi v hg=>?_,?_)
 .rw[tm];by_cases e:i=n
  .subst e;rw[hi]at v8;cases v8;show(j,by rw[aa0 rfl],hj)
  .rw[aa3 ()];show h.has i r' () v8 rL
 .rw[tm]at hg;split at hg
  .rename_i e;show(n,r,e,hi,hk)
  .show h.only i v hg
 .rw[N0 (by unfold bM;rw[hi];show hk),Pw h.fit];show xc h.fit () (by rw[lZ hi];omega)
set_option tactic.hygienic false
def n8.skip(h:n8 γ hand n p)(hi:γ[n]? =!r)(hk:kindOf r≠hand):n8 γ hand (n+1) p:=by
 show(h.nd,Nat.le_succ_of_le h.len,λi r' il v8 rL=>?_,h.only,by rw[RU (by unfold bM;rw[hi];show hk)];show h.fit);by_cases e:i=n
 .subst e;rw[hi]at v8;cases v8;show abe rL hk
 .show h.has i r' () v8 rL
def iZ{q:DQ}(h:q (.str (kindOf r)) M):aW (ar r) (.int 0) M q:=by let(e,er):=EE (r:=r);rw[er];show Ε (xs:=[.str (kindOf r),e]) rfl aF h
def j5(hi:γ[i]? =!r){q:DQ}(h:q (ar r) M):aW (.lst (γ.map ar)) (.int (i:Int)) M q:=Ε (xs:=γ.map ar) rfl (Θ (pP hi)) h
def JL:DF:=λas M q _=>∃(ns:List Int) (γ:List Rw) (hand:Str) (at':Int),as=[.i_ ns,.lst (γ.map ar),.str hand,.int at']/\-ns<=63/\0<=at'/\at'<=100/\-γ<=12/\Η hand=true/\(∀k ds,Rw.υ k ds∈γ->1<=-ds/\-ds<=6)/\∀p,Ry γ hand p->q (.loc (-M)) (M++[dP p])
def fg:Δ ["_law_script","_law_rows","_law_whose","_law_at_here","_law_plan_here","_law_number","_law_digits","_law_xs","_law_k","_law_count"] ["_law_script","_law_rows","_law_whose","_law_at_here"] (τ vC):=.of rfl
def Dv(F:cz K "_law_plan" "_law_plan" vC f fd)(E:Ev K mg w Cm)(cK:aq P w K mg base 1 "_law_at" ["_law_script","_law_k"] Xv nN og)(aE:aq P w K mg base 1 "_law_by_digits" ["_law_number"] KC cN cL)(eZ:aq P w K mg base 1 "_law_stream" ["_law_number","_law_many"] yY nZ n_):ao P w K mg base (bO P w) 2 f fd ["_law_script","_law_rows","_law_whose","_law_at_here"] (b8 K JL):=by
 show F.de fg (λds M q x h=>?_) (λaQ A outer s H E' hr=>(_,(ζ (χ 4 fg.nd zC)
   (ζ (χ 5 fg.nd (Φ cK hr ν (Ν (jv 0) (Ν (jv 3) θ))))
   (ζ (χ 6 fg.nd (Φ aE hr ν (Ν (jv 5) θ)))
   (ζ (χ 7 fg.nd (da (Φ eZ hr ν (Ν (jv 5) (ι (bz E.bb (Ν (jv 1) θ)) θ aX)))))
   (ζ (gT (bZ E.bH (ι (bz E.bb (Ν (jv 1) θ)) θ aX)) (ai (i:=8) fg.nd rfl (Or.inl rfl)) aB (μ (ah (bL hr (ω (ω (jv 1) (jv 8)) ξ) (jv 2)) (ζ (χ 9 fg.nd (bz E.bb (ι (ω (ω (jv 1) (jv 8)) ξ) θ aw)))
   (ζ (ip (o_ hr (jv 4) (jv 8) (bP (xo (ba (jv 6)) (jv 5) (ω (jv 7) (jv 8))) (jv 9))))
   (μ (χ 5 fg.nd (kG (jv 5) (jv 9)))))) Ι)))
   (μ (ψ (jv 4)))))))),λds M q x h=>?_))
 .let(ns,γ,hand,at',rfl,_):=h;rfl
 .let(ns,γ,hand,at',rfl,nl,a0,a1,lV,hh,hdr,h):=h;show(ns,at',rfl,nl,a0,(),λn0 Yq=>(n0,rfl,λdg=>?_));walk_at "vc";show(af (d:=.lst (γ.map ar)) (xs:=γ.map ar) rfl ?_:eQ [.lst (γ.map ar)] _ _);rw[aae];show(n0,-γ,rfl,qf Yq,(),λxs xl hx=>dM (hW _) ?_);show(af (d:=.lst (γ.map ar)) (xs:=γ.map ar) rfl ?_:eQ [.lst (γ.map ar)] _ _);rw[aae];show((),?_);rw[show((-γ:Int)).toNat=-γ by omega];show cU (λzs ρ' M'=>∃(i m:Nat) (p:Pl) (n:Int) (o8 o9:Option Dt),zs=dJ (i:Int) m/\i+m=-γ/\n8 γ hand i p/\Nm n/\M'=M++[dP p]/\ρ'=[!(.i_ ns),!(.lst (γ.map ar)),!(.str hand),!(.int at'),!(.loc (-M)),!(.int n),!(.bl dg),!(.lst (xs.map Dt.int)),o8,o9]) (λx zs ρ' M' hj et=>?_) (λρ' M' hj=>?_) _ _ _ (0,-γ,[],n0,none,none,rfl,(),(List.nodup_nil,aaq _,λi r il=>abe il (acz _),λi v hg=>(nomatch hg),trivial),Yq,rfl,rfl)
  .let(i,m,p,n,o8,o9,ex,im,pt,hn,rfl,rfl):=hj;let(m',rfl,rfl,rfl):=cx ex;let il:i < -γ:=()
   let hi:γ[i]? =!γ[i]:=aaa il;generalize hr0:γ[i]=r at *
   let rm:r∈γ:=aap hi;walk_at "vc";show j5 hi (iZ ?_);show(λz=>?_,λz=>?_)
   .let z:kindOf r=hand:=aan z;cases r with
    | fin p=>show abe (z▸hh) (by change¬Η (Str.ofString "end")=true;decide)
    | υ k ds=>
     let(d1,d6):=hdr k ds rm;show j5 hi (vf ?_);show(af (d:=.lst (ds.map dW)) (xs:=ds.map dW) rfl ?_:eQ [.lst (ds.map dW)] _ _);rw[aae];let d0:(0:Int) < -ds:=()
     let put:∀v:Int,∃j:Nat,v % (-ds:Int)=(j:Int)/\j < -ds:=λv=>by let v0:=abQ v (show(-ds:Int)≠0 by omega);let v1:=abN v d0;show((v % (-ds:Int)).toNat,(),())
     let fin:∀v:Int,∃k ks oB key,Dt.loc (-M)= .loc k/\(M++[dP p])[k]? =!(.c_ ks oB)/\BO (.int (i:Int))=!key/\-ks < 1000/\(∃j:Nat,j < -ds/\(M++[dP p]).set k (.c_ (g7 ks key) (fD ks key oB (.int (v % (-ds:Int)))))=M++[dP (dq p i (j:Int))]):=λv=>by let(j,e,jl):=put v;show(-M,_,_,Sum.inl (i:Int),rfl,aA,rfl,by unfold kP;rw[List.length_map];have:=pt.len;omega,j,jl,?_);rw[e,uk (v:=(j:Int)),xk,d_]
     show⟨λρ M2=>∃j:Nat,j < -ds/\M2=M++[dP (dq p i (j:Int))]/\ρ=[!(.i_ ns),!(.lst (γ.map ar)),!(.str hand),!(.int at'),!(.loc (-M)),!(.int n),!(.bl dg),!(.lst (xs.map Dt.int)),!(.int (i:Int)),!(.int (-ds:Int))],(λ_=>?_,λ_=>?_),?_⟩
     .show(d0,?_);let(k',ks,oB,key,f1,f2,f3,f4,j,jl,f5):=fin n;show(k',ks,oB,key,f1,f2,f3,f4,j,jl,f5,rfl)
     .let kx:i < -xs:=()
      walk_at "vc";show(Ε (d:=.lst (xs.map Dt.int)) rfl (gX kx) ?_:aW (.lst (xs.map Dt.int)) (.int (i:Int)) _ _);show(d0,?_);let(k',ks,oB,key,f1,f2,f3,f4,j,jl,f5):=fin xs[i];show(k',ks,oB,key,f1,f2,f3,f4,j,jl,f5,rfl)
     .rintro ρ2 M2 ⟨j,jl,rfl,rfl⟩;show((d0,bg (k:=10) ()),?_);show et _ _ (i+1,m',_,_,_,_,by rw[acQ];rfl,(),pt.put hi z jl,Dw hn d0,rfl,rfl)
   .let z:kindOf r≠hand:=aba z;show et _ _ (i+1,m',p,n,_,_,by rw[acQ];rfl,(),pt.skip hi z,hn,rfl,rfl)
  .let(i,m,p,n,o8,o9,ex,im,pt,hn,rfl,rfl):=hj;let m0:m=0:=by have:=abq List.length ex;rw[gI]at this;show this.symm
   let e:i=-γ:=()
   subst e;show h p (pt.nd,aaF pt.len lV,λi r hi hk=>pt.has i r (aai.mp hi).1 hi hk,pt.only,pt.fit)
def NL(i:Int):pW (V.int i) (V.int i)=true:=by unfold pW;simp
def CW{l:List Nat}{f:Nat->Bool}(h:∀j,f j=true):l.all f=true:=ab6.mpr λj _=>h j
def PJ(i:Int):zk M n (.int i) (.int i) true:=by have:=zk.flat (M:=M) (n:=n) (d:=.int i) (e:=.int i) rfl rfl;rwa[NL]at this
def NR{ds:List Dt}(h:∀d∈ds,zk M n d d true):zk M (n+1) (.tup ds) (.tup ds) true:=by
 have:=zk.tup (M:=M) (n:=n) (ds:=ds) (es:=ds) (f:=λ_=>true) λj d e h1 h2=>by rw[h1]at h2;cases h2;show h d (aap h1)
 rwa[CW λ_=>rfl,beq_self_eq_true]at this
def PU{d:Dt}{ds:List Dt}(h1:nc M d=!ds)(h2:nc M e=!ds)(h:∀d∈ds,zk M n d d true):zk M (n+1) d e true:=by
 have:=zk.lst (M:=M) (n:=n) (d:=d) (e:=e) (f:=λ_=>true) h1 h2 rfl λj d e h1 h2=>by rw[h1]at h2;cases h2;show h d (aap h1)
 rwa[CW λ_=>rfl]at this
def Rg(p:Fr):zk M (n+1) (Ξ p) (Ξ p) true:=NR λd hd=>by let hd:d∈[Dt.int p.1,Dt.int p.2]:=hd;simp only[List.mem_cons,List.not_mem_nil,or_false]at hd;rcases hd with rfl| rfl <;> show PJ _
def NU{d:Dt}(h1:nc M d=!(tb.map Ξ))(h2:nc M e=!(tb.map Ξ)):zk M (n+2) d e true:=PU h1 h2 λd hd=>by let(p,_,rfl):=aam.mp hd;show Rg p
def P2{p:Fr}{k:Bool->Ms->Prop}(h:k false M):Of (Ξ p) (Ξ p) M (λd M1=>match d with| .bl b=>k b M1| _=>False):=by change k (! oI [.int p.1,.int p.2] [.int p.1,.int p.2]) M;rw[V3,aa2 rfl];show h
def AJ{k:Nat}(h:M[k]? =!(MO.lst xs)):rW M (.loc k)=!(xs, λM'=>M'[k]? =!(MO.lst xs)):=by change(match M[k]? with| some (MO.lst xs)=>!(xs, λM':Ms=>M'[k]? =!(MO.lst xs))| _=>none)=_;rw[h]
def zw:DF:=λas M q _=>∃i:Int,as=[.int i]/\q (.bl true) M
def Fp:Δ ["_law_number"] ["_law_number"] (τ qR):=.of rfl
def CG(F:cz K "_law_whole" "_law_whole" qR f fd)(E:Ev K mg w Cm):ao P w K mg base (bO P w) 1 f fd ["_law_number"] (b8 K zw):=by
 show F.de Fp (λds M q x h=>?_) (λaQ A outer s H E' hr=>(_,(μ (ψ (gU (mW K E.bf (Ν (jv 0) (Ν (CT E.vJ xy) θ))) (kz (SW (mW K E.bf (Ν (jv 0) (Ν (CT E.zS Fo) θ)))))))),λds M q x h=>?_))
 .let(i,rfl,_):=h;rfl
 .let(i,rfl,h):=h;show(_,_,_,_,true,rfl,rfl,rfl,oh,λ_=>?_,nofun);show(_,_,_,_,false,rfl,rfl,rfl,E.ib,h)
structure V2(M:Ms)(d:Dt)(tb:List Fr)(ok:Ms->Prop):Prop where
 kind:Gb M d=!(.type "list")
 seq:gR M d=!(tb.map Ξ)
 it:rW M d=!(tb.map Ξ, ok)
 ok:ok M
def A1{kt:Nat}(h:M[kt]? =!(.lst (tb.map Ξ))):V2 M (.loc kt) tb (λM'=>M'[kt]? =!(MO.lst (tb.map Ξ))):=(xa (cD h),eN h,AJ h,h)
def J_:DF:=λas M q _=>∃(d:Dt) (tb:List Fr) (n:Nat) (ok:Ms->Prop),as=[d,.int (n:Nat)]/\V2 M d tb ok/\uB tb n/\q (.bl true) M
def uO:Δ ["_law_table_here","_law_many","_law_one"] ["_law_table_here","_law_many"] (τ qx):=.of rfl
def CU(F:cz K "_law_table" "_law_table" qx f fd)(E:Ev K mg w Cm)(dN:aq P w K mg base 1 "_law_whole" ["_law_number"] zw qM qN)(aY:aq P w K mg base 1 "_law_lowest" ["_law_top","_law_bottom"] Md eT eJ):ao P w K mg base (bO P w) 2 f fd ["_law_table_here","_law_many"] (b8 K J_):=by
 show F.de uO (λds M q x h=>?_) (λaQ A outer s H E' hr=>(_,(ζ (ah (JW.jt (e_ (cG (ba (mW K E.bf (Ν (jv 0) (Ν (CT E.kg oo) θ))))) (fk (kH hr (bz E.bb (Ν (jv 0) θ)) (jv 1))))) (μ (ψ wL)) Ι)
   (ζ (c8 (bC (jv 0)) (ai (i:=2) uO.nd rfl (Or.inl rfl)) aB (ζ (ah (JW.jt (e_ (cG (ba (mW K E.bf (Ν (jv 2) (Ν (CT E.lW kZ) θ))))) (e_ (kH hr (bz E.bb (Ν (jv 2) θ)) ξ) (e_ (cG (ba (Φ dN hr ν (ι (ω (jv 2) ξ) θ aw)))) (fk (cG (ba (Φ dN hr ν (ι (ω (jv 2) ξ) θ aw))))))))) (μ (ψ wL)) Ι)
   (μ (ah (JW.jt (e_ (rN (ω (jv 2) ξ) ξ) (fk (kH hr (Φ aY hr ν (ι (ω (jv 2) ξ) (ι (ω (jv 2) ξ) θ aw) aw)) (jv 2))))) (μ (ψ wL)) Ι))))
   (μ (ψ wL)))),λds M q x h=>?_))
 .let(d,tb,n,ok,rfl,_):=h;rfl
 .let(d,tb,n,ok,rfl,hk,tk,h):=h;let LN:=hk.kind;walk_at "vc";show(_,_,_,_,true,rfl,LN,rfl,oh,nofun,λ_=>?_);show(af (d:=d) hk.seq ?_:eQ [d] _ _);rw[aae,tk.len];show(λz=>?_,λ_=>?_)
  .let z:(! decide ((n:Int)=(n:Int)))=true:=z;rw[aa2 rfl]at z;show nomatch z
  dsimp only[rO,fL];walk_at "vc";rw[show(List.map some [d,Dt.int (n:Int)]++[none])[0]? =!(!d) from rfl];dsimp only;rw[hk.it];show bN (λzs ρ' M'=>M=M'/\∃(rest:List Fr) (o2:Option Dt),zs=rest.map Ξ/\(∀p∈rest,p∈tb)/\ρ'=[!d,!(.int (n:Int)),o2]) (λzs ρ' M' hj=>by let(rfl,_):=hj;show hk.ok) (λx zs ρ' M' hj et=>?_) (λρ' M' hj=>?_) _ _ _ (rfl,tb,none,rfl,λ_ h=>h,rfl)
  .let(rfl,rest,o2,ex,fF,rfl):=hj;cases rest with
   | nil=>cases ex
   | cons p rest=>
    cases ex;let pm:=fF p aah;let rp:=tk.red p pm;let(s1,s2):=tk.sz p pm;walk_at "vc";show(_,_,_,_,true,rfl,rfl,rfl,oh,nofun,λ_=>?_);show(af (d:=Ξ p) (xs:=[.int p.1,.int p.2]) rfl ?_:eQ [Ξ p] _ _);show(nofun,λ_=>?_);show(pv ?_:aW (Ξ p) (.int 0) _ _);show(p.1,rfl,nofun,λ_=>?_);show(jw ?_:aW (Ξ p) (.int 1) _ _);show(p.2,rfl,nofun,λ_=>?_);show(jw ?_:aW (Ξ p) (.int 1) _ _);show(λz=>?_,λ_=>?_)
    .let z:p.2 < 1:=aan z;have:=rp.pos;omega
    show(pv ?_:aW (Ξ p) (.int 0) _ _);show(jw ?_:aW (Ξ p) (.int 1) _ _);show(p.1,p.2,rfl,rp.pos,sv (k:=1030) (aar rp.pos) s1 @_,?_);rw[xp rp.pos rp.low];show P2 ?_;show(nofun,λ_=>et _ _ (rfl,rest,_,rfl,λy hy=>fF y (aaf _ hy),rfl))
  .let(rfl,rest,o2,ex,fF,rfl):=hj;show h
noncomputable def mN:List Nat->Nat
 | []=>1
 | a::l=>a * mN l
def FN{G:Nat->Nat}{g:Nat->Int×Nat}{Q:Nat->Bool}:∀{l:List Nat},(∀i∈l,1<=G i/\(Q i=true->(g i).2<=G i))->-(fG ((l.filter Q).map g))<=mN (l.map G)
 | [],_=>aaq _
 | i::l,h=>by
  let ih:=FN (l:=l) λj hj=>h j (aaf _ hj);let(h1,h2):=h i aah;change _<=G i * mN (l.map G);cases hQ:Q i with
  | false=>
   rw[acF (by rw[hQ];decide)];show aaF ih (by have:=Nat.mul_le_mul_right (mN (l.map G)) h1;omega)
  | true=>
   rw[acD hQ,aa1];let e:∀(ms:List Nat) (k:Int) (r:List Pl),-(ms.flatMap λj:Nat=>r.map λp=>(k, (j:Int))::p)=-ms * -r:=λms k r=>by
    induction ms with
    | nil=>rw[adm,Nat.zero_mul];rfl
    | cons a ms ih=>rw[ads,aak,aae,ih,aaN,Nat.succ_mul,Nat.add_comm]
   change((List.range (g i).2).flatMap λj:Nat=>(fG ((l.filter Q).map g)).map λp=>((g i).1, (j:Int))::p).length<=_;rw[e,abJ];show Nat.mul_le_mul (h2 hQ) ih
def Gh:∀γ:List Rw,mN (γ.map λr=>cH (kindOf r) (-(Ο r)))=iV γ
 | []=>rfl
 | r::rs=>by change _ * mN (rs.map _)=_ * iV rs;rw[Gh rs]
set_option tactic.hygienic true
section
variable{p1 p2 q1 q2:Pl}
def KP(fw:FW ε γ X C)(hh:Η hand=true):-(fG (cB γ hand))<=iV γ:=by
 let e:(List.range (-γ)).map (λi=>cH (kindOf (fi γ i)) (-(Ο (fi γ i))))=γ.map λr=>cH (kindOf r) (-(Ο r)):=by
  show adq λi=>?_;rw[aas,aas];by_cases il:i < -γ
  .rw[abB il,aaa il];change (!(cH (kindOf (fi γ i)) (-(Ο (fi γ i)))))=!(cH (kindOf γ[i]) (-(Ο γ[i])));rw[lZ (aaa il)]
  .rw[acj (by rw[abJ];omega),acj ()];rfl
 rw[<-Gh,<-e];show FN λi hi=>?_;let il:=abG.mp hi;let hi:γ[i]? =!γ[i]:=aaa il;rw[lZ hi];generalize γ[i]=r at *
 let one:1<=cH (kindOf r) (-(Ο r)):=by
  unfold cH;cases r with
  | fin q=>show aaq _
  | υ k ds=>
   split
   .show(dR fw.pl (aap hi)).l1
   .show aaq _
 show(one,λz=>?_);let z:bM γ i=hand:=aan z;unfold bM at z;rw[hi]at z;let z:kindOf r=hand:=z;change(Ο r).length<=cH (kindOf r) (-(Ο r));unfold cH;rw[z,aa0 hh];show aaq _
end
set_option tactic.hygienic false
noncomputable def nu(ε:Fr)(tb:List Fr)(d:bU):Fr:=(d.2.1.1 * ε.2 * (tb.getD d.1.toNat (0, 1)).2+ε.1 * (tb.getD d.1.toNat (0, 1)).1 * d.2.1.2, d.2.1.2 * ε.2 * (tb.getD d.1.toNat (0, 1)).2)
def qc(h1:0 < ε.2)(h2:0 < d.2.1.2)(h3:0 < (tb.getD d.1.toNat (0, 1)).2):val (nu ε tb d)=val d.2.1+val ε * val (tb.getD d.1.toNat (0, 1))/\0 < (nu ε tb d).2:=by
 show(?_,abC (abC h2 h1) h3);let a:=aR (show ε.2≠0 by omega);let b:=aR (show d.2.1.2≠0 by omega);let c:=aR (show(tb.getD d.1.toNat (0, 1)).2≠0 by omega);unfold nu val;simp only[Rat.intCast_add,Rat.intCast_mul];generalize (d.2.1.1:Rat)=x1 at *
 generalize (d.2.1.2:Rat)=x2 at *
 generalize (ε.1:Rat)=y1 at *
 generalize (ε.2:Rat)=y2 at *
 generalize ((tb.getD d.1.toNat (0, 1)).1:Rat)=z1 at *
 generalize ((tb.getD d.1.toNat (0, 1)).2:Rat)=z2 at *
 grind
def fo{k:Nat}(h1:a.natAbs < 2 ^ j)(h2:b.natAbs < 2 ^ k):(a * b).natAbs < 2 ^ (j+k):=by rw[ab4];show b7 h1 h2
def O1(h1:a.natAbs < 2 ^ j)(h2:b.natAbs < 2 ^ j):(a+b).natAbs < 2 ^ (j+1):=by have:=Int.natAbs_add_le a b;rw[Nat.pow_succ];omega
def vh{k:Nat}(h:a.natAbs < 2 ^ j)(l:j<=k):a.natAbs < 2 ^ k:=aaW h (acC @_ l)
structure Yb(ε:Fr)(n:Nat)(d:bU):Prop where
 to:0<=d.1/\d.1 < n
 p1:d.2.1.1.natAbs < 2 ^ 101
 p2:0 < d.2.1.2/\d.2.1.2.natAbs < 2 ^ 20
 s1:ε.1.natAbs < 2 ^ 10
 s2:0 < ε.2/\ε.2.natAbs < 2 ^ 10
def rQ(tk:uB tb n){t:Int}(h:0<=t/\t < n):Red (tb.getD t.toNat (0, 1))/\(tb.getD t.toNat (0, 1)).2.natAbs < 2 ^ 1030/\(tb.getD t.toNat (0, 1)).1.natAbs < 2 ^ 1150/\jT (tb.map Ξ) t=!(Ξ (tb.getD t.toNat (0, 1))):=by
 let hl:t.toNat < -tb:=by rw[tk.len];omega
 let m:=tE hl;let(s1,s2):=tk.sz _ m;let r:=tk.red _ m;show(r,?_,s2,?_)
 .have:((tb.getD t.toNat (0, 1)).2.natAbs:Int) < ((2 ^ 1030:Nat):Int):=by rw[ab8 (aar r.pos),Int.natCast_pow];show s1
  show acG.mp this
 .have:=P7 hl;rw[show((t.toNat:Nat):Int)=t by omega]at this;rw[this,aab,aaa hl];rfl
def BP(tk:uB tb n)(dl:Yb ε n d):(nu ε tb d).1.natAbs < 2 ^ 1181/\(nu ε tb d).2.natAbs < 2 ^ 1060:=by let(r,b2,b1,_):=rQ tk dl.to;let a:=fo (fo dl.p1 dl.s2.2) b2;let b:=fo (fo dl.s1 b1) dl.p2.2;let c:=fo (fo dl.p2.2 dl.s2.2) b2;show(O1 (j:=1180) (vh a @_) (vh b @_),vh c @_)
def O2:DF:=λas M q _=>∃(ε:Fr) (d:bU) (tb:List Fr) (n kt:Nat),as=[Ξ ε,dW d,.loc kt]/\M[kt]? =!(.lst (tb.map Ξ))/\uB tb n/\Yb ε n d/\q (Ξ (nu ε tb d)) M
def nD:Δ ["_law_share","_law_door","_law_table_here","_law_number","_law_top"] ["_law_share","_law_door","_law_table_here"] (τ qJ):=.of rfl
def CP(F:cz K "_law_shown" "_law_shown" qJ f fd)(E:Ev K mg w Cm):ao P w K mg base (bO P w) 1 f fd ["_law_share","_law_door","_law_table_here"] (b8 K O2):=by
 show F.de nD (λds M q x h=>?_) (λaQ A outer s H E' hr=>(_,(ζ (χ 3 nD.nd (ω (jv 2) (ω (jv 1) ξ)))
   (ζ (χ 4 nD.nd (cw (az (az (ω (ω (jv 1) ξ) ξ) (ω (jv 0) ξ)) (ω (jv 3) ξ)) (az (az (ω (jv 0) ξ) (ω (jv 3) ξ)) (ω (ω (jv 1) ξ) ξ))))
   (μ (ψ (fe (Ν (jv 4) (ι (az (az (ω (ω (jv 1) ξ) ξ) (ω (jv 0) ξ)) (ω (jv 3) ξ)) θ bJ))))))),λds M q x h=>?_))
 .let(ε,d,tb,n,kt,rfl,_):=h;rfl
 .let(ε,d,tb,n,kt,rfl,hk,tk,dl,h):=h;let(r,b2,b1,at_):=rQ tk dl.to;let h:q (Ξ (d.2.1.1 * ε.2 * (tb.getD d.1.toNat (0, 1)).2+ε.1 * (tb.getD d.1.toNat (0, 1)).1 * d.2.1.2, d.2.1.2 * ε.2 * (tb.getD d.1.toNat (0, 1)).2)) M:=h;generalize tb.getD d.1.toNat (0, 1)=t at *
  walk_at "vc";show Gk ?_;show(Ε (d:=.loc kt) (eN hk) at_ ?_:aW (.loc kt) (.int d.1) _ _);show AS (pv ?_);show(jw ?_:aW (Ξ ε) (.int 1) _ _);show((bg dl.p1,bg dl.s2.2),?_);show(jw ?_:aW (Ξ t) (.int 1) _ _);show((bg (fo dl.p1 dl.s2.2),bg b2),?_);show(pv ?_:aW (Ξ ε) (.int 0) _ _);show(pv ?_:aW (Ξ t) (.int 0) _ _);show((bg dl.s1,bg b1),?_);show AS (jw ?_);show((bg (fo dl.s1 b1),bg dl.p2.2),?_);dsimp only[wm];show AS (jw ?_);show(jw ?_:aW (Ξ ε) (.int 1) _ _);show((bg dl.p2.2,bg dl.s2.2),?_);show(jw ?_:aW (Ξ t) (.int 1) _ _);show((bg (fo dl.p2.2 dl.s2.2),bg b2),k3,h)
structure RwL(ε:Fr)(n:Nat)(r:Rw):Prop where
 ds:∀k ds,r= .υ k ds->-ds<=6/\k≠"end"/\(∀d∈ds,Yb ε n d)/\(k≠"chance"->0 < -ds/\Η k=true)
def Qr:DF:=λas M q _=>∃(ε:Fr) (r:Rw) (tb:List Fr) (n kt:Nat),as=[Ξ ε,ar r,.loc kt,.bc]/\M[kt]? =!(.lst (tb.map Ξ))/\uB tb n/\RwL ε n r/\0 < ε.2/\(∃k ds,r= .υ k ds/\Η k=true)/\
 (∀k ds,r= .υ k ds->Η k=true->∀f,0 < f.2->fJ f.1->fJ f.2->(∃d∈ds,val f=val d.2.1+val ε * val (tb.getD d.1.toNat (0, 1)))->(∀d∈ds,fE k * (val d.2.1+val ε * val (tb.getD d.1.toNat (0, 1)))<=fE k * val f)->q (Ξ f) M)
def Mi:DF:=λas M q _=>∃(u v:Fr),as=[Ξ u,Ξ v]/\(fJ u.1/\fJ u.2/\fJ v.1/\fJ v.2)/\q (.bl (cZ u v)) M
def Ib:Δ ["_law_one","_law_two"] ["_law_one","_law_two"] (τ vg):=.of rfl
def DY(F:cz K "_law_less" "_law_less" vg f fd)(E:Ev K mg w Cm):ao P w K mg base (bO P w) 1 f fd ["_law_one","_law_two"] (b8 K Mi):=by
 show F.de Ib (λds M q x h=>?_) (λaQ A outer s H E' hr=>(_,(μ (ψ (LU (az (ω (jv 0) ξ) (ω (jv 1) ξ)) (az (ω (jv 1) ξ) (ω (jv 0) ξ))))),λds M q x h=>?_))
 .let(u,v,rfl,_):=h;rfl
 .let(u,v,rfl,(a1,a2,b1,b2),h):=h;walk_at "vc";show(pv ?_:aW (Ξ u) (.int 0) _ _);show(jw ?_:aW (Ξ v) (.int 1) _ _);show((a1,b2),?_);show(pv ?_:aW (Ξ v) (.int 0) _ _);show(jw ?_:aW (Ξ u) (.int 1) _ _);show((b1,a2),h)
def cT:Δ ["_law_share","_law_row","_law_table_here","_law_door","_law_some","_law_top","_law_bottom","_law_k","_law_part","_law_best","_law_number"] ["_law_share","_law_row","_law_table_here","_law_door"] (τ AB):=.of rfl
def Jg(F:cz K "_law_due" "_law_due" AB f fd)(E:Ev K mg w Cm)(cf:aq P w K mg base 1 "_law_shown" ["_law_share","_law_door","_law_table_here"] O2 jx jK)(lU:aq P w K mg base 1 "_law_less" ["_law_one","_law_two"] Mi JV Ko):ao P w K mg base (bO P w) 2 f fd ["_law_share","_law_row","_law_table_here","_law_door"] (b8 K Qr):=by
 show F.de cT (λds M q x h=>?_) (λaQ A outer s H E' hr=>(_,(ζ (ah (bL hr (ω (jv 1) ξ) g8) (μ (ψ (ω (jv 1) ξ))) Ι)
   (ζ (i4 (i:=4) cT.nd rfl (Or.inl rfl) (ys:=["_law_share","_law_table_here"]) (ag:=[0,2]) (.of cT rfl rfl rfl) (bC (ω (jv 1) ξ)) (λC s H fp=>(Φ cf hr (gF (P:=P) (w:=w)) (Ν (jv 1) (Ν (jv 0) (Ν (jv 2) θ))))))
   (ζ (ah (bL hr (ω (jv 1) ξ) g8) (ζ (χ 5 cT.nd ξ)
   (ζ (χ 6 cT.nd ξ)
   (ζ (gT (bZ E.bH (ι (bz E.bb (Ν (jv 4) θ)) θ aX)) (ai (i:=7) cT.nd rfl (Or.inl rfl)) aB (ζ (χ 8 cT.nd (fe (ι (az (ω (ω (jv 4) (jv 7)) ξ) (ω (ω (ω (ω (jv 1) ξ) (jv 7)) ξ) ξ)) (ι (az (ω (ω (jv 4) (jv 7)) ξ) (ω (ω (ω (ω (jv 1) ξ) (jv 7)) ξ) ξ)) θ bJ) bJ)))
   (ζ (χ 5 cT.nd (cw (az (jv 5) (ω (jv 8) ξ)) (az (ω (jv 8) ξ) (jv 6))))
   (μ (χ 6 cT.nd (az (jv 6) (ω (jv 8) ξ)))))))
   (μ (ψ (fe (Ν (jv 5) (Ν (jv 6) θ)))))))) Ι)
   (ζ (ah (N7 (jv 3) Ie) (μ (ψ (ω (jv 4) (jv 3)))) Ι)
   (ζ (χ 9 cT.nd (ω (jv 4) ξ))
   (ζ (c8 (bC (jv 4)) (ai (i:=10) cT.nd rfl (Or.inl rfl)) aB (μ (ah (JW.jt (e_ (JW.jt (yp (bL hr (ω (jv 1) ξ) g8) (sR (ba (Φ lU hr ν (Ν (jv 9) (Ν (jv 10) θ))))))) (fk (JW.jt (yp (bL hr (ω (jv 1) ξ) g8) (sR (ba (Φ lU hr ν (Ν (jv 10) (Ν (jv 9) θ)))))))))) (μ (χ 9 cT.nd (jv 10))) Ι)))
   (μ (ψ (jv 9))))))))),λds M q x h=>?_))
 .let(ε,r,tb,n,kt,rfl,_):=h;rfl
 .let(ε,r,tb,n,kt,rfl,hk,tk,rl,s0,(k,ds,rfl,hh0),hh):=h;let sl:∀{z:Nat},z<=1000->z<=sizeLine:=λh=>aaF h @_;walk_at "vc";show iZ ?_;let(l6,ke,dl,dh):=rl.ds k ds rfl;show(λz=>abe (aan z) ke,λ_=>?_);show Bm (i:=1) (j:=1) rfl (Θ (j:=1) rfl) rfl ?_;show(by rw[aae];show sl (),?_);show dt (F:=λx d=>x=dW d/\d∈ds) (f:=λd=>Ξ (nu ε tb d)) (as:=ds) trivial (λx d hx qq hq=>?_) (jG dW ds ds λx hx=>hx) ?_
  .let(rfl,hd):=hx;show(ε,d,tb,n,kt,rfl,hk,tk,dl d hd,hq)
  rw[abx];generalize hss:ds.map (λd=>Ξ (nu ε tb d))=ss;let sat:∀{j:Nat} {d:bU},ds[j]? =!d->jT ss (j:Int)=!(Ξ (nu ε tb d)):=λ{j d} h=>Θ (by rw[<-hss,aas,h];rfl);let ssl:-ss=-ds:=by rw[<-hss,aae]
  show iZ (r:=.υ k ds) ?_;show(λz=>?_,λz=>?_)
  .let z:k="chance":=aan z;show abe (z▸hh0) @_
  .let z:k≠"chance":=aba z;let(l1,rL):=dh z;show(rfl,nofun,λ_=>?_);let h0:ds[0]? =!ds[0]:=aaa l1;let s0':jT ss 0=!(Ξ (nu ε tb ds[0])):=sat (j:=0) h0;let vd:∀d∈ds,val (nu ε tb d)=val d.2.1+val ε * val (tb.getD d.1.toNat (0, 1))/\0 < (nu ε tb d).2:=λd hd=>qc s0 (dl d hd).p2.1 (rQ tk (dl d hd).to).1.pos;let bd:∀d∈ds,fJ (nu ε tb d).1/\fJ (nu ε tb d).2:=λd hd=>(bg (BP tk (dl d hd)).1,bg (BP tk (dl d hd)).2);show(Ε (d:=.lst ss) rfl s0' ?_:aW (.lst ss) (.int 0) _ _);dsimp only[rO,fL];walk_at "vc";show bN (λzs ρ' M'=>M'=M/\∃(bR rest:List bU) (b:bU) (o9:Option Dt),ds=bR++rest/\zs=rest.map (λd=>Ξ (nu ε tb d))/\b∈ds/\(∀d∈bR,fE k * val (nu ε tb d)<=fE k * val (nu ε tb b))/\ρ'=[!(Ξ ε),!(ar (.υ k ds)),!(.loc kt),some .bc,!(.lst ss),none,none,none,none,!(Ξ (nu ε tb b)),o9]) (λzs ρ' M' hj=>trivial) (λx zs ρ' M' hj et=>?_) (λρ' M' hj=>?_) _ _ _ (rfl,[],ds,ds[0],none,rfl,hss.symm,aaG l1,λ_ z=>(nomatch z),rfl)
   .let(rfl,bR,rest,b,o9,ed,ex,bm,hb,rfl):=hj;cases rest with
    | nil=>cases ex
    | cons d rest=>
     cases ex;let dm:d∈ds:=by rw[ed];show aaJ _ aah
     let ub:=mi (vd b bm).2 (vd d dm).2;let ud:=mi (vd d dm).2 (vd b bm).2
     let keep:fE k * val (nu ε tb d)<=fE k * val (nu ε tb b)->_:=λhle=>et [!(Ξ ε),!(ar (.υ k ds)),!(.loc kt),some .bc,!(.lst ss),none,none,none,none,!(Ξ (nu ε tb b)),!(Ξ (nu ε tb d))] M' (rfl,bR++[d],rest,b,_,by rw[ed,abv];rfl,rfl,bm,λy hy=>by
      rcases abj.mp hy with z| z
      .show hb y z
      .rw[abh.mp z];show hle,rfl)
     let take:fE k * val (nu ε tb b)<=fE k * val (nu ε tb d)->_:=λhle=>et [!(Ξ ε),!(ar (.υ k ds)),!(.loc kt),some .bc,!(.lst ss),none,none,none,none,!(Ξ (nu ε tb d)),!(Ξ (nu ε tb d))] M' (rfl,bR++[d],rest,d,_,by rw[ed,abv];rfl,rfl,dm,λy hy=>by
      rcases abj.mp hy with z| z
      .show Rat.le_trans (hb y z) hle
      .rw[abh.mp z];show Rat.le_refl,rfl)
     walk_at "vc";show iZ (r:=.υ k ds) ?_;let two:k="one"\/k="other":=Rh.two k rL;show(λe1=>?_,λe1=>?_)
     .let e1:k="one":=aan e1;show(_,_,rfl,((bd b bm).1,(bd b bm).2,(bd d dm).1,(bd d dm).2),λu=>(λ_=>take ?_,nofun),λu=>?_)
      .have:=ub.mp u;rw[e1,sg1];grind
      .let u:¬val (nu ε tb b) < val (nu ε tb d):=λz=>by rw[ub.mpr z]at u;cases u
       show iZ (r:=.υ k ds) ?_;show(λe2=>abe (e1.symm.trans (aan e2)) @_,λ_=>(nofun,λ_=>keep ?_));rw[e1,sg1];grind
     .let e1:k≠"one":=aba e1;let e2:k="other":=two.resolve_left e1;show(nofun,λ_=>?_);show iZ (r:=.υ k ds) ?_;show(λ_=>?_,λz=>abe e2 (aba z));show(_,_,rfl,((bd d dm).1,(bd d dm).2,(bd b bm).1,(bd b bm).2),λu=>take ?_,λu=>keep ?_)
      .have:=ud.mp u;rw[e2,sg2];grind
      .let u:¬val (nu ε tb d) < val (nu ε tb b):=λz=>by rw[ud.mpr z]at u;cases u
       rw[e2,sg2];grind
   .let(rfl,bR,rest,b,o9,ed,ex,bm,hb,rfl):=hj;have:rest=[]:=by
     cases rest with
     | nil=>rfl
     | cons d r=>cases ex
    subst this;rw[abw]at ed;subst ed;show hh k _ rfl rL _ (vd b bm).2 (bd b bm).1 (bd b bm).2 (b,bm,(vd b bm).1) λd hd=>by rw[<-(vd d hd).1];show hb d hd
set_option tactic.hygienic true
def vp{hand:Str}:∀γ:List Rw,(γ.map ar).filter (λx=>match x with| .tup (.str z::_)=>decide (z=hand)| _=>false)=(γ.filter λr=>decide (kindOf r=hand)).map ar
 | []=>rfl
 | r::γ=>by
  let e:(match ar r with| .tup (.str z::_)=>decide (z=hand)| _=>false)=decide (kindOf r=hand):=by cases r <;> rfl
  rw[aa1,List.filter_cons,List.filter_cons,vp γ];change(if (match ar r with| .tup (.str z::_)=>decide (z=hand)| _=>false)=true then _ else _)=_;rw[e];split <;> rfl
def vy{hand:Str}:∀γ:List Rw,-((List.range (-γ)).filter λi=>decide (bM γ i=hand))=-(γ.filter λr=>decide (kindOf r=hand))
 | []=>rfl
 | r::γ=>by
  let ih:=vy (hand:=hand) γ;rw[aaN,acq,List.filter_cons,List.filter_cons,List.filter_map];let e:((λi=>decide (bM (r::γ) i=hand)) ∘ Nat.succ)=λi=>decide (bM γ i=hand):=rfl;rw[e];let e2:decide (bM (r::γ) 0=hand)=decide (kindOf r=hand):=rfl;rw[e2];split
  .rw[aaN,aaN,aae,ih]
  .rw[aae,ih]
set_option tactic.hygienic false
def vS(fp:Ψ (cB γ hand) p):-p=-(γ.filter λr=>decide (kindOf r=hand)):=by have:=abq List.length (aI fp);rw[aae,dc,aae]at this;rw[this];show vy γ
def Vi:DF:=λas M q _=>∃(k:Nat) (ε:Fr) (γ:List Rw) (hand:Str) (p:Pl) (X C:Int),as=[.loc k,.lst (γ.map ar),.str hand]/\M[k]? =!(dP p)/\FW ε γ X C/\Η hand=true/\Ψ (cB γ hand) p/\q (.bl true) M
def gw:Δ ["_law_plan_here","_law_rows","_law_whose","_law_k"] ["_law_plan_here","_law_rows","_law_whose"] (τ jZ):=.of rfl
def vO(F:cz K "_law_plan_told" "_law_plan_told" jZ f fd)(E:Ev K mg w Cm)(dN:aq P w K mg base 1 "_law_whole" ["_law_number"] zw qM qN):ao P w K mg base (bO P w) 2 f fd ["_law_plan_here","_law_rows","_law_whose"] (b8 K Vi):=by
 show F.de gw (λds M q x h=>?_) (λaQ A outer s H E' hr=>(_,(ζ (ah (JW.jt (e_ (cG (ba (Q_ K E.bf (Ν (jv 0) (Ν (CT E.mX uT) θ))))) (fk (kH hr (E4 E.bb (Ν (jv 0) θ)) (bz E.bb (ι (Bw (ys:=["_law_whose"]) (ag:=[2]) (.of gw rfl rfl rfl) (bC (jv 1)) (λC s H fp=>(bL hr (ω (jv 0) ξ) (jv 1))) (λC s H fp=>(jv 0))) θ)))))) (μ (ψ wL)) Ι)
   (ζ (gT (bZ E.bH (ι (bz E.bb (Ν (jv 1) θ)) θ aX)) (ai (i:=3) gw.nd rfl (Or.inl rfl)) aB (μ (ah (bL hr (ω (ω (jv 1) (jv 3)) ξ) (jv 2)) (μ (ah (JW.jt (e_ (xQ hr (jv 3) (jv 0)) (e_ (cG (ba (Φ dN hr ν (ι (iw hr (jv 0) (jv 3)) θ aw)))) (e_ (rN (iw hr (jv 0) (jv 3)) ξ) (fk (XD (iw hr (jv 0) (jv 3)) (bz E.bb (ι (ω (ω (jv 1) (jv 3)) ξ) θ aw)))))))) (μ (ψ wL)) Ι)) Ι)))
   (μ (ψ (K1 E.xn (ι (NI (ys:=[]) (ag:=[]) (.of gw rfl rfl rfl) (jv 0) (λC s H fp=>(Φ dN hr (gF (P:=P) (w:=w)) (Ν (jv 0) θ)))) θ)))))),λds M q x h=>?_))
 .let(k,ε,γ,hand,p,X,C,rfl,_):=h;rfl
 .let(k,ε,γ,hand,p,X,C,rfl,hk,fw,hh,fp,h):=h;let lV:=fw.pl.len;let sl:∀{z:Nat},z<=1000->z<=sizeLine:=λh=>aaF h @_;let kl:-(kP p)=-p:=by unfold kP;rw[List.length_map]
  let pn:-p=-(γ.filter λr=>decide (kindOf r=hand)):=vS fp;walk_at "vc";show(k,_,_,_,_,true,rfl,hk,rfl,oh,nofun,λ_=>?_);show(k,_,_,rfl,hk,?_);rw[kl];dsimp only[zz,fL];walk_at "vc";show(by rw[aae];show sl (),?_);show ft trivial (λx=>match x with| .tup (.str z::_)=>decide (z=hand)| _=>false) (λx=>x) _ _ (λx hx q' p' h1 h2=>?_) ?_
  .let(r,fF,rfl):=aam.mp hx;let(e0,er):=EE (r:=r);rw[er]at h1 h2;let h1:decide (kindOf r=hand)=true->q' (.tup (.str (kindOf r)::[e0])) M:=h1;let h2:decide (kindOf r=hand)=false->p' M:=h2;rw[<-er]at h1;walk_at "vc";show iZ ?_;change(match decide (kindOf r=hand) with| true=>q' (ar r) M| false=>p' M);cases hb:decide (kindOf r=hand) with
   | true=>show h1 hb
   | false=>show h2 hb
  rw[abx,List.map_id',vp];show(af (xs:=(γ.filter λr=>decide (kindOf r=hand)).map ar) rfl ?_:eQ [Dt.lst ((γ.filter λr=>decide (kindOf r=hand)).map ar)] _ _);rw[aae,<-pn];show(λz=>?_,λ_=>?_)
  .let z:(! decide ((-p:Int)=(-p:Int)))=true:=z;rw[aa2 rfl]at z;show nomatch z
  show(af (xs:=γ.map ar) rfl ?_:eQ [Dt.lst (γ.map ar)] _ _);rw[aae];show((),?_);rw[show((-γ:Int)).toNat=-γ by omega];show cU (λzs ρ' M'=>M'=M/\∃(i m:Nat) (o3:Option Dt),zs=dJ (i:Int) m/\i+m=-γ/\ρ'=[!(.loc k),!(.lst (γ.map ar)),!(.str hand),o3]) (λx zs ρ' M' hj et=>?_) (λρ' M' hj=>?_) _ _ _ (rfl,0,-γ,none,rfl,(),rfl)
  .let(rfl,i,m,o3,ex,im,rfl):=hj;let(m',rfl,rfl,rfl):=cx ex;let il:i < -γ:=()
   let hi:γ[i]? =!γ[i]:=aaa il;generalize γ[i]=r at *
   let nx:=et [!(.loc k),!(.lst (γ.map ar)),!(.str hand),!(.int (i:Int))] M' (rfl,i+1,m',_,by rw[acQ];rfl,(),rfl);walk_at "vc";show j5 hi (iZ ?_);show(λz=>?_,λ_=>nx);let z:kindOf r=hand:=aan z;cases r with
   | fin q0=>show abe (show Η (Str.ofString "end")=true by rw[<-hh,<-z];rfl) @_
   | υ k0 ds=>
    let z:k0=hand:=z;subst z;let(j,gj,jl):=(bY (i:=i) fw hh fp).1 ds hi;let gd:bx (kP p) (vP p) (Sum.inl (i:Int))=!(.int (j:Int)):=by rw[lD,gj];rfl
    let ik:LX (kP p) (Sum.inl (i:Int))=true:=by rw[K9,gj];rfl
    show(k,_,_,Sum.inl (i:Int),rfl,hk,rfl,?_);rw[ik];show(nofun,λ_=>?_);show(k,_,_,Sum.inl (i:Int),_,rfl,hk,rfl,gd,?_);show(_,rfl,nofun,λ_=>?_);show(k,_,_,Sum.inl (i:Int),_,rfl,hk,rfl,gd,?_);show(λz=>?_,λ_=>?_)
    .let z:(j:Int) < 0:=aan z;omega
    show(k,_,_,Sum.inl (i:Int),_,rfl,hk,rfl,gd,?_);show j5 hi (vf ?_);show(af (xs:=ds.map dW) rfl ?_:eQ [Dt.lst (ds.map dW)] _ _);rw[aae];show(λz=>?_,λ_=>nx);let z:(-ds:Int)<=(j:Int):=aan z;omega
  .let(rfl,i,m,o3,ex,im,rfl):=hj;let EI:M'[k]? =!(.c_ (kP p) ((p.map (·.2)).map Dt.int)):=by rw[<-c7];show hk
   let klt:=(aai.mp hk).1;walk_at "vc";dsimp only[MV];walk_at "vc";show(k,kP p,p.map (·.2),rfl,EI,by rw[kl];have:=vS fp;have:=acZ (λr=>decide (kindOf r=hand)) γ;show sl (),λep=>?_);show fT (f:=λ_=>.bl true) (abc klt) (λy hy q0 hq=>?_) (abc klt,(kP p).map (λ_=>true),by rw[aa4,aa4];rfl,?_)
   .let(key,RD,rfl):=aam.mp hy;let(e,he,rfl):=aam.mp RD;show(e.1,rfl,hq)
   .rw[acY,iO EI,show((kP p).map (λ_=>true)).all id=true by rw[List.all_map];show ab6.mpr λ_ _=>rfl];show h
set_option tactic.hygienic true
section
variable{pa p' S_:Pl}
def sP.lt(c:sP ε γ tb hand p p' i)(fw:FW ε γ X C)(hs:gY hand rival)(hp:∀t,t < -γ->0 < (tb.getD t (0, 1)).2):∃(ds:List bU) (j j':Nat),γ[i]? =!(.υ hand ds)/\Λ p i=!(j:Int)/\Λ p' i=!(j':Int)/\j < -ds/\j' < -ds/\fE hand * (val (ds.getD j d0).2.1+val ε * val (tb.getD (ds.getD j d0).1.toNat (0, 1))) < fE hand * (val (ds.getD j' d0).2.1+val ε * val (tb.getD (ds.getD j' d0).1.toNat (0, 1))):=by
 let(ds,j,j',hi,g,g',jl,nb,b):=c;let rm:Rw.υ hand ds∈γ:=aap hi;let(x',e'):=(gG hs.h1).mp b;let(lr,al):=oR (tb:=tb) fw rm hp;let gd:∀{k:Nat} (h:k < -ds),ds.getD k d0=ds[k]:=λh=>by rw[aab,aaa h];rfl
 let dm:=aaG jl;let dm':=aaG x';let le:=al _ dm;let ne:val (aa ε tb ds[j])≠val (fN ε tb (.υ hand ds)):=λz=>nb ((gG hs.h1).mpr (jl,by rw[gd jl];show AE (gx fw rm dm hp).2 lr z));let ne2:fE hand * val (aa ε tb ds[j])≠fE hand * val (fN ε tb (.υ hand ds)):=λz=>ne (yy z);rw[gd x']at e';show(ds,j,j',hi,g,g',jl,x',?_);rw[gd jl,gd x',<-(gx fw rm dm hp).1,<-(gx fw rm dm' hp).1,e'];grind
structure Up(ε:Fr)(γ:List Rw)(hand:Str)(p p':Pl)(tb mQ:List Fr):Prop where
 chg:∀i,i < -γ->Λ p' i=Λ p i\/sP ε γ tb hand p p' i
 up:∀i,i < -γ->fE hand * val (tb.getD i (0, 1))<=fE hand * val (mQ.getD i (0, 1))
 lt:∀i,i < -γ->sP ε γ tb hand p p' i->fE hand * val (tb.getD i (0, 1)) < fE hand * val (mQ.getD i (0, 1))
 ex:∃i,i < -γ/\sP ε γ tb hand p p' i
def OB(fw:FW ε γ X C)(hs:gY hand rival)(b1:1<=kN X C)(fp:Ψ (cB γ hand) p)(b:HA ε γ hand rival p pa tb)(ne:Β ε γ tb p≠[])(b':HA ε γ hand rival (a_ p (Β ε γ tb p)) S_ mQ):Up ε γ hand p (a_ p (Β ε γ tb p)) tb mQ:=by
 let hp:∀t,t < -γ->0 < (tb.getD t (0, 1)).2:=λt ht=>(b.2.1.tab.red t ht).pos;let pV:=eW (tb:=tb) fw hs.h1 fp hp;let n1:=sU (aK fp);let n2:=sU (aK pV);let cut:∀i,sP ε γ tb hand (a_ [] p) (a_ [] (a_ p (Β ε γ tb p))) i->sP ε γ tb hand p (a_ p (Β ε γ tb p)) i:=λi (ds,j,j',hi,g,g',r)=>(ds,j,j',hi,by rw[<-n1];show g,by rw[<-n2];show g',r);let hb:∀i,i < -γ->Λ (a_ p (Β ε γ tb p)) i=Λ p i\/sP ε γ tb hand p (a_ p (Β ε γ tb p)) i:=λi il=>by
  rcases pX fw hs.h1 fp hp [] i il with e| e
  .left;rw[<-n1,<-n2];show e
  .show .inr (cut i e)
 let(i,il,hc):=k4 fw hs.h1 fp hp [] ne;let(u,v):=um fw hs (mr fw hs pV b'.1) b1 b.2.1 b'.2.1 (pE fw hs fp b b'.1 pV hb);show(hb,u,λi il (ds,j,j',hi,g,g',r)=>v i il (ds,j,j',hi,by rw[(iW fw hs fp b.1 hi).1 rfl];show g,by rw[(iW fw hs pV b'.1 hi).1 rfl];show g',r),i,il,cut i hc)
end
section
def ML{f t:Fr}(h1:0 < f.2)(h2:0 < t.2)(e:val f=val t):f.1 * t.2=t.1 * f.2:=by
 let a:=aR (show f.2≠0 by omega);let b:=aR (show t.2≠0 by omega);unfold val at e;have:(f.1:Rat) * (t.2:Rat)=(t.1:Rat) * (f.2:Rat):=by
  generalize (f.1:Rat)=x1 at *
  generalize (f.2:Rat)=x2 at *
  generalize (t.1:Rat)=y1 at *
  generalize (t.2:Rat)=y2 at *
  grind
 rw[<-abu,<-abu]at this;show Rat.intCast_inj.mp this
def Ke(h0:0<=b)(h:b<=1000000):b.natAbs < 2 ^ 20:=by
 have:b.natAbs<=1000000:=()
 show abE this @_
def FW.rl(fw:FW ε γ X C)(hi:γ[i]? =!r):RwL ε (-γ) r:=by
 let rm:r∈γ:=aap hi;show⟨λk ds e=>?_⟩;subst e;let dr:=dR fw.pl rm;let sh:=fw.pl.sh;unfold aZ at sh;rw[aaQ,aaQ,aax,aax,aax]at sh;let(h1,h2,h3):=sh;show(dr.l6,dr.ro.1,λd hm=>?_,λhk=>?_)
 .let(py,p0):=dr.py d hm;let sp:=La py p0;show(dr.to d hm,sp.1,(p0,Ke (Int.le_of_lt p0) (by unfold bA at py;rw[Bool.and_eq_true,decide_eq_true_iff,decide_eq_true_iff]at py;show py.2)),(),(),())
 .let hh:Η k=true:=by
   rcases dr.kd with z| ⟨_,z,_⟩
   .show z
   .show abe z hk
  show(dr.l1,hh)
variable{p1 p2:Pl}{k:Str}
end
set_option tactic.hygienic false
def Cn{d:Dt}:jT (xs++[d]) (- 1)=!d:=by
 let e:Io (-(xs++[d])) (- 1)=!(-xs):=by unfold Io;rw[aak];simp;omega
 unfold jT;rw[e];simp
def TRT:DF:=λas M q _=>∃(kp ka kt kr lo:Nat) (ε:Fr) (γ:List Rw) (hand:Str) (p pa:Pl) (tb:List Fr) (rs sM:List C1) (X C:Int),as=[.tup [.loc kp,.loc ka,.loc kt,.loc kr],.lst (γ.map ar),.str hand]/\M[kp]? =!(dP p)/\M[kt]? =!(.lst (tb.map Ξ))/\CY M lo kr rs/\rs=sM++[(p, pa,tb)]/\(∀r∈rs,Ψ (cB γ hand) r.1/\uB r.2.2 (-γ))/\FW ε γ X C/\Η hand=true/\q (.bl true) M
def kJ:Δ ["_law_found","_law_rows","_law_whose","_law_one"] ["_law_found","_law_rows","_law_whose"] (τ iJ):=.of rfl
def pZ(F:cz K "_law_rounds_told" "_law_rounds_told" iJ f fd)(E:Ev K mg w Cm)(j_:aq P w K mg base 2 "_law_table" ["_law_table_here","_law_many"] J_ IX Jl)(gA:aq P w K mg base 2 "_law_plan_told" ["_law_plan_here","_law_rows","_law_whose"] Vi Aj y3):ao P w K mg base (bO P w) 3 f fd ["_law_found","_law_rows","_law_whose"] (b8 K TRT):=by
 show F.de kJ (λds M q x h=>?_) (λaQ A outer s H E' hr=>(_,(ζ (ah (JW.jt (e_ (cG (ba (mW K E.bf (Ν (jv 0) (Ν (CT E.lW kZ) θ))))) (e_ (kH hr (bz E.bb (Ν (jv 0) θ)) ξ) (e_ (cG (ba (mW K E.bf (ι (ω (jv 0) ξ) (Ν (CT E.kg oo) θ) aw)))) (fk (RG 1 hr (ω (jv 0) ξ) (kK θ))))))) (μ (ψ wL)) Ι)
   (ζ (c8 (bC (ω (jv 0) ξ)) (ai (i:=3) kJ.nd rfl (Or.inl rfl)) aB (ζ (ah (JW.jt (e_ (cG (ba (mW K E.bf (Ν (jv 3) (Ν (CT E.lW kZ) θ))))) (fk (kH hr (bz E.bb (Ν (jv 3) θ)) ξ)))) (μ (ψ wL)) Ι)
   (μ (ah (JW.jt (e_ (cG (ba (Φ gA hr ν (ι (ω (jv 3) ξ) (Ν (jv 1) (Ν (jv 2) θ)) aw)))) (fk (cG (ba (Φ j_ hr ν (ι (ω (jv 3) ξ) (ι (bz E.bb (Ν (jv 1) θ)) θ aX) aw))))))) (μ (ψ wL)) Ι))))
   (ζ (ah (JW.jt (e_ (cG (ba (Φ gA hr ν (ι (ω (jv 0) ξ) (Ν (jv 1) (Ν (jv 2) θ)) aw)))) (fk (cG (ba (Φ j_ hr ν (ι (ω (jv 0) ξ) (ι (bz E.bb (Ν (jv 1) θ)) θ aX) aw))))))) (μ (ψ wL)) Ι)
   (μ (ψ (gU (WL 1 hr (ω (jv 0) ξ) (ω (ω (ω (jv 0) ξ) (F_ ξ)) ξ)) (kz (VW 2 hr (ω (jv 0) ξ) (ω (ω (ω (jv 0) ξ) (F_ ξ)) ξ))))))))),λds M q x h=>?_))
 .let(kp,ka,kt,kr,lo,ε,γ,hand,p,pa,tb,rs,sM,X,C,rfl,_):=h;rfl
 .let(kp,ka,kt,kr,lo,ε,γ,hand,p,pa,tb,rs,sM,X,C,rfl,hp,ht,(ls,hl,hx,el,_),er,fit,fw,hh,h):=h;let lV:=fw.pl.len;let rd:∀{j:Nat} {d:Dt} (M:Ms) (q:DQ),[Dt.loc kp,.loc ka,.loc kt,.loc kr][j]? =!d->q d M->aW (.tup [.loc kp,.loc ka,.loc kt,.loc kr]) (.int (j:Int)) M q:=λM q e hq=>Ε (d:=.tup [.loc kp,.loc ka,.loc kt,.loc kr]) rfl (Θ e) hq;let lne:-ls≠0:=λe=>by have:=abq List.length el;rw[aae,er,aak,e]at this;cases this
  walk_at "vc";show(_,_,_,_,true,rfl,rfl,rfl,oh,nofun,λ_=>?_);show(af (d:=.tup [.loc kp,.loc ka,.loc kt,.loc kr]) (xs:=[.loc kp,.loc ka,.loc kt,.loc kr]) rfl ?_:eQ [Dt.tup [.loc kp,.loc ka,.loc kt,.loc kr]] _ _);show(nofun,λ_=>?_);show(rd (j:=3) _ _ rfl ?_:aW (.tup [.loc kp,.loc ka,.loc kt,.loc kr]) (.int 3) _ _);show(_,_,_,_,true,rfl,xa (cD hl),rfl,oh,nofun,λ_=>?_);show(rd (j:=3) _ _ rfl ?_:aW (.tup [.loc kp,.loc ka,.loc kt,.loc kr]) (.int 3) _ _);show(@_,?_);show(false,.inr (_,jh (cD hl)),.inr (_,rfl),.len (jh (cD hl)) rfl (by rw[aae];show lne),nofun,λ_=>?_);dsimp only[rO,fL];walk_at "vc";show(rd (j:=3) _ _ rfl ?_:aW (.tup [.loc kp,.loc ka,.loc kt,.loc kr]) (.int 3) _ _);rw[AJ hl];show bN (λzs ρ' M'=>M'=M/\∃(rest:List ((Nat×Nat)×C1)) (o3:Option Dt),zs=rest.map gM/\(∀x∈rest,x∈ls)/\ρ'=[!(.tup [.loc kp,.loc ka,.loc kt,.loc kr]),!(.lst (γ.map ar)),!(.str hand),o3]) (λzs ρ' M' hj=>by let(rfl,_):=hj;show hl) (λx zs ρ' M' hj et=>?_) (λρ' M' hj=>?_) _ _ _ (rfl,ls,none,rfl,λ_ h=>h,rfl)
  .let(rfl,rest,o3,ez,fF,rfl):=hj;cases rest with
   | nil=>cases ez
   | cons y rest=>
    cases ez;let ym:=fF y aah;let(_,_,y1,y2):=hx y ym;let yr:y.2∈rs:=by rw[<-el];show aam.mpr (y,ym,rfl)
    let(yf,yt):=fit _ yr;walk_at "vc";show(_,_,_,_,true,rfl,rfl,rfl,oh,nofun,λ_=>?_);show(af (d:=gM y) (xs:=[.loc y.1.1,.loc y.1.2]) rfl ?_:eQ [gM y] _ _);show(nofun,λ_=>?_);show(Ε (d:=gM y) (xs:=[.loc y.1.1,.loc y.1.2]) rfl aF ?_:aW (gM y) (.int 0) _ _);show(y.1.1,ε,γ,hand,y.2.1,X,C,rfl,y1,fw,hh,yf,nofun,λ_=>?_);show(Ε (d:=gM y) (xs:=[.loc y.1.1,.loc y.1.2]) rfl (Θ (j:=1) rfl) ?_:aW (gM y) (.int 1) _ _);show(af (xs:=γ.map ar) rfl ?_:eQ [Dt.lst (γ.map ar)] _ _);rw[aae];show(.loc y.1.2,y.2.2.2,-γ,_,rfl,A1 y2,yt,nofun,λ_=>?_);show et _ _ (rfl,rest,_,rfl,λx hx=>fF x (aaf _ hx),rfl)
  .let(rfl,rest,o3,ez,fF,rfl):=hj;let lm:(p, pa,tb)∈rs:=by rw[er];show aaJ _ (abh.mpr rfl)
   let(pf,pt):=fit _ lm;let(li,l2,rfl,_,e2):=List.map_eq_append_iff.mp (el.trans er);let(y,rfl,ey):=List.map_eq_singleton_iff.mp e2;let(_,_,y1,y2):=hx y (aaJ _ (abh.mpr rfl));rw[ey]at y1 y2;let last:∀(q:DQ),q (gM y) M'->aW (.loc kr) (.int (- 1)) M' q:=λq hq=>Ε (d:=.loc kr) (eN hl) (by rw[aa9];show Cn) hq;walk_at "vc";show(rd (j:=0) _ _ rfl ?_:aW (.tup [.loc kp,.loc ka,.loc kt,.loc kr]) (.int 0) _ _);show(kp,ε,γ,hand,p,X,C,rfl,hp,fw,hh,pf,nofun,λ_=>?_);show(rd (j:=2) _ _ rfl ?_:aW (.tup [.loc kp,.loc ka,.loc kt,.loc kr]) (.int 2) _ _);show(af (xs:=γ.map ar) rfl ?_:eQ [Dt.lst (γ.map ar)] _ _);rw[aae];show(.loc kt,tb,-γ,_,rfl,A1 ht,pt,nofun,λ_=>?_);show(rd (j:=0) _ _ rfl ?_:aW (.tup [.loc kp,.loc ka,.loc kt,.loc kr]) (.int 0) _ _);show(rd (j:=3) _ _ rfl ?_:aW (.tup [.loc kp,.loc ka,.loc kt,.loc kr]) (.int 3) _ _);dsimp only[JU];show(last _ ?_:aW (.loc kr) (.int (- 1)) _ _);show(Ε (d:=gM y) (xs:=[.loc y.1.1,.loc y.1.2]) rfl aF ?_:aW (gM y) (.int 0) _ _);show(kp,y.1.1,true,rfl,rfl,by have:=Mu (n:=0) hp y1;rwa[vI (aK pf)]at this,λ_=>?_,nofun);show(rd (j:=2) _ _ rfl ?_:aW (.tup [.loc kp,.loc ka,.loc kt,.loc kr]) (.int 2) _ _);show(rd (j:=3) _ _ rfl ?_:aW (.tup [.loc kp,.loc ka,.loc kt,.loc kr]) (.int 3) _ _);show(last _ ?_:aW (.loc kr) (.int (- 1)) _ _);show(Ε (d:=gM y) (xs:=[.loc y.1.1,.loc y.1.2]) rfl (Θ (j:=1) rfl) ?_:aW (gM y) (.int 1) _ _);show(true,.inr (_,jh (cD ht)),.inr (_,jh (cD y2)),NU (jh (cD ht)) (jh (cD y2)),h)
noncomputable def Jy(hand:Str):Int:=if hand="one" then 1 else - 1
set_option tactic.hygienic true
def MI(hs:gY hand rival){u v:Fr}(h1:0 < u.2)(h2:0 < v.2):(fE hand * val u < fE hand * val v->0 < Jy hand * (v.1 * u.2 - u.1 * v.2))/\(fE hand * val u<=fE hand * val v->0<=Jy hand * (v.1 * u.2 - u.1 * v.2)):=by
 let a:=uf h1 h2;let b:=uf h2 h1;rcases hs.two _ hs.h1 with _| _
 all_goals
  unfold fE Jy;split
  .show(λh=>?_,λh=>?_)
   .have:¬val v<=val u:=by grind
    have:¬v.1 * u.2<=u.1 * v.2:=λz=>this (b.mp z);omega
   .have:val u<=val v:=by grind
    have:=a.mpr this;omega
  .show(λh=>?_,λh=>?_)
   .have:¬val u<=val v:=by grind
    have:¬u.1 * v.2<=v.1 * u.2:=λz=>this (a.mp z);omega
   .have:val v<=val u:=by grind
    have:=b.mpr this;omega
def x8:∀l:List Int,fW (l.map Dt.int)=!(l.map V.int)
 | []=>rfl
 | a::l=>by let ih:=x8 l;rw[aa1,aa1];unfold fW;rw[ih];rfl
def Mx{l:List Int}:NA (.int v) (l.map V.int)=true↔v∈l:=by
 unfold NA;rw[List.any_eq_true];constructor
 .rintro⟨u,hu,e⟩;let(j,hj,rfl):=aam.mp hu;unfold pW at e;let e:j=v:=by simpa using e
  rw[<-e];show hj
 .intro h;show(.int v,aam.mpr (v,h,rfl),?_);unfold pW;simp
def Mr{u v:Fr}{a b:Nat}(h1:u.1.natAbs < 2 ^ a)(h2:u.2.natAbs < 2 ^ b)(h3:v.1.natAbs < 2 ^ a)(h4:v.2.natAbs < 2 ^ b):(v.1 * u.2 - u.1 * v.2).natAbs < 2 ^ (a+b+1):=by
 let x:=fo h3 h2;let y:=fo h1 h4;have:2 ^ (a+b+1)=2 * 2 ^ (a+b):=by rw[Nat.pow_succ,Nat.mul_comm]
 omega
def MW:DF:=λas M q _=>∃(u v:Fr),as=[Ξ u,Ξ v]/\(fJ u.1/\fJ u.2/\fJ v.1/\fJ v.2)/\q (.int (v.1 * u.2 - u.1 * v.2)) M
def MZ:Δ ["_law_one","_law_two"] ["_law_one","_law_two"] (τ Aq):=.of rfl
def Hy(F:cz K "_law_gap" "_law_gap" Aq f fd)(E:Ev K mg w Cm):ao P w K mg base (bO P w) 1 f fd ["_law_one","_law_two"] (b8 K MW):=by
 show F.de MZ (λds M q x h=>?_) (λaQ A outer s H E' hr=>(_,(μ (ψ (r6 (az (ω (jv 1) ξ) (ω (jv 0) ξ)) (az (ω (jv 0) ξ) (ω (jv 1) ξ))))),λds M q x h=>?_))
 .let(u,v,rfl,_):=h;rfl
 .let(u,v,rfl,(a1,a2,b1,b2),h):=h;walk_at "vc";show(pv ?_:aW (Ξ v) (.int 0) _ _);show(jw ?_:aW (Ξ u) (.int 1) _ _);show((b1,a2),?_);show(pv ?_:aW (Ξ u) (.int 0) _ _);show(jw ?_:aW (Ξ v) (.int 1) _ _);show((a1,b2),h)
def Ld:DF:=λas M q _=>∃(ε:Fr) (γ:List Rw) (hand rival:Str) (X C:Int) (k1 t1 k2 t2:Nat) (p p':Pl) (tb mQ:List Fr),as=[Ξ ε,.lst (γ.map ar),.int (Jy hand),.tup [.loc k1,.loc t1],.tup [.loc k2,.loc t2]]/\k1≠k2/\M[k1]? =!(dP p)/\M[t1]? =!(.lst (tb.map Ξ))/\M[k2]? =!(dP p')/\M[t2]? =!(.lst (mQ.map Ξ))/\FW ε γ X C/\gY hand rival/\Ψ (cB γ hand) p/\Ψ (cB γ hand) p'/\uB tb (-γ)/\uB mQ (-γ)/\(∀k ds,Rw.υ k ds∈γ->∀d∈ds,Yb ε (-γ) d)/\Up ε γ hand p p' tb mQ/\∀E,q (.bl true) (M++E)
def gc:Δ ["_law_share","_law_rows","_law_sign","_law_before","_law_behind","_law_changed","_law_k","_law_old","_law_new"] ["_law_share","_law_rows","_law_sign","_law_before","_law_behind"] (τ qT):=.of rfl
def A0(F:cz K "_law_rises" "_law_rises" qT f fd)(E:Ev K mg w Cm)(cf:aq P w K mg base 1 "_law_shown" ["_law_share","_law_door","_law_table_here"] O2 jx jK)(h_:aq P w K mg base 1 "_law_gap" ["_law_one","_law_two"] MW yN Ag):ao P w K mg base (bO P w) 2 f fd ["_law_share","_law_rows","_law_sign","_law_before","_law_behind"] (b8 K Ld):=by
 show F.de gc (λds M q x h=>?_) (λaQ A outer s H E' hr=>(_,(ζ (χ 5 gc.nd (i7 θ))
   (ζ (pM (ω (jv 3) ξ) (ai (i:=6) gc.nd rfl (Or.inl rfl)) aB (μ (ah (kH hr (iw hr (ω (jv 4) ξ) (jv 6)) (sN (ω (jv 3) ξ) (jv 6))) (ζ (χ 7 gc.nd (Φ cf hr ν (Ν (jv 0) (ι (ω (ω (ω (jv 1) (jv 6)) ξ) (sN (ω (jv 3) ξ) (jv 6))) (ι (ω (jv 3) ξ) θ aw) aw))))
   (ζ (χ 8 gc.nd (Φ cf hr ν (Ν (jv 0) (ι (ω (ω (ω (jv 1) (jv 6)) ξ) (iw hr (ω (jv 4) ξ) (jv 6))) (ι (ω (jv 3) ξ) θ aw) aw))))
   (ζ (ah (UI (az (jv 2) (Φ h_ hr ν (Ν (jv 7) (Ν (jv 8) θ)))) ξ) (μ (ψ wL)) Ι)
   (μ (eI (fC (jv 5) (Ν (jv 6) θ))))))) Ι)))
   (ζ (gT (bZ E.bH (ι (bz E.bb (Ν (jv 1) θ)) θ aX)) (ai (i:=6) gc.nd rfl (Or.inl rfl)) aB (μ (ah (rN (az (jv 2) (Φ h_ hr ν (ι (ω (ω (jv 3) ξ) (jv 6)) (ι (ω (ω (jv 4) ξ) (jv 6)) θ aw) aw))) (LS E.vJ (ι (VB (jv 6) (jv 5)) θ CH))) (μ (ψ wL)) Ι)))
   (μ (ψ (Vb 1 hr (jv 5) (i7 θ))))))),λds M q x h=>?_))
 .let(ε,γ,hand,rival,X,C,k1,t1,k2,t2,p,p',tb,mQ,rfl,_):=h;rfl
 .let(ε,γ,hand,rival,X,C,k1,t1,k2,t2,p,p',tb,mQ,rfl,k12,sX,P6,EI,NY,fw,hs,fp,pV,tk,tk',drl,u,h):=h;let lV:=fw.pl.len;let sgB:fJ (Jy hand):=by unfold Jy;split <;> show bg (k:=2) @_
  let kl:k1 < -M:=(aai.mp sX).1;let rb:∀{j:Nat} {d:Dt} (M:Ms) (q:DQ),[Dt.loc k1,.loc t1][j]? =!d->q d M->aW (.tup [.loc k1,.loc t1]) (.int (j:Int)) M q:=λM q e hq=>Ε (d:=.tup [.loc k1,.loc t1]) rfl (Θ e) hq;let rc:∀{j:Nat} {d:Dt} (M:Ms) (q:DQ),[Dt.loc k2,.loc t2][j]? =!d->q d M->aW (.tup [.loc k2,.loc t2]) (.int (j:Int)) M q:=λM q e hq=>Ε (d:=.tup [.loc k2,.loc t2]) rfl (Θ e) hq;let K4:∀e∈p,Λ p e.1=!e.2:=λe hm=>by
   have:∀{l:Pl},oE l->e∈l->Λ l e.1=!e.2:=λ{l}=>by
    induction l with
    | nil=>intro _ z;cases z
    | cons a l ih=>
     intro nl hm;unfold oE at nl;rw[aa1,aca]at nl;unfold Λ;rcases abg.mp hm with q| q
     .rw[aa0 (by rw[q]),q]
     .rw[aa3 λz=>nl.1 (by rw[z];show aam.mpr (e,q,rfl))];show ih nl.2 q
   show this (aK fp) hm
  walk_at "vc";dsimp only[G6];walk_at "vc";show(@_,?_);dsimp only[AO];walk_at "vc";show(rb (j:=0) _ _ rfl ?_:aW (.tup [.loc k1,.loc t1]) (.int 0) _ _);show(k1,kP p,p.map (·.2),rfl,by rw[<-c7];show Ω sX,λep=>?_);change pd _ _ _ k1 (si P w (kP p) (p.map (·.2)) ep) _ _ _ ((M++[MO.lst []]).set k1 (.raw (si P w (kP p) (p.map (·.2)) ep)));generalize hu:si P w (kP p) (p.map (·.2)) ep=uu;let Rf:(M++[MO.lst []]).set k1 (.raw uu)=M.set k1 (.raw uu)++[MO.lst (([]:List Int).map Dt.int)]:=by rw[aco _ _ kl];rfl
  let hb:∀cs:List Int,((M.set k1 (.raw uu)++[MO.lst (cs.map Dt.int)]).set k1 (.c_ (kP p) (vP p)))=M++[MO.lst (cs.map Dt.int)]:=λcs=>by
   rw[aco _ _ (by rw[abW];show kl),acY]
   congr 1
   show iO sX
  rw[Rf];let hp:∀t,t < -γ->0 < (tb.getD t (0, 1)).2:=λt ht=>(tk.red _ (tE (by rw[tk.len];show ht))).pos;let Q4:∀cs:List Int,(M.set k1 (.raw uu)++[MO.lst (cs.map Dt.int)])[k2]? =!(dP p'):=λcs=>Ω (by rw[abi k12];show EI);let tn1:t1≠k1:=λe=>by rw[e,sX]at P6;cases P6
  let tn2:t2≠k1:=λe=>by rw[e,sX]at NY;cases NY
  let EX:∀cs:List Int,(M.set k1 (.raw uu)++[MO.lst (cs.map Dt.int)])[t1]? =!(.lst (tb.map Ξ)):=λcs=>Ω (by rw[abi (Ne.symm tn1)];show P6);show jO (λxs ρ' M'=>∃(bR rest:Pl) (cs:List Int) (o6 o7 o8:Option Dt),p=bR++rest/\xs=kP rest/\(∀c∈cs,∃i:Nat,c=(i:Int)/\i < -γ/\sP ε γ tb hand p p' i)/\(∀e∈bR,Λ p' e.1=Λ p e.1\/e.1∈cs)/\-cs<=-bR/\M'=M.set k1 (.raw uu)++[MO.lst (cs.map Dt.int)]/\ρ'=[!(Ξ ε),!(.lst (γ.map ar)),!(.int (Jy hand)),!(.tup [.loc k1,.loc t1]),!(.tup [.loc k2,.loc t2]),!(.loc (-M)),o6,o7,o8]) (λxs ρ' M' hj=>?_) (λx xs ρ' M' hj et=>?_) (λρ' M' hj=>?_) _ _ _ ([],p,[],none,none,none,rfl,rfl,λ_ h=>(nomatch h),λ_ h=>(nomatch h),aaq _,rfl,rfl)
  .let(bR,rest,cs,o6,o7,o8,e,rfl,_,_,_,rfl,rfl):=hj;show Ω (by rw[abc kl])
  .let(bR,rest,cs,o6,o7,o8,e,ex,hc,hd,hl,rfl,rfl):=hj;cases rest with
   | nil=>cases ex
   | cons a rest=>
    cases ex;let am:a∈p:=by rw[e];simp
    let ga:=K4 a am;let ka:a.1∈p.map (·.1):=aam.mpr (a,am,rfl);rw[aI fp,dc]at ka;let(i,hm,ei):=aam.mp ka;let ei:(i:Int)=a.1:=ei;let(a1,v):=a;let ei:(i:Int)=a1:=ei;subst ei;let ga:Λ p i=!v:=ga;let(ds,j,hi,_,gj,jl,_):=gQ (tb:=tb) fw hs.h1 fp hp hm;let(j',Ra,x'):=(bY (i:=i) fw hs.h1 pV).1 ds hi;rw[ga]at gj;cases gj;let il:i < -γ:=(aai.mp hi).1;let rm:Rw.υ hand ds∈γ:=aap hi;let sy:(M.set k1 (.raw uu)++[MO.lst (cs.map Dt.int)])[k1]? =!(.raw uu):=Ω (by rw[abc kl]);let Js:(M.set k1 (.raw uu)++[MO.lst (cs.map Dt.int)])[-M]? =!(.lst (cs.map Dt.int)):=by have:=aA (M:=M.set k1 (.raw uu)) (o:=MO.lst (cs.map Dt.int));rwa[abW]at this
    let hg:bx (kP p) ((p.map (·.2)).map Dt.int) (Sum.inl (i:Int))=!(.int (j:Int)):=by rw[<-c7,lD,ga];rfl
    let hg':bx (kP p') (vP p') (Sum.inl (i:Int))=!(.int (j':Int)):=by rw[lD,Ra];rfl
    let TJ:-p<=12:=aaF (pj fp) lV;rw[<-hu]at sy Js et EX Q4⊢;walk_at "vc";dsimp only[Kz,Ew];walk_at "vc";show(rc (j:=0) _ _ rfl ?_:aW (.tup [.loc k2,.loc t2]) (.int 0) _ _);show(k2,_,_,Sum.inl (i:Int),_,rfl,Q4 cs,rfl,hg',?_);show(rb (j:=0) _ _ rfl ?_:aW (.tup [.loc k1,.loc t1]) (.int 0) _ _);show(k1,kP p,(p.map λx:Int×Int=>x.2),ep,Sum.inl (i:Int),(j:Int),rfl,sy,rfl,hg,?_);show(λz=>?_,λz=>?_)
    .let z:(! decide ((j':Int)=(j:Int)))=true:=z;let ne:¬(j':Int)=(j:Int):=λe=>by rw[aa2 e]at z;cases z
     let ch:sP ε γ tb hand p p' i:=by
      rcases u.chg i il with e| c
      .rw[ga,Ra]at e;show abe (aaC e) ne
      .show c
     let(r8,j2,j2',hi2,g2,XN,_,_,lt):=ch.lt fw hs hp;rw[hi]at hi2;cases hi2;rw[ga]at g2;rw[Ra]at XN;let e2:j=j2:=by have:=aaC g2;omega
     let e2':j'=j2':=by have:=aaC XN;omega
     subst e2 e2';let dj:=drl _ _ rm ds[j] (aaG jl);let TZ:=drl _ _ rm ds[j'] (aaG x');let gd:∀{k:Nat} (h:k < -ds),ds.getD k d0=ds[k]:=λh=>by rw[aab,aaa h];rfl
     let tj:=(rQ tk dj.to).1.pos;let tj':=(rQ tk TZ.to).1.pos;rw[gd jl,gd x',<-(qc dj.s2.1 dj.p2.1 tj).1,<-(qc TZ.s2.1 TZ.p2.1 tj').1]at lt;let z1:=BP tk dj;let z2:=BP tk TZ;let gp:=(MI hs (qc dj.s2.1 dj.p2.1 tj).2 (qc TZ.s2.1 TZ.p2.1 tj').2).1 lt;let gz:=Mr z1.1 z1.2 z2.1 z2.2;let rdr:∀{k:Nat} (h:k < -ds) (M':Ms) (q:DQ),q (dW ds[k]) M'->aW (.lst (ds.map dW)) (.int (k:Int)) M' q:=λh M' q hq=>Ε (d:=.lst (ds.map dW)) (xs:=ds.map dW) rfl (Kg h) hq;show(j5 hi ?_:aW (.lst (γ.map ar)) (.int (i:Int)) _ _);show vf ?_;show(rb (j:=0) _ _ rfl ?_:aW (.tup [.loc k1,.loc t1]) (.int 0) _ _);show(k1,kP p,(p.map λx:Int×Int=>x.2),ep,Sum.inl (i:Int),(j:Int),rfl,sy,rfl,hg,?_);show rdr jl _ _ ?_;show(rb (j:=1) _ _ rfl ?_:aW (.tup [.loc k1,.loc t1]) (.int 1) _ _);show(ε,ds[j],tb,-γ,t1,rfl,EX cs,tk,dj,?_);show(j5 hi ?_:aW (.lst (γ.map ar)) (.int (i:Int)) _ _);show vf ?_;show(rc (j:=0) _ _ rfl ?_:aW (.tup [.loc k2,.loc t2]) (.int 0) _ _);show(k2,_,_,Sum.inl (i:Int),_,rfl,Q4 cs,rfl,hg',?_);show rdr x' _ _ ?_;show(rb (j:=1) _ _ rfl ?_:aW (.tup [.loc k1,.loc t1]) (.int 1) _ _);show(ε,ds[j'],tb,-γ,t1,rfl,EX cs,tk,TZ,?_);show(_,_,rfl,(bg z1.1,bg z1.2,bg z2.1,bg z2.2),?_);show((sgB,bg gz),?_);show(λz=>?_,λ_=>?_)
     .let z:=aan z;omega
     dsimp only[SJ];walk_at "vc";show((_,_,rfl,Js),-M,_,_,rfl,rfl,Js,by rw[aae];show abE (show -cs<=1000 by have:=abq List.length e;rw[aak,aaN]at this;omega) @_,?_);show et _ _ (bR++[((i:Int), (j:Int))],rest,cs++[(i:Int)],_,_,_,by rw[e,abv];rfl,rfl,λc tI=>?_,λa ha=>?_,by rw[aak,aak];show Nat.add_le_add_right hl 1,?_,rfl)
     .rcases abj.mp tI with tI| tI
      .show hc c tI
      .show(i,abh.mp tI,il,ch)
     .rcases abj.mp ha with ha| ha
      .rcases hd a ha with q| q
       .show .inl q
       .show .inr (ac5 _ q)
      .rw[abh.mp ha];show .inr (aaJ _ (abh.mpr rfl))
     .have:=d_ (M:=M.set k1 (.raw (si P w (kP p) (p.map λx:Int×Int=>x.2) ep))) (a:=MO.lst (cs.map Dt.int)) (c:=MO.lst (cs.map Dt.int++[Dt.int (i:Int)]));rw[abW]at this;rw[aa9];show this
    .let z:(! decide ((j':Int)=(j:Int)))=false:=z;let e':(j':Int)=(j:Int):=by
      by_cases q:(j':Int)=(j:Int)
      .show q
      .rw[aa6 q]at z;cases z
     show et _ _ (bR++[((i:Int), (j:Int))],rest,cs,_,_,_,by rw[e,abv];rfl,rfl,hc,λa ha=>by
      rcases abj.mp ha with ha| ha
      .show hd a ha
      .rw[abh.mp ha];left;change Λ p' i=Λ p i;rw[ga,Ra,e'],aaF hl (by rw[aak];omega),rfl,rfl)
  .let(bR,rest,cs,o6,o7,o8,e,ex,hc,hd,hl,rfl,rfl):=hj;have:rest=[]:=by have:=abq List.length ex;unfold kP at this;rw[aae]at this;show ace.mp this.symm
   subst this;rw[abw]at e;subst e;rw[<-c7,hb cs];walk_at "vc";show(af (xs:=γ.map ar) rfl ?_:eQ [Dt.lst (γ.map ar)] _ _);rw[aae];show((),?_);rw[show((-γ:Int)).toNat=-γ by omega];show cU (λzs ρ' M'=>M'=M++[MO.lst (cs.map Dt.int)]/\∃(i m:Nat) (o6:Option Dt),zs=dJ (i:Int) m/\i+m=-γ/\ρ'=[!(Ξ ε),!(.lst (γ.map ar)),!(.int (Jy hand)),!(.tup [.loc k1,.loc t1]),!(.tup [.loc k2,.loc t2]),!(.loc (-M)),o6,o7,o8]) (λx zs ρ' M' hj et=>?_) (λρ' M' hj=>?_) _ _ _ (rfl,0,-γ,o6,rfl,(),rfl)
   .let(rfl,i,m,o6,ex,im,rfl):=hj;let(m',rfl,rfl,rfl):=cx ex;let il:i < -γ:=()
    let(r,b2,b1,at1):=rQ tk (t:=(i:Int)) ((),());let(r',Xr,W9,at2):=rQ tk' (t:=(i:Int)) ((),());rw[acs]at r b2 b1 at1 r' Xr W9 at2;let(g1,g2):=MI hs r.pos r'.pos;let gz:=Mr b1 b2 W9 Xr;let up:=u.up i il;let lt:=u.lt i il;generalize tb.getD i (0, 1)=x1 at *
    generalize mQ.getD i (0, 1)=x2 at *
    walk_at "vc";show(rb (j:=1) _ _ rfl ?_:aW (.tup [.loc k1,.loc t1]) (.int 1) _ _);show(Ε (d:=.loc t1) (eN (Ω P6)) at1 ?_:aW (.loc t1) (.int (i:Int)) _ _);show(rc (j:=1) _ _ rfl ?_:aW (.tup [.loc k2,.loc t2]) (.int 1) _ _);show(Ε (d:=.loc t2) (eN (Ω NY)) at2 ?_:aW (.loc t2) (.int (i:Int)) _ _);show(_,_,rfl,(bg b1,bg b2,bg W9,bg Xr),?_);show((sgB,bg gz),?_);show(.int (i:Int),_,_,rfl,eN aA,x8 cs,?_);let nx:=et [!(Ξ ε),!(.lst (γ.map ar)),!(.int (Jy hand)),!(.tup [.loc k1,.loc t1]),!(.tup [.loc k2,.loc t2]),!(.loc (-M)),!(.int (i:Int)),o7,o8] _ (rfl,i+1,m',_,by rw[acQ];rfl,(),rfl);cases hb':NA (.int (i:Int)) (cs.map V.int) with
    | true=>
     let(i',ei,_,ch):=hc _ (Mx.mp hb');let ei:i=i':=()
     subst ei;have:=g1 (lt ch);show(λz=>?_,λ_=>nx);let z:Jy hand * (x2.1 * x1.2 - x1.1 * x2.2) < 1:=aan z;omega
    | false=>
     have:=g2 up;show(λz=>?_,λ_=>nx);let z:Jy hand * (x2.1 * x1.2 - x1.1 * x2.2) < 0:=aan z;omega
   .let(rfl,i,m,o6,ex,im,rfl):=hj;let(i,il,ch):=u.ex;let Ka:-cs≠0:=λq=>by
     let(ds,j,j',hi,g,g',jl,nb,b):=ch;rcases hd _ (AF g) with z| z
     .let z:Λ p' i=Λ p i:=z;rw[g,g']at z;have:j'=j:=by have:=aaC z;omega
      rw[this]at b;show nb b
     .rw[ace.mp q]at z;cases z
    walk_at "vc";dsimp only[G6];walk_at "vc";show(@_,false,.inr (_,jh (cD (Ω aA))),.inr (_,jh (cD aA)),.len (jh (cD (Ω aA))) (jh (cD aA)) (by rw[aae];show Ka),?_);rw[abv];show h _
set_option tactic.hygienic false
def U7{u v:Fr}(h1:0 < u.2)(h2:0 < v.2)(e:val u=val v):v.1 * u.2 - u.1 * v.2=0:=by have:=ML h1 h2 e;omega
def LG{k:Str}{f:Fr}(fw:FW ε γ X C)(hh:Η k=true)(hi:γ[i]? =!(.υ k ds))(hp:∀t,t < -γ->0 < (tb.getD t (0, 1)).2)(jl:j < -ds)(b:j∈cW ε tb (.υ k ds))(h1:∃d∈ds,val f=val d.2.1+val ε * val (tb.getD d.1.toNat (0, 1)))(h2:∀d∈ds,fE k * (val d.2.1+val ε * val (tb.getD d.1.toNat (0, 1)))<=fE k * val f):val ds[j].2.1+val ε * val (tb.getD ds[j].1.toNat (0, 1))=val f:=by
 let rm:Rw.υ k ds∈γ:=aap hi;let(_,e):=(gG hh).mp b;let gd:ds.getD j d0=ds[j]:=by rw[aab,aaa jl];rfl
 rw[gd]at e;let dm:=aaG jl;let(lr,al):=oR (tb:=tb) fw rm hp;let(d,hd,ef):=h1;let a:=al d hd;rw[(gx fw rm hd hp).1,<-ef,<-e,(gx fw rm dm hp).1]at a;show yy (Rat.le_antisymm (h2 _ dm) a)
def QL:DF:=λas M q _=>∃(ε:Fr) (γ:List Rw) (hand:Str) (X C:Int) (k1 t1:Nat) (p:Pl) (tb:List Fr),as=[Ξ ε,.lst (γ.map ar),.tup [.loc k1,.loc t1]]/\M[k1]? =!(dP p)/\M[t1]? =!(.lst (tb.map Ξ))/\FW ε γ X C/\Η hand=true/\Ψ (cB γ hand) p/\uB tb (-γ)/\Β ε γ tb p=[]/\q (.bl true) M
def rE:Δ ["_law_share","_law_rows","_law_last","_law_k","_law_own"] ["_law_share","_law_rows","_law_last"] (τ vw):=.of rfl
def Fi(F:cz K "_law_shut" "_law_shut" vw f fd)(E:Ev K mg w Cm)(cf:aq P w K mg base 1 "_law_shown" ["_law_share","_law_door","_law_table_here"] O2 jx jK)(h_:aq P w K mg base 1 "_law_gap" ["_law_one","_law_two"] MW yN Ag)(vE:aq P w K mg base 2 "_law_due" ["_law_share","_law_row","_law_table_here","_law_door"] Qr O7 O0):ao P w K mg base (bO P w) 3 f fd ["_law_share","_law_rows","_law_last"] (b8 K QL):=by
 show F.de rE (λds M q x h=>?_) (λaQ A outer s H E' hr=>(_,(ζ (pM (ω (jv 2) ξ) (ai (i:=3) rE.nd rfl (Or.inl rfl)) aB (ζ (χ 4 rE.nd (Φ cf hr ν (Ν (jv 0) (ι (ω (ω (ω (jv 1) (jv 3)) ξ) (sN (ω (jv 2) ξ) (jv 3))) (ι (ω (jv 2) ξ) θ aw) aw))))
   (μ (ah (kH hr (Φ h_ hr ν (Ν (jv 4) (ι (Φ vE hr ν (Ν (jv 0) (ι (ω (jv 1) (jv 3)) (ι (ω (jv 2) ξ) (ι Ie θ dG) aw) aw))) θ aX))) ξ) (μ (ψ wL)) Ι))))
   (μ (ψ wL))),λds M q x h=>?_))
 .let(ε,γ,hand,X,C,k1,t1,p,tb,rfl,_):=h;rfl
 .let(ε,γ,hand,X,C,k1,t1,p,tb,rfl,sX,P6,fw,hh,fp,tk,be,h):=h;let lV:=fw.pl.len;let kl:k1 < -M:=(aai.mp sX).1;let rb:∀{j:Nat} {d:Dt} (M:Ms) (q:DQ),[Dt.loc k1,.loc t1][j]? =!d->q d M->aW (.tup [.loc k1,.loc t1]) (.int (j:Int)) M q:=λM q e hq=>Ε (d:=.tup [.loc k1,.loc t1]) rfl (Θ e) hq;let hp:∀t,t < -γ->0 < (tb.getD t (0, 1)).2:=λt ht=>(tk.red _ (tE (by rw[tk.len];show ht))).pos;let tn1:t1≠k1:=λe=>by rw[e,sX]at P6;cases P6
  walk_at "vc";dsimp only[AO];walk_at "vc";show(rb (j:=0) _ _ rfl ?_:aW (.tup [.loc k1,.loc t1]) (.int 0) _ _);show(k1,kP p,(p.map λx:Int×Int=>x.2),rfl,by rw[<-c7];show sX,λep=>?_);change pd _ _ _ k1 (si P w (kP p) (p.map λx:Int×Int=>x.2) ep) _ _ _ (M.set k1 (.raw (si P w (kP p) (p.map λx:Int×Int=>x.2) ep)));generalize hu:si P w (kP p) (p.map λx:Int×Int=>x.2) ep=uu;let EX:(M.set k1 (.raw uu))[t1]? =!(.lst (tb.map Ξ)):=by rw[abi (Ne.symm tn1)];show P6
  let sy:(M.set k1 (.raw uu))[k1]? =!(.raw uu):=abc kl;show jO (λxs ρ' M'=>∃(bR rest:Pl) (o3 o4:Option Dt),p=bR++rest/\xs=kP rest/\M'=M.set k1 (.raw uu)/\ρ'=[!(Ξ ε),!(.lst (γ.map ar)),!(.tup [.loc k1,.loc t1]),o3,o4]) (λxs ρ' M' hj=>?_) (λx xs ρ' M' hj et=>?_) (λρ' M' hj=>?_) _ _ _ ([],p,none,none,rfl,rfl,rfl,rfl)
  .let(bR,rest,o3,o4,e,rfl,rfl,rfl):=hj;show sy
  .let(bR,rest,o3,o4,e,ex,rfl,rfl):=hj;cases rest with
   | nil=>cases ex
   | cons a rest=>
    cases ex;let am:a∈p:=by rw[e];simp
    let ka:a.1∈p.map (·.1):=aam.mpr (a,am,rfl);rw[aI fp,dc]at ka;let(i,hm,ei):=aam.mp ka;let(a1,v):=a;let ei:(i:Int)=a1:=ei;subst ei;let(ds,j,hi,_,gj,jl,_):=gQ (tb:=tb) fw hh fp hp hm;let il:i < -γ:=(aai.mp hi).1;let rm:Rw.υ hand ds∈γ:=aap hi;let hg:bx (kP p) ((p.map λx:Int×Int=>x.2).map Dt.int) (Sum.inl (i:Int))=!(.int (j:Int)):=by rw[<-c7,lD,gj];rfl
    let rl:=fw.rl hi;let dj:=(rl.ds _ _ rfl).2.2.1 ds[j] (aaG jl);let tj:=(rQ tk dj.to).1.pos;let zj:=BP tk dj;let vj:=qc dj.s2.1 dj.p2.1 tj;let bj:=uS fw hh fp hp be hi gj;let nx:=et [!(Ξ ε),!(.lst (γ.map ar)),!(.tup [.loc k1,.loc t1]),!(.int (i:Int)),!(Ξ (nu ε tb ds[j]))] _ (bR++[((i:Int), v)],rest,_,_,by rw[e,abv];rfl,rfl,rfl,rfl);rw[<-hu]at sy EX nx⊢;walk_at "vc";dsimp only[Ew];walk_at "vc";show(j5 hi ?_:aW (.lst (γ.map ar)) (.int (i:Int)) _ _);show vf ?_;show(rb (j:=0) _ _ rfl ?_:aW (.tup [.loc k1,.loc t1]) (.int 0) _ _);show(k1,kP p,(p.map λx:Int×Int=>x.2),ep,Sum.inl (i:Int),(j:Int),rfl,sy,rfl,hg,?_);show(Ε (d:=.lst (ds.map dW)) (xs:=ds.map dW) rfl (Kg jl) ?_:aW (.lst (ds.map dW)) (.int (j:Int)) _ _);show(rb (j:=1) _ _ rfl ?_:aW (.tup [.loc k1,.loc t1]) (.int 1) _ _);show(ε,ds[j],tb,-γ,t1,rfl,EX,tk,dj,?_);show(j5 hi ?_:aW (.lst (γ.map ar)) (.int (i:Int)) _ _);show(rb (j:=1) _ _ rfl ?_:aW (.tup [.loc k1,.loc t1]) (.int 1) _ _);show(ε,.υ hand ds,tb,-γ,t1,rfl,EX,tk,rl,dj.s2.1,(_,_,rfl,hh),λk oB e hk f f0 f1 f2 h1 h2=>?_);cases e;show(_,_,rfl,(bg zj.1,bg zj.2,f1,f2),?_);let g0:=U7 vj.2 f0 (vj.1.trans (LG fw hh hi hp jl bj h1 h2));rw[g0];show(nofun,λ_=>nx)
  .let(bR,rest,o3,o4,e,ex,rfl,rfl):=hj;rw[<-c7,acY,iO sX];show h
def Vr(A:Addr):DF:=λas M q _=>∃(ε:Fr) (γ:List Rw) (hand rival:Str) (X C way:Int) (kh:Nat) (ph p0:Pl),as=[ax A ε γ,.str hand,.int way,.loc kh]/\0<=way/\way<=3/\M[kh]? =!(dP ph)/\(∀i,i < -γ->fX γ (jV hand ph) i=true)/\(way<=1->p0=bF γ hand ph)/\(1 < way->p0=gS γ hand)/\(hand="one"/\rival="other"\/hand="other"/\rival="one")/\FW ε γ X C/\kN X C<=2 ^ 450/\(12 * kN X C) ^ (-γ) < 2 ^ 1030/\1<=kN X C/\-(fG (cB γ hand))<=1000/\∀(M1:Ms) (kp ka kt kr lo:Nat) (rs sM:List C1) (p pa:Pl) (tb:List Fr),Xt M M1->(-M<=kp/\-M<=kt/\-M<=kr/\-M<=lo)->M1[kp]? =!(dP p)->M1[ka]? =!(dP pa)->M1[kt]? =!(.lst (tb.map Ξ))->CY M1 lo kr rs->P8 ε γ hand rival p0 rs->rs=sM++[(p, pa,tb)]->Β ε γ tb p=[]->-rs<=-(fG (cB γ hand))->q (.tup [.loc kp,.loc ka,.loc kt,.loc kr]) M1
def CI:Δ ["_law_floor_here","_law_whose","_law_way","_law_handed"] ["_law_floor_here","_law_whose","_law_way","_law_handed"] (τ nj):=.of rfl
def As(F:cz K "_law_mended" "_law_mended" nj f fd)(E:Ev K mg w Cm)(qF:ET P w K mg base 10 "mended" ["floor","hand","start"] (d9 Cm) [] me mv)(ie:D7 P w K mg base 10 "mended" ["floor","hand","start"] (d9 Cm) 1 "start" [.str "one"] [] me mv)(iE:D7 P w K mg base 10 "mended" ["floor","hand","start"] (d9 Cm) 2 "start" [] [] me mv)(rB:ET P w K mg base 10 "mended" ["floor","hand","start"] (d9 Cm) [.str "one",.bc] me mv)(je:D7 P w K mg base 10 "mended" ["floor","hand","start"] (d9 Cm) 1 "hand" [] [.bc] me mv)(qz:ET P w K mg base 10 "mended" ["floor","hand","start"] (d9 Cm) [.bc] me mv):ao P w K mg base (bO P w) 11 f fd ["_law_floor_here","_law_whose","_law_way","_law_handed"] (b8 K (Vr Cm)):=by
 show F.de CI (λds M q x h=>?_) (λaQ A outer s H E' hr=>(_,(ζ (ah (bL hr (jv 2) ξ) (μ (ψ (Mt qF hr ν (Ν (jv 0) (Ν (jv 1) (Ν (jv 3) θ)))))) Ι)
   (ζ (ah (JW.jt (yp (bL hr (jv 2) ξ) (sR (bL hr (jv 1) g8)))) (μ (ψ (J7 ie hr ν (Ν (jv 0) θ) (jv 3)))) Ι)
   (ζ (ah (bL hr (jv 2) ξ) (μ (ψ (J7 iE hr ν (Ν (jv 0) (ι g8 θ dG)) (jv 3)))) Ι)
   (ζ (ah (JW.jt (yp (bL hr (jv 2) ξ) (sR (bL hr (jv 1) g8)))) (μ (ψ (Mt rB hr ν (Ν (jv 0) θ)))) Ι)
   (ζ (ah (bL hr (jv 2) ξ) (μ (ψ (J7 je hr ν (Ν (jv 0) θ) g8))) Ι)
   (μ (ψ (Mt qz hr ν (Ν (jv 0) (Ν (jv 1) θ)))))))))),λds M q x h=>?_))
 .let(ε,γ,hand,rival,X,C,way,kh,ph,p0,rfl,_):=h;rfl
 .let(ε,γ,hand,rival,X,C,way,kh,ph,p0,rfl,w0,w3,hk,gd,e1,e2,fF,fw,kL,v7,b1,hN,h):=h;let YG:way<=1->d9 Cm [ax Cm ε γ,.str hand,.loc kh] M q x:=λz=>(ε,γ,hand,rival,X,C,.loc kh,p0,rfl,.inr (kh,ph,rfl,hk,gd,e1 z),fF,fw,kL,v7,b1,hN,h);let go2:1 < way->d9 Cm [ax Cm ε γ,.str hand,.bc] M q x:=λz=>(ε,γ,hand,rival,X,C,.bc,p0,rfl,.inl (rfl,e2 z),fF,fw,kL,v7,b1,hN,h);walk_at "vc";show(λz=>?_,λz=>?_)
  .let z:way=0:=aan z;show YG ()
  let z:way≠0:=aba z;let Ia:¬hand="one"->hand="other":=λy=>fF.elim (λq=>abe q.1 y) (·.1);show(λz1=>(λy=>?_,λy=>?_),λz1=>?_)
  .let z1:way=1:=aan z1;let y:hand="one":=aan y;show(rfl,?_);change d9 Cm [ax Cm ε γ,.str "one",.loc kh] M q x;rw[<-y];show YG ()
  .let z1:way=1:=aan z1;let y:hand="other":=Ia (aba y);show(λ_=>(rfl,?_),λq=>abe z1 (aba q));change d9 Cm [ax Cm ε γ,.str "other",.loc kh] M q x;rw[<-y];show YG ()
  .let z1:way≠1:=aba z1;show(nofun,λ_=>(λq=>abe (aan q) z1,λ_=>?_));show(λz2=>(λy=>?_,λy=>?_),λz2=>?_)
   .let z2:way=2:=aan z2;let y:hand="one":=aan y;change d9 Cm [ax Cm ε γ,.str "one",.bc] M q x;rw[<-y];show go2 ()
   .let z2:way=2:=aan z2;let y:hand="other":=Ia (aba y);show(λ_=>(rfl,?_),λq=>abe z2 (aba q));change d9 Cm [ax Cm ε γ,.str "other",.bc] M q x;rw[<-y];show go2 ()
   .let z2:way≠2:=aba z2;show(nofun,λ_=>(λq=>abe (aan q) z2,λ_=>?_));show go2 ()
def BM:∀kc:List (Int×Nat),-(fG kc)=mN (kc.map (·.2))
 | []=>rfl
 | (k, c)::r=>by
  let e:∀(ms:List Nat) (l:List Pl),-(ms.flatMap λj:Nat=>l.map λp=>(k, (j:Int))::p)=-ms * -l:=λms l=>by
   induction ms with
   | nil=>rw[adm,Nat.zero_mul];rfl
   | cons a ms ih=>rw[ads,aak,aae,ih,aaN,Nat.succ_mul,Nat.add_comm]
  change((List.range c).flatMap λj:Nat=>(fG r).map λp=>(k, (j:Int))::p).length=c * mN (r.map (·.2));rw[e,abJ,BM r]
def xr:∀(l:List Nat) (a:Nat),l.foldl (· * ·) a=a * mN l
 | [],a=>(Nat.mul_one a).symm
 | b::l,a=>by change l.foldl (· * ·) (a * b)=a * (b * mN l);rw[xr l (a * b),Nat.mul_assoc]
def An(γ:List Rw)(i:Int):Nat:=-(Ο (fi γ i.toNat))
def OE(fp:Ψ (cB γ hand) p):(p.map λe=>An γ e.1).foldl (· * ·) 1=-(fG (cB γ hand)):=by
 let e:p.map (λe=>An γ e.1)=(cB γ hand).map (·.2):=by have:=abq (List.map (An γ)) (aI fp);rw[aa4]at this;rw[show(p.map λe=>An γ e.1)=p.map (An γ ∘ λx=>x.1) from rfl,this];unfold cB;rw[aa4,aa4,aa4];rfl
 rw[xr,Nat.one_mul,e,BM]
def M8:DF:=λas M q _=>∃(ε:Fr) (γ:List Rw) (hand rival:Str) (X C side:Int) (kf kp ka kt kr lo:Nat) (pf p0 p pa:Pl) (tb:List Fr) (rs sM:List C1),as=[Ξ ε,.lst (γ.map ar),.int side,.loc kf,.tup [.loc kp,.loc ka,.loc kt,.loc kr]]/\(side=0/\hand="one"/\rival="other"\/side=1/\hand="other"/\rival="one")/\M[kf]? =!(dP pf)/\kf≠kr/\J4 p0 pf=true/\Ψ (cB γ hand) pf/\M[kp]? =!(dP p)/\M[kt]? =!(.lst (tb.map Ξ))/\CY M lo kr rs/\P8 ε γ hand rival p0 rs/\rs=sM++[(p, pa,tb)]/\Β ε γ tb p=[]/\-rs<=-(fG (cB γ hand))/\-(fG (cB γ hand))<=1000/\FW ε γ X C/\1<=kN X C/\∀E,q (.bl true) (M++E)
def ir:Δ ["_law_share","_law_rows","_law_side","_law_first","_law_found","_law_many","_law_k"] ["_law_share","_law_rows","_law_side","_law_first","_law_found"] (τ p8):=.of rfl
def Cz(F:cz K "_law_right" "_law_right" p8 f fd)(E:Ev K mg w Cm)(gW:aq P w K mg base 3 "_law_rounds_told" ["_law_found","_law_rows","_law_whose"] TRT vA tP)(nP:aq P w K mg base 2 "_law_rises" ["_law_share","_law_rows","_law_sign","_law_before","_law_behind"] Ld HI IH)(p9:aq P w K mg base 3 "_law_shut" ["_law_share","_law_rows","_law_last"] QL Lq M6):ao P w K mg base (bO P w) 4 f fd ["_law_share","_law_rows","_law_side","_law_first","_law_found"] (b8 K M8):=by
 show F.de ir (λds M q x h=>?_) (λaQ A outer s H E' hr=>(_,(ζ (ah (JW.jt (e_ (cG (ba (Φ gW hr ν (Ν (jv 4) (Ν (jv 1) (ι (ω (cv 3 (d:=.lst [.str "one",.str "other"]) (by rfl)) (jv 2)) θ aw)))))) (fk (JZ 1 hr (ω (ω (ω (jv 4) ξ) ξ) ξ) (jv 3))))) (μ (ψ wL)) Ι)
   (ζ (χ 5 ir.nd ξ)
   (ζ (pM (jv 3) (ai (i:=6) ir.nd rfl (Or.inl rfl)) aB (μ (χ 5 ir.nd (az (jv 5) (bz E.bb (ι (ω (ω (jv 1) (jv 6)) ξ) θ aw))))))
   (ζ (gT (x5 E.bH (ι ξ (ι (bz E.bb (ι (ω (jv 4) ξ) θ aw)) θ aX) dG)) (ai (i:=6) ir.nd rfl (Or.inl rfl)) aB (μ (ah (cG (ba (Φ nP hr ν (Ν (jv 0) (Ν (jv 1) (ι (r6 ξ (az ξ (jv 2))) (ι (ω (ω (jv 4) ξ) (r6 (jv 6) ξ)) (ι (ω (ω (jv 4) ξ) (jv 6)) θ aw) aw) bJ)))))) (μ (ψ wL)) Ι)))
   (μ (ψ (gU (zt (bz E.bb (ι (ω (jv 4) ξ) θ aw)) (jv 5)) (kz (Φ p9 hr ν (Ν (jv 0) (Ν (jv 1) (ι (ω (ω (jv 4) ξ) (F_ ξ)) θ aw)))))))))))),λds M q x h=>?_))
 .let(ε,γ,hand,rival,X,C,side,kf,kp,ka,kt,kr,lo,pf,p0,p,pa,tb,rs,sM,rfl,_):=h;rfl
 .let(ε,γ,hand,rival,X,C,side,kf,kp,ka,kt,kr,lo,pf,p0,p,pa,tb,rs,sM,rfl,Tg,Yd,kfr,ef,ff,hp,ht,ra,rd,er,be,Qs,hN,fw,b1,h):=h;let lV:=fw.pl.len;let hs:gY hand rival:=gO (Tg.elim (λz=>.inl z.2) λz=>.inr z.2);let tok:∀r∈rs,uB r.2.2 (-γ):=λr hr=>(rd.fit r hr).2.2.1.ok fw (mr fw hs (rd.fit r hr).1 (rd.fit r hr).2.1) b1;let ix:∀(M':Ms) (q:DQ),q (.str hand) M'->aW (.lst [.str "one",.str "other"]) (.int side) M' q:=λM' q hq=>by
   rcases Tg with ⟨rfl,rfl,_⟩| ⟨rfl,rfl,_⟩
   .show Ε (d:=.lst [.str "one",.str "other"]) rfl aF hq
   .show Ε (d:=.lst [.str "one",.str "other"]) rfl (Θ (j:=1) rfl) hq
  let(ls,hl,hx,el,nd):=id ra;let rf:∀{j:Nat} {d:Dt} (M:Ms) (q:DQ),[Dt.loc kp,.loc ka,.loc kt,.loc kr][j]? =!d->q d M->aW (.tup [.loc kp,.loc ka,.loc kt,.loc kr]) (.int (j:Int)) M q:=λM q e hq=>Ε (d:=.tup [.loc kp,.loc ka,.loc kt,.loc kr]) rfl (Θ e) hq;let lls:-ls=-rs:=by rw[<-el,aae]
  obtain⟨y0,ly,eY⟩:∃y0 ly,ls=y0::ly:=ab5 λq=>by rw[q]at el;rw[er]at el;have:=abq List.length el;rw[aak]at this;cases this
  let e0:y0.2.1=p0:=rd.first y0.2 (by rw[<-el,eY];rfl);let k0:=(hx y0 (by rw[eY];show aah)).2.2.1;rw[e0]at k0;walk_at "vc";show(ix _ _ ?_:aW (.lst [.str "one",.str "other"]) (.int side) _ _);show(kp,ka,kt,kr,lo,ε,γ,hand,p,pa,tb,rs,sM,X,C,rfl,hp,ht,ra,er,λr hr=>((rd.fit r hr).1,tok r hr),fw,hs.h1,nofun,λ_=>?_);show(rf (j:=3) _ _ rfl ?_:aW (.tup [.loc kp,.loc ka,.loc kt,.loc kr]) (.int 3) _ _);show(Ε (d:=.loc kr) (eN hl) (show jT (ls.map gM) 0=!(gM y0) by rw[eY];show aF) ?_:aW (.loc kr) (.int 0) _ _);show(Ε (d:=gM y0) (xs:=[.loc y0.1.1,.loc y0.1.2]) rfl aF ?_:aW (gM y0) (.int 0) _ _);show(y0.1.1,kf,true,rfl,rfl,by have:=Mu (n:=0) k0 Yd;rwa[ef]at this,nofun,λ_=>?_);let kl:kf < -M:=(aai.mp Yd).1;dsimp only[AO];walk_at "vc";show(kf,kP pf,(pf.map λx:Int×Int=>x.2),rfl,by rw[<-c7];show Yd,λep=>?_);change pd _ _ _ kf (si P w (kP pf) (pf.map λx:Int×Int=>x.2) ep) _ _ _ (M.set kf (.raw (si P w (kP pf) (pf.map λx:Int×Int=>x.2) ep)));generalize si P w (kP pf) (pf.map λx:Int×Int=>x.2) ep=uu;let TJ:-pf<=12:=aaF (pj ff) lV;show jO (λxs ρ' M'=>∃(bR rest:Pl) (m:Nat) (o6:Option Dt),pf=bR++rest/\xs=kP rest/\m=(bR.map λe=>An γ e.1).foldl (· * ·) 1/\m<=6 ^ (-bR)/\M'=M.set kf (.raw uu)/\ρ'=[!(Ξ ε),!(.lst (γ.map ar)),!(.int side),!(.loc kf),!(.tup [.loc kp,.loc ka,.loc kt,.loc kr]),!(.int (m:Int)),o6]) (λxs ρ' M' hj=>?_) (λx xs ρ' M' hj et=>?_) (λρ' M' hj=>?_) _ _ _ ([],pf,1,none,rfl,rfl,rfl,aaq _,rfl,rfl)
  .let(bR,rest,m,o6,e,rfl,_,_,rfl,rfl):=hj;show abc kl
  .let(bR,rest,m,o6,e,ex,em,ml,rfl,rfl):=hj;cases rest with
   | nil=>cases ex
   | cons a rest=>
    cases ex;let am:a∈pf:=by rw[e];simp
    let ka:a.1∈pf.map (·.1):=aam.mpr (a,am,rfl);rw[aI ff,dc]at ka;let(i,hm,ei):=aam.mp ka;let(a1,v):=a;let ei:(i:Int)=a1:=ei;subst ei;let(ds,hi,ed,d1):=pN fw hs.h1 hm;let d6:=(dR fw.pl (aap hi)).l6;let ci:An γ (i:Int)=-ds:=by unfold An;rw[Int.toNat_natCast,ed]
    let dl:-bR+1<=12:=by have:=abq List.length e;rw[aak,aaN]at this;omega
    let m40:m<=6 ^ 12:=aaF ml (acC @_ ());let m40:m<=2176782336:=aaF m40 @_;walk_at "vc";show(j5 hi ?_:aW (.lst (γ.map ar)) (.int (i:Int)) _ _);show vf ?_;show(af (xs:=ds.map dW) rfl ?_:eQ [Dt.lst (ds.map dW)] _ _);rw[aae];show((bg (k:=40) (),bg (k:=10) ()),?_);show et _ _ (bR++[((i:Int), v)],rest,m * -ds,_,by rw[e,abv];rfl,rfl,?_,?_,rfl,by rw[Int.natCast_mul])
    .rw[aa9,List.foldl_append,<-em];change m * -ds=m * An γ (i:Int);rw[ci]
    .rw[aak];show Nat.mul_le_mul ml d6
  .let(bR,rest,m,o6,e,ex,em,ml,rfl,rfl):=hj;have:rest=[]:=by have:=abq List.length ex;unfold kP at this;rw[aae]at this;show ace.mp this.symm
   subst this;rw[abw]at e;subst e;rw[<-c7,acY,iO Yd];let em:m=-(fG (cB γ hand)):=em.trans (OE ff);clear ml;let es:1 - 2 * side=Jy hand:=by rcases Tg with ⟨rfl,rfl,_⟩| ⟨rfl,rfl,_⟩ <;> rfl
   let sB:fJ side:=by rcases Tg with ⟨rfl,_⟩| ⟨rfl,_⟩ <;> show bg (k:=2) @_
   let rl1:1<=-rs:=by rw[er,aak];show Nat.le_add_left _ _
   let Xm:∀(E:Ms) (q:DQ),q (.int (-rs:Int)) (M++E)->eQ [Dt.loc kr] (M++E) q:=λE q hq=>af (d:=.loc kr) (eN (Ω hl)) (by rw[aae,lls];show hq);let Zp:M=M++[]:=(abw M).symm;walk_at "vc";dsimp only[ED];walk_at "vc";show(rf (j:=3) _ _ rfl ?_:aW (.tup [.loc kp,.loc ka,.loc kt,.loc kr]) (.int 3) _ _);rw[Zp];show Xm [] _ ?_;show((@_,@_,(),()),?_);show cU (λzs ρ' M'=>∃(i n:Nat) (E:Ms) (o6:Option Dt),zs=dJ (i:Int) n/\1<=i/\i+n=-rs/\M'=M++E/\ρ'=[!(Ξ ε),!(.lst (γ.map ar)),!(.int side),!(.loc kf),!(.tup [.loc kp,.loc ka,.loc kt,.loc kr]),!(.int (m:Int)),o6]) (λx zs ρ' M' hj et=>?_) (λρ' M' hj=>?_) _ _ _ (1,((-rs:Int) - 1).toNat,[],o6,rfl,aaq _,(),rfl,rfl)
   .let(i,n,E,o6,ex,i1,inn,rfl,rfl):=hj;let(n',rfl,rfl,rfl):=cx ex;obtain⟨j,rfl⟩:∃j,i=j+1:=(i - 1,());let jl:j < -ls:=()
    let x':j+1 < -ls:=()
    let a1:ls[j]? =!ls[j]:=aaa jl;let a2:ls[j+1]? =!ls[j+1]:=aaa x';let kne:ls[j].1.1≠ls[j+1].1.1:=λq=>by
     let q:(ls.map λx=>x.1.1)[j]'(by rw[aae];show jl)=(ls.map λx=>x.1.1)[j+1]'(by rw[aae];show x'):=by rw[List.getElem_map,List.getElem_map];show q
     have:=(List.getElem_inj nd).mp q;omega
    let r1:rs[j]? =!ls[j].2:=by rw[<-el,aas,a1];rfl
    let r2:rs[j+1]? =!ls[j+1].2:=by rw[<-el,aas,a2];rfl
    let(_,_,W9,Xr):=hx _ (aaG jl);let(_,_,c1',c2'):=hx _ (aaG x');let m1:=aap r1;let m2:=aap r2;let(f1,s1):=rd.fit _ m1;let(f2,s2):=rd.fit _ m2;let(bn,eu):=rd.next j _ _ r1 r2;let t1:=tok _ m1;let t2:=tok _ m2;generalize ls[j]=y at *
    generalize ls[j+1]=y' at *
    let up:Up ε γ hand y.2.1 y'.2.1 y.2.2.2 y'.2.2.2:=by rw[eu]at s2⊢;show OB fw hs b1 f1 s1 bn s2
    walk_at "vc";show((bg (k:=2) @_,sB),?_);dsimp only[Bg];rw[es];show(rf (j:=3) _ _ rfl ?_:aW (.tup [.loc kp,.loc ka,.loc kt,.loc kr]) (.int 3) _ _);rw[show((j+1:Nat):Int) - 1=(j:Int) by omega];show(Ε (d:=.loc kr) (eN (Ω hl)) (Θ (j:=j) (v:=gM y) (by rw[aas,a1];rfl)) ?_:aW (.loc kr) (.int (j:Int)) _ _);show(rf (j:=3) _ _ rfl ?_:aW (.tup [.loc kp,.loc ka,.loc kt,.loc kr]) (.int 3) _ _);show(Ε (d:=.loc kr) (eN (Ω hl)) (Θ (j:=j+1) (v:=gM y') (by rw[aas,a2];rfl)) ?_:aW (.loc kr) (.int ((j+1:Nat):Int)) _ _);show(ε,γ,hand,rival,X,C,y.1.1,y.1.2,y'.1.1,y'.1.2,y.2.1,y'.2.1,y.2.2.2,y'.2.2.2,rfl,kne,Ω W9,Ω Xr,Ω c1',Ω c2',fw,hs,f1,f2,t1,t2,λk ds hm=>?_,up,λE'=>(nofun,λ_=>?_))
    .let(i',il',ei):=ab2 hm;show((fw.rl (i:=i') (r:=.υ k ds) (by rw[aaa il',ei])).ds k ds rfl).2.2.1
    .show et _ _ (j+2,n',E++E',_,by rw[show((j+2:Nat):Int)=((j+1:Nat):Int)+1 by omega],(),(),by rw[abv],rfl)
   .let(i,n,E,o6,ex,i1,inn,rfl,rfl):=hj;let(li,l2,rfl,_,e2):=List.map_eq_append_iff.mp (el.trans er);let(yl,rfl,ey):=List.map_eq_singleton_iff.mp e2;let(_,_,y1,y2):=hx yl (aaJ _ (abh.mpr rfl));let lm:(p, pa,tb)∈rs:=by rw[er];show aaJ _ (abh.mpr rfl)
    rw[ey]at y1 y2;walk_at "vc";show(rf (j:=3) _ _ rfl ?_:aW (.tup [.loc kp,.loc ka,.loc kt,.loc kr]) (.int 3) _ _);show Xm E _ ?_;show(λ_=>?_,λz=>abe (show(-rs:Int)<=(m:Int) by omega) (aba z));show(rf (j:=3) _ _ rfl ?_:aW (.tup [.loc kp,.loc ka,.loc kt,.loc kr]) (.int 3) _ _);dsimp only[JU];show(Ε (d:=.loc kr) (eN (Ω hl)) (show jT ((li++[yl]).map gM) (- 1)=!(gM yl) by rw[aa9];show Cn) ?_:aW (.loc kr) (.int (- 1)) _ _);show(ε,γ,hand,X,C,yl.1.1,yl.1.2,p,tb,rfl,Ω y1,Ω y2,fw,hs.h1,(rd.fit _ lm).1,tok _ lm,be,h E)
def CC{M:Ms}:∀rs:List Rw,Paired (kS M) (rs.map ar) rs
 | []=>.nil
 | r::rs=>.cons (PD _ r) (CC rs)
def Ks{q:DQ}(h:q (ax A ε γ) M):wy M q (.loc (-M)) ((M++[MO.ins A [] []]).set (-M) (.ins A ["kept_share","kept_rows"] [Ξ ε,.lst (γ.map ar)])):=by rw[d_];show nh (d':=ax A ε γ) (.ZV (Nat.le_refl _) (by simp) (.cons (.old (qu ε)) (.cons (.old (tS γ)) .nil))) h
set_option tactic.hygienic true
section
variable{p1 p2:Pl}
def Lu(f1:Ψ (cB γ hand) p1)(f2:Ψ (cB γ hand) p2)(h:∀i v,Λ p1 i=!v->Λ p2 i=!v):J4 p1 p2=true:=by
 let l:=abq List.length ((aI f1).trans (aI f2).symm);rw[aae,aae]at l;unfold J4;rw[aaQ,aax,ab6];show(l,λj hj=>aa2 ?_);let hj:=abG.mp hj;let e:p1.getD j (0, 0)=p1[j]:=by rw[aab,aaa hj];rfl
 rw[e];show h _ _ (sJ (aK f1) (aaG hj))
def IK(fw:FW ε γ X C)(hh:Η hand=true)(fp:Ψ (cB γ hand) p):J4 (bF γ hand p) p=true:=by
 let fh:=ye fw hh (qw fw hh fp);show Lu fh fp λi v e=>?_;let(c,hc,_):=pk fh e;unfold cB at hc;let(i0,hm,e0):=aam.mp hc;let e0:(i0:Int)=i:=abq (·.1) e0;subst e0;let(ds,hi,_,_):=pN fw hh hm;let il:=(aai.mp hi).1;let(j,gj,_):=(bY (i:=i0) fw hh fp).1 ds hi;let hq:Λ (bF γ hand p) i0=((jV hand p (kindOf (.υ hand ds))).map λpl=>(Λ pl i0).getD 0):=by rw[mj,aa0 il,hi];rfl
 have:jV hand p (kindOf (.υ hand ds))=!p:=aa0 rfl;rw[hq,this]at e;let e:(!((Λ p i0).getD 0))=!v:=e;rw[gj]at e⊢;show e
def Dq(fp:Ψ (cB γ hand) p):p.map (λe=>(e.1, (0:Int)))=gS γ hand:=by have:=abq (List.map λi:Int=>(i, (0:Int))) (aI fp);rw[dc,aa4,aa4]at this;show this
def Mn:∀{bR rest:Pl} {k v:Int},oE (bR++(k, v)::rest)->dq (bR.map (λe=>(e.1, (0:Int)))++(k, v)::rest) k 0=(bR++[(k, v)]).map (λe=>(e.1, (0:Int)))++rest:=λ{bR rest k v} nd=>by
 let nd':oE (bR.map (λe=>(e.1, (0:Int)))++(k, v)::rest):=by
  unfold oE at nd⊢;rw[aa9,aa4]at *
  show nd
 let Uz:(Λ (bR.map (λe=>(e.1, (0:Int)))++(k, v)::rest) k).isSome=true:=by rw[sJ nd' (aaJ _ aah)];rfl
 unfold dq;rw[aa0 Uz,aa9,aa1,aa0 rfl,aa9,abv]
 congr 1
 .rw[aa4];show abO λe _=>?_;change(if e.1=k then (e.1, (0:Int)) else (e.1, 0))=(e.1, 0);split <;> rfl
 .change(k, (0:Int))::rest.map _=(k, (0:Int))::rest
  congr 1
  show(abO λe he=>?_).trans (List.map_id' rest);show aa3 λz=>?_;unfold oE at nd;rw[aa9,aa1]at nd;have:=(aca.mp (ac0.mp nd).2.1).1;show this (by rw[<-z];show aam.mpr (e,he,rfl))
end
set_option tactic.hygienic false
def Kh(A:Addr):DF:=λas M q _=>∃(ns:List Int) (ε:Fr) (γ:List Rw) (X C:Int) (turn:Int),as=[.i_ ns,Ξ ε,.lst (γ.map ar),ax A ε γ,.int turn]/\-ns<=63/\0<=turn/\turn<=3/\FW ε γ X C/\kN X C<=2 ^ 450/\(12 * kN X C) ^ (-γ) < 2 ^ 1030/\1<=kN X C/\(∀z,Η z=true->-(fG (cB γ z))<=1000)/\(∀k ds,Rw.υ k ds∈γ->1<=-ds/\-ds<=6)/\∀M',q (.bl true) M'
def dI:Δ ["_law_script","_law_share","_law_rows","_law_floor_here","_law_turn","_law_side","_law_whose","_law_first","_law_handed","_law_way","_law_found","_law_k"] ["_law_script","_law_share","_law_rows","_law_floor_here","_law_turn"] (τ qS):=.of rfl
def B1(F:cz K "_law_asked" "_law_asked" qS f fd)(E:Ev K mg w Cm)(cK:aq P w K mg base 1 "_law_at" ["_law_script","_law_k"] Xv nN og)(pY:aq P w K mg base 2 "_law_plan" ["_law_script","_law_rows","_law_whose","_law_at_here"] JL MN Lh)(lq:aq P w K mg base 11 "_law_mended" ["_law_floor_here","_law_whose","_law_way","_law_handed"] (Vr Cm) E8 EM)(nG:aq P w K mg base 4 "_law_right" ["_law_share","_law_rows","_law_side","_law_first","_law_found"] M8 Ip H_):ao P w K mg base (bO P w) 12 f fd ["_law_script","_law_share","_law_rows","_law_floor_here","_law_turn"] (b8 K (Kh Cm)):=by
 show F.de dI (λds M q x h=>?_) (λaQ A outer s H E' hr=>(_,(ζ (χ 5 dI.nd (bP (cw (Φ cK hr ν (Ν (jv 0) (ι ξ θ dG))) (ω (cv 3 (d:=.lst [.int 0,.int 0,.int 1,.int 0]) (by rfl)) (jv 4))) ξ))
   (ζ (χ 6 dI.nd (ω (cv 3 (d:=.lst [.str "one",.str "other"]) (by rfl)) (jv 5)))
   (ζ (χ 7 dI.nd (Φ pY hr ν (Ν (jv 0) (Ν (jv 2) (Ν (jv 6) (ι (ω (cv 3 (d:=.lst [.int 15,.int 16,.int 17,.int 15]) (by rfl)) (jv 4)) θ aw))))))
   (ζ (χ 8 dI.nd (EJ E.mX (Ν (jv 7) θ)))
   (ζ (χ 9 dI.nd (ω (kK (ι (bP (bP (az (Φ cK hr ν (Ν (jv 0) (ι ξ θ dG))) ξ) ξ) ξ) (ι ξ (ι ξ (ι ξ θ dG) dG) dG) bJ)) (jv 4)))
   (ζ (ip (χ 10 dI.nd (Φ lq hr ν (Ν (jv 3) (Ν (jv 6) (Ν (jv 9) (Ν (jv 8) θ)))))))
   (ζ (ah (JZ 1 hr (jv 8) (jv 7)) (μ (ψ wL)) Ι)
   (ζ (ip (ah (A4 (jv 9) ξ) (μ (pM (jv 8) (ai (i:=11) dI.nd rfl (Or.inl rfl)) aB (μ (o_ hr (jv 7) (jv 11) ξ)))) Ι))
   (μ (ψ (Φ nG hr ν (Ν (jv 1) (Ν (jv 2) (Ν (jv 5) (Ν (jv 7) (Ν (jv 10) θ)))))))))))))))),λds M q x h=>?_))
 .let(ns,ε,γ,X,C,turn,rfl,_):=h;rfl
 .let(ns,ε,γ,X,C,turn,rfl,nl,t0,t3,fw,kL,v7,b1,np,dr,h):=h;let lV:=fw.pl.len;let f4:∀a b c d:Dt,∃y,jT [a,b,c,d] turn=!y/\(y=a\/y=b\/y=c\/y=d):=λa b c d=>by
   have:turn=0\/turn=1\/turn=2\/turn=3:=()
   rcases this with rfl| rfl| rfl| rfl
   .show(_,aF,.inl rfl)
   .show(_,Θ (j:=1) rfl,.inr (.inl rfl))
   .show(_,Θ (j:=2) rfl,.inr (.inr (.inl rfl)))
   .show(_,Θ (j:=3) rfl,.inr (.inr (.inr rfl)))
  show(ns,14,rfl,nl,@_,@_,λn hn=>?_);obtain⟨b,eb,hb⟩:∃b:Int,jT [Dt.int 0,Dt.int 0,Dt.int 1,Dt.int 0] turn=!(.int b)/\(b=0\/b=1):=by
   let(y,e,hy):=f4 (.int 0) (.int 0) (.int 1) (.int 0);rcases hy with rfl| rfl| rfl| rfl
   .show(_,e,.inl rfl)
   .show(_,e,.inl rfl)
   .show(_,e,.inr rfl)
   .show(_,e,.inl rfl)
  obtain⟨at',ea,ha⟩:∃b:Int,jT [Dt.int 15,Dt.int 16,Dt.int 17,Dt.int 15] turn=!(.int b)/\(15<=b/\b<=17):=by let(y,e,hy):=f4 (.int 15) (.int 16) (.int 17) (.int 15);rcases hy with rfl| rfl| rfl| rfl <;> show(_,e,@_)
  walk_at "vc";show(Ε (d:=.lst [Dt.int 0,Dt.int 0,Dt.int 1,Dt.int 0]) rfl eb ?_:aW (.lst [Dt.int 0,Dt.int 0,Dt.int 1,Dt.int 0]) (.int turn) _ _);dsimp only[wm];show(@_,?_);obtain⟨hand,rival,eh,Tg⟩:∃hand rival:Str,jT [Dt.str "one",Dt.str "other"] ((n+b) % 2)=!(.str hand)/\((n+b) % 2=0/\hand="one"/\rival="other"\/(n+b) % 2=1/\hand="other"/\rival="one"):=by
   have:(n+b) % 2=0\/(n+b) % 2=1:=()
   rcases this with e| e <;> rw[e]
   .show("one","other",aF,.inl (rfl,rfl,rfl))
   .show("other","one",Θ (j:=1) rfl,.inr (rfl,rfl,rfl))
  let fF:hand="one"/\rival="other"\/hand="other"/\rival="one":=Tg.elim (λz=>.inl z.2) λz=>.inr z.2;let hs:=gO fF;generalize (n+b) % 2=side at *
  show(Ε (d:=.lst [Dt.str "one",Dt.str "other"]) rfl eh ?_:aW (.lst [Dt.str "one",Dt.str "other"]) (.int side) _ _);show(Ε (d:=.lst [Dt.int 15,Dt.int 16,Dt.int 17,Dt.int 15]) rfl ea ?_:aW (.lst [Dt.int 15,Dt.int 16,Dt.int 17,Dt.int 15]) (.int turn) _ _);show(ns,γ,hand,at',rfl,nl,(),(),lV,hs.h1,dr,λpf ok=>?_);show(-M,_,_,rfl,aA,?_);walk_at "vc";show(ns,14,rfl,nl,@_,@_,λn2 Ut=>?_);obtain⟨way,ew,w0,w3⟩:∃b:Int,jT [Dt.int (n2 * 48271 % 65521 % 4),Dt.int 0,Dt.int 1,Dt.int 0] turn=!(.int b)/\0<=b/\b<=3:=by
   let(y,e,hy):=f4 (.int (n2 * 48271 % 65521 % 4)) (.int 0) (.int 1) (.int 0);rcases hy with rfl| rfl| rfl| rfl
   .show(_,e,(),())
   .show(_,e,@_,@_)
   .show(_,e,@_,@_)
   .show(_,e,@_,@_)
  show((qf Ut,bg (k:=20) @_),@_,@_,@_,?_);show(Ε (d:=.lst [Dt.int (n2 * 48271 % 65521 % 4),Dt.int 0,Dt.int 1,Dt.int 0]) rfl ew ?_:aW (.lst [Dt.int (n2 * 48271 % 65521 % 4),Dt.int 0,Dt.int 1,Dt.int 0]) (.int turn) _ _);let l1:-(M++[dP pf])=-M+1:=by rw[aak];rfl
  let kf:(M++[dP pf]++[dP pf])[-M]? =!(dP pf):=Ω aA;let kh:(M++[dP pf]++[dP pf])[-M+1]? =!(dP pf):=by rw[<-l1];show aA
  let l2:-(M++[dP pf]++[dP pf])=-M+2:=by rw[aak,l1];rfl
  let p0e:∃p0,(way<=1->p0=bF γ hand pf)/\(1 < way->p0=gS γ hand):=by
   by_cases q:way<=1
   .show(_,λ_=>rfl,λz=>abe z ())
   .show(_,λz=>abe z q,λ_=>rfl)
  let(p0,e1,e2):=p0e;show⟨λρ M1=>∃(kp ka kt kr lo:Nat) (rs sM:List C1) (p pa:Pl) (tb:List Fr),M1[-M]? =!(dP pf)/\M1[-M+1]? =!(dP pf)/\(-M+2<=kp/\-M+2<=kt/\-M+2<=kr/\-M+2<=lo)/\M1[kp]? =!(dP p)/\M1[kt]? =!(.lst (tb.map Ξ))/\CY M1 lo kr rs/\P8 ε γ hand rival p0 rs/\rs=sM++[(p, pa,tb)]/\Β ε γ tb p=[]/\-rs<=-(fG (cB γ hand))/\ρ=[!(.i_ ns),!(Ξ ε),!(.lst (γ.map ar)),!(ax Cm ε γ),!(.int turn),!(.int side),!(.str hand),!(.loc (-M)),!(.loc (-M+1)),!(.int way),!(.tup [.loc kp,.loc ka,.loc kt,.loc kr]),none],?_,?_⟩
  .show(ε,γ,hand,rival,X,C,way,-M+1,pf,p0,by rw[<-l1],w0,w3,kh,qw fw hs.h1 ok.fit,e1,e2,fF,fw,kL,v7,b1,np _ hs.h1,λM1 kp ka kt kr lo rs sM p pa tb xt lows hp ha ht ra rd er be Qs=>?_);rw[l2]at lows;show(kp,ka,kt,kr,lo,rs,sM,p,pa,tb,xt _ _ kf,xt _ _ kh,lows,hp,ht,ra,rd,er,be,Qs,by rw[<-l1];rfl)
  rintro ρ1 M1 ⟨kp,ka,kt,kr,lo,rs,sM,p,pa,tb,mf,mh,⟨lp,lt,lr,ll⟩,hp,ht,ra,rd,er,be,Qs,rfl⟩;walk_at "vc";show(-M+1,-M,true,rfl,rfl,by have:=Mu (n:=0) mh mf;rwa[vI (aK ok.fit)]at this,nofun,λ_=>?_);show⟨λρ M2=>∃(Xx:Pl) (Rb:Option Dt),M2[-M]? =!(dP Xx)/\J4 p0 Xx=true/\Ψ (cB γ hand) Xx/\M2[kp]? =!(dP p)/\M2[kt]? =!(.lst (tb.map Ξ))/\CY M2 lo kr rs/\ρ=[!(.i_ ns),!(Ξ ε),!(.lst (γ.map ar)),!(ax Cm ε γ),!(.int turn),!(.int side),!(.str hand),!(.loc (-M)),!(.loc (-M+1)),!(.int way),!(.tup [.loc kp,.loc ka,.loc kt,.loc kr]),Rb],?_,?_⟩
  .walk_at "vc";show(λz=>?_,λz=>?_)
   .let z:1 < way:=by have:=aan z;omega
    let klf:-M < -M1:=(aai.mp mf).1;let klh:-M+1 < -M1:=(aai.mp mh).1;let nd:=aK ok.fit;dsimp only[AO];walk_at "vc";show(-M+1,kP pf,(pf.map λx:Int×Int=>x.2),rfl,by rw[<-c7];show mh,λep=>?_);change pd _ _ _ (-M+1) (si P w (kP pf) (pf.map λx:Int×Int=>x.2) ep) _ _ _ (M1.set (-M+1) (.raw (si P w (kP pf) (pf.map λx:Int×Int=>x.2) ep)));generalize si P w (kP pf) (pf.map λx:Int×Int=>x.2) ep=uu;show jO (λxs ρ' M'=>∃(bR rest:Pl) (Rb:Option Dt),pf=bR++rest/\xs=kP rest/\M'=(M1.set (-M) (dP (bR.map (λe=>(e.1, (0:Int)))++rest))).set (-M+1) (.raw uu)/\ρ'=[!(.i_ ns),!(Ξ ε),!(.lst (γ.map ar)),!(ax Cm ε γ),!(.int turn),!(.int side),!(.str hand),!(.loc (-M)),!(.loc (-M+1)),!(.int way),!(.tup [.loc kp,.loc ka,.loc kt,.loc kr]),Rb]) (λxs ρ' M' hj=>?_) (λx xs ρ' M' hj et=>?_) (λρ' M' hj=>?_) _ _ _ ([],pf,none,rfl,rfl,by rw[adw,abx,iO mf],rfl)
    .let(bR,rest,Rb,e,rfl,rfl,rfl):=hj;show abc (by rw[abW];show klh)
    .let(bR,rest,Rb,e,ex,rfl,rfl):=hj;cases rest with
     | nil=>cases ex
     | cons a rest=>
      cases ex;let(a1,v):=a;rw[e]at nd;let TJ:-pf<=12:=aaF (pj ok.fit) lV;let ll':-bR+(-rest+1)<=12:=by have:=abq List.length e;rw[aak,aaN]at this;omega
      dsimp only[u0];walk_at "vc";show(-M,_,_,Sum.inl a1,rfl,by rw[List.getElem?_set_ne (),List.getElem?_set_self klf],rfl,by unfold kP;rw[List.length_map,List.length_append,List.length_map,List.length_cons];omega,?_);rw[uk (v:=0),xk,Mn nd];show et _ _ (bR++[(a1, v)],rest,_,by rw[e,abv];rfl,rfl,?_,rfl);rw[List.set_comm _ _ (),acY]
    .let(bR,rest,Rb,e,ex,rfl,rfl):=hj;have:rest=[]:=by have:=abq List.length ex;unfold kP at this;rw[aae]at this;show ace.mp this.symm
     subst this;rw[abw]at e;subst e;let ez:=Dq ok.fit;let f0:=nO fw hs.h1;rw[<-c7,acY,abw,ez];let kh':(M1.set (-M) (dP (gS γ hand)))[-M+1]? =!(dP pf):=by rw[abi ()];show mh
     let e9:(M1.set (-M) (dP (gS γ hand))).set (-M+1) (.c_ (kP pf) (vP pf))=M1.set (-M) (dP (gS γ hand)):=iO kh';rw[e9];show(gS γ hand,_,abc klf,by rw[e2 z];show vI (aK f0),f0,by rw[abi ()];show hp,by rw[abi ()];show ht,ra.keep () (),rfl)
   .let z:¬way > 1:=aba z;show(pf,_,mf,by rw[e1 ()];show IK fw hs.h1 ok.fit,ok.fit,hp,ht,ra,rfl)
  rintro ρ2 M2 ⟨Xx,Rb,mf',ef,ff,Ap,ht',ra',rfl⟩;walk_at "vc";show(ε,γ,hand,rival,X,C,side,-M,kp,ka,kt,kr,lo,Xx,p0,p,pa,tb,rs,sM,rfl,Tg,mf',(),ef,ff,Ap,ht',ra',rd,er,be,Qs,np _ hs.h1,fw,b1,λE=>h _)
def uj{te:DE}{cs:En}:∀(xs Μ:List Dt) (M:Ms) (k:List Dt->Ms->Prop),(∀x∈xs,∀(M:Ms) (q:DQ),(∀M',q (.bl true) M')->te ((!x)::cs) M q mD)->(∀M',k (Μ++xs.map λ_=>Dt.bl true) M')->wX te cs xs Μ M k
 | [],Μ,M,k,_,h=>by have:=h M;rw[adw,abw]at this;show this
 | x::xs,Μ,M,k,hf,h=>hf x aah M _ λM'=>uj xs _ M' k (λy hy=>hf y (aaf _ hy)) λM''=>by have:=h M'';rw[aa1]at this;rw[abv];show this
def WY{n:Int}:∃m:Int,jT [Dt.int 4,Dt.int 4,Dt.int 4,Dt.int 4,Dt.int 4,Dt.int 1,Dt.int 4,Dt.int 1] (n % 8)=!(.int m)/\1<=m/\m<=4:=by
 have:n % 8=0\/n % 8=1\/n % 8=2\/n % 8=3\/n % 8=4\/n % 8=5\/n % 8=6\/n % 8=7:=()
 rcases this with e| e| e| e| e| e| e| e <;> rw[e]
 .show(_,aF,@_,@_)
 .show(_,Θ (j:=1) rfl,@_,@_)
 .show(_,Θ (j:=2) rfl,@_,@_)
 .show(_,Θ (j:=3) rfl,@_,@_)
 .show(_,Θ (j:=4) rfl,@_,@_)
 .show(_,Θ (j:=5) rfl,@_,@_)
 .show(_,Θ (j:=6) rfl,@_,@_)
 .show(_,Θ (j:=7) rfl,@_,@_)
def w6:Δ ["_law_script","_law_share","_law_rows","_law_floor_here","_law_many"] ["_law_script"] (τ RL):=.of rfl
def S3(F:cz K "law" "law" RL f fd)(E:Ev K mg w Cm)(nJ:aq P w K mg base 5 "_law_floor" ["_law_script"] Ha Ji Jo)(lL:Sx P w K mg base 5 "Floor" Cm ["self","share","rows"] (QB Cm) Ed ER)(qV:aq P w K mg base 1 "_law_copy" ["_law_rows"] Kx Km J')(cK:aq P w K mg base 1 "_law_at" ["_law_script","_law_k"] Xv nN og)(nW:aq P w K mg base 12 "_law_asked" ["_law_script","_law_share","_law_rows","_law_floor_here","_law_turn"] (Kh Cm) HZ IJ):ao P w K mg base (bO P w) 13 f fd ["_law_script"] (b8 K RK):=by
 show F.de w6 (λds M q x h=>?_) (λaQ A outer s H E' hr=>(_,(ζ (NZ (da (Φ nJ hr ν (Ν (jv 0) θ))) (rC rfl (cP (ai (i:=1) w6.nd rfl (Or.inr rfl)) (cP (ai (i:=2) w6.nd rfl (Or.inr rfl)) mq))))
   (ζ (χ 3 w6.nd (da (Q5 lL hr ν (Ν (jv 1) (ι (Φ qV hr ν (Ν (jv 2) θ)) θ aX)))))
   (ζ (χ 4 w6.nd (ω (cv 3 (d:=.lst [.int 4,.int 4,.int 4,.int 4,.int 4,.int 1,.int 4,.int 1]) (by rfl)) (bP (Φ cK hr ν (Ν (jv 0) (ι ξ θ dG))) ξ)))
   (μ (ψ (K1 E.xn (ι (Dj (ys:=["_law_script","_law_share","_law_rows","_law_floor_here"]) (ag:=[0,1,2,3]) (.of w6 rfl rfl rfl) (bZ E.bH (Ν (jv 4) θ)) (λC s H fp=>(Φ nW hr (gF (P:=P) (w:=w)) (Ν (jv 1) (Ν (jv 2) (Ν (jv 3) (Ν (jv 4) (Ν (jv 0) θ)))))))) θ))))))),λds M q x h=>?_))
 .let(ns,rfl,_):=h;rfl
 .let(ns,rfl,nl,hq):=h;show(ns,rfl,nl,λε γ cJ lf=>nh (d':=.tup [Ξ ε,.lst (γ.map ar)]) (.tup (.cons (.old (qu ε)) (.cons (.Kt (Nat.le_refl _) (by simp) (kq.old (tS γ))) .nil))) ?_);let fw:=lf.fw;let(kL,v7):=lf.sz;let b1:1<=kN (xF cJ) (cF cJ):=by cases cJ <;> decide
  let lV:=lf.Dc;let n1:=lf.n1;let ro:∀r∈γ,gZ r/\gq r (-γ)=true:=λr hr=>(lf.row r hr).1.1;let dr:∀k ds,Rw.υ k ds∈γ->1<=-ds/\-ds<=6:=λk ds hm=>((dR fw.pl hm).l1,(dR fw.pl hm).l6);let np:∀z,Η z=true->-(fG (cB γ z))<=1000:=λz hz=>aaF (KP fw hz) (aaF lf.pr @_);show(γ,rfl,lV,λr hr=>(ro r hr).1,?_);show(-M,.lst (γ.map ar),ε,γ.map ar,γ,λ_=>True,rfl,aA,rfl,CC γ,lf.sh,n1,lV,ro,rfl,Ks ?_);show(ns,0,rfl,nl,@_,@_,λn hn=>(@_,?_));let(m,em,m1,m4):=WY (n:=n);show(Ε (d:=.lst [Dt.int 4,Dt.int 4,Dt.int 4,Dt.int 4,Dt.int 4,Dt.int 1,Dt.int 4,Dt.int 1]) rfl em ?_:aW (.lst [Dt.int 4,Dt.int 4,Dt.int 4,Dt.int 4,Dt.int 4,Dt.int 1,Dt.int 4,Dt.int 1]) (.int (n % 8)) _ _);walk_at "vc";dsimp only[GB];walk_at "vc";show(((),()),by rw[gI];show aaF (show _<=4 by omega) @_,?_);show uj _ _ _ _ (λx hx M' q' w8=>?_) (λM'=>?_)
  .unfold dJ at hx;let(i,hi,rfl):=aam.mp hx;let hi:=abG.mp hi;show(ns,ε,γ,_,_,_,rfl,nl,(),(),fw,kL,v7,b1,np,dr,w8)
  .show((dJ 0 m.toNat).map λ_=>true,by rw[abx,aa4];rfl,?_);rw[show((dJ 0 m.toNat).map λ_=>true).all id=true from ab6.mpr λb hb=>by let(_,_,rfl):=aam.mp hb;rfl];show hq _
structure FT(K:fI)(f:Addr)(x:Str)(st:Stmt):Prop where
 a:PySem.W.nsIn K mainGlobals x=!(!(.ref f))
 e:∃fd,cz K x x st f fd
structure FM(K:fI)(C f:Addr)(m x:Str)(st:Stmt):Prop where
 a:PySem.W.findIn K (.ref C) m=!(!(.ref f))
 i:PySem.W.isFn K (.ref f)=true
 e:∃fd,cz K m x st f fd
structure FV(K:fI)(f:Addr)(x:Str)(st:Stmt)(U:Addr)(its:Array Value):Prop where
 a:PySem.W.nsIn K mainGlobals x=!(!(.ref f))
 e:∃fd,B2 K x st U its f fd
set_option tactic.hygienic true
section
variable{K:fI}{C:Addr}{m x:Str}{st:Stmt}{oc:Value}{od an:Option Addr}{B4:Array (Option Value)}{kV doc pm aQ ct:Value}
def FT.of(a:PySem.W.nsIn K mainGlobals x=!(!(.ref f)))(l:K.lookup f=!(oc,od,.func (PySem.W.fnOf x x (gs st) (dY st) (τ st) .none kV doc pm an aQ ct),B4))(c:PySem.W.codeIn K aQ x=true)(k:PySem.W.keepIn K (.ref f)=true):FT K f x st:=(a,_,LV l c k)
def FM.of(a:PySem.W.findIn K (.ref C) m=!(!(.ref f)))(i:PySem.W.isFn K (.ref f)=true)(l:K.lookup f=!(oc,od,.func (PySem.W.fnOf m x (gs st) (dY st) (τ st) .none kV doc pm an aQ ct),B4))(c:PySem.W.codeIn K aQ x=true)(k:PySem.W.keepIn K (.ref f)=true):FM K C f m x st:=(a,i,_,LV l c k)
def FV.of{tc:Value}{td:Option Addr}{ts:Array (Option Value)}(a:PySem.W.nsIn K mainGlobals x=!(!(.ref f)))(l:K.lookup f=!(oc,od,.func (PySem.W.fnOf x x (gs st) (dY st) (τ st) (.ref U) kV doc pm an aQ ct),B4))(c:PySem.W.codeIn K aQ x=true)(k:PySem.W.keepIn K (.ref f)=true)(t:K.lookup U=!(tc,td,.seq its tn,ts)):FV K f x st U its:=(a,_,(_,_,_,_,_,_,_,_,_,rfl,l,c),(_,_,t,rfl),k)
end
section
variable{P:List Value->Prop}
def Xy(h:P []):∀us:List Value,-us=0->P us
 | [],_=>h
 | _::_,e=>nomatch e
def eV(h:∀a0:Value,P [a0]):∀us:List Value,-us=1->P us
 | [],e=>nomatch e
 | a::us,e=>Xy (P:=λus=>P (a::us)) (h a) us (Nat.succ.inj e)
def bX(h:∀a0 a1:Value,P [a0,a1]):∀us:List Value,-us=2->P us
 | [],e=>nomatch e
 | a::us,e=>eV (P:=λus=>P (a::us)) (h a) us (Nat.succ.inj e)
def fA(h:∀a0 a1 a2:Value,P [a0,a1,a2]):∀us:List Value,-us=3->P us
 | [],e=>nomatch e
 | a::us,e=>bX (P:=λus=>P (a::us)) (h a) us (Nat.succ.inj e)
def pQ(h:∀a0 a1 a2 a3:Value,P [a0,a1,a2,a3]):∀us:List Value,-us=4->P us
 | [],e=>nomatch e
 | a::us,e=>fA (P:=λus=>P (a::us)) (h a) us (Nat.succ.inj e)
def Gy(h:∀a0 a1 a2 a3 a4:Value,P [a0,a1,a2,a3,a4]):∀us:List Value,-us=5->P us
 | [],e=>nomatch e
 | a::us,e=>pQ (P:=λus=>P (a::us)) (h a) us (Nat.succ.inj e)
end
def zv{K:fI}(h:PySem.W.subIn K (.type "int") (.type "bool")=!false):PySem.W.kitOne K (.type "int") (.type "bool")=!false:=by unfold PySem.W.kitOne PySem.W.kitCls;rw[aa3 (by decide+kernel)];change(if PySem.W.kitMeta "bool"=true then _ else _)=_;rw[aa0 (by decide+kernel)];show h
def Bk{K:fI}(h:PySem.W.subIn K (.type "int") (.type "str")=!false):PySem.W.kitOne K (.type "int") (.type "str")=!false:=by unfold PySem.W.kitOne PySem.W.kitCls;rw[aa3 (by decide+kernel)];change(if PySem.W.kitMeta "str"=true then _ else _)=_;rw[aa0 (by decide+kernel)];show h
def wb{K:fI}(h:PySem.W.subIn K (.type "tuple") (.type "str")=!false):PySem.W.kitOne K (.type "tuple") (.type "str")=!false:=by unfold PySem.W.kitOne PySem.W.kitCls;rw[aa3 (by decide+kernel)];change(if PySem.W.kitMeta "str"=true then _ else _)=_;rw[aa0 (by decide+kernel)];show h
def wx{K:fI}(h:PySem.W.subIn K (.type "tuple") (.type "int")=!false):PySem.W.kitOne K (.type "tuple") (.type "int")=!false:=by unfold PySem.W.kitOne PySem.W.kitCls;rw[aa3 (by decide+kernel)];change(if PySem.W.kitMeta "int"=true then _ else _)=_;rw[aa0 (by decide+kernel)];show h
def y6{K:fI}(h:PySem.W.subIn K (.type "list") (.type "str")=!false):PySem.W.kitOne K (.type "list") (.type "str")=!false:=by unfold PySem.W.kitOne PySem.W.kitCls;rw[aa3 (by decide+kernel)];change(if PySem.W.kitMeta "str"=true then _ else _)=_;rw[aa0 (by decide+kernel)];show h
def zB{K:fI}(h:PySem.W.subIn K (.type "list") (.type "int")=!false):PySem.W.kitOne K (.type "list") (.type "int")=!false:=by unfold PySem.W.kitOne PySem.W.kitCls;rw[aa3 (by decide+kernel)];change(if PySem.W.kitMeta "int"=true then _ else _)=_;rw[aa0 (by decide+kernel)];show h
def u_{K:fI}(h:PySem.W.subIn K (.type "tuple") (.type "list")=!false):PySem.W.kitOne K (.type "tuple") (.type "list")=!false:=by unfold PySem.W.kitOne PySem.W.kitCls;rw[aa3 (by decide+kernel)];change(if PySem.W.kitMeta "list"=true then _ else _)=_;rw[aa0 (by decide+kernel)];show h
def vN{K:fI}(h:PySem.W.subIn K (.type "list") (.type "tuple")=!false):PySem.W.kitOne K (.type "list") (.type "tuple")=!false:=by unfold PySem.W.kitOne PySem.W.kitCls;rw[aa3 (by decide+kernel)];change(if PySem.W.kitMeta "tuple"=true then _ else _)=_;rw[aa0 (by decide+kernel)];show h
def RR{K:fI}{a:Addr}(h1:PySem.W.nsIn K a "one"=!(!(.str "other" t1)))(h2:PySem.W.nsIn K a "other"=!(!(.str "one" t2)))(h3:PySem.W.nsIn K a "chance"=!(!(.str "chance" t3)))(h:([("one", "other"),("other", "one"),("chance", "chance")]:List (Str×Str)).lookup z=!y):∃tk,PySem.W.nsIn K a z=!(!(.str y tk)):=by
 rw[acg]at h;split at h
 .rename_i e;cases acH.mp e;cases h;show(_,h1)
 rw[acg]at h;split at h
 .rename_i e;cases acH.mp e;cases h;show(_,h2)
 rw[acg]at h;split at h
 .rename_i e;cases acH.mp e;cases h;show(_,h3)
 cases h
open PySem.W in
def all_mk{l:OpenLaw}{w:World}{K:Frag}{h:Heap}{fa Cm Fx UN f1 f2 f3 f4 f5 f6 f7 f8 f9 f10 f11 f12 f13 f14 f15 f16 f17 f18 f19 f20 f21 f22 f23 f24 f25 f26 f27 f28 f29 f30 f31 f32 f33 f34 f35 f36 f37 f38 f39 f40 f41 f42 f43 f44 f45 f46 f47 f48 f49 f50 f51 f52 f53 f54 f55 f56 f57 f58 f59 f60 f61 f62 f63 f64 f65 f66 f67 f68 f69 f70 f71 f72 f73:Addr}(X:K.In h)(G:h.Ns mainGlobals mg)(hfa:mg "law"=!(.ref fa))
  {zc wz wq mz:Tok}
  (y_:nsIn K mainGlobals "MOST_DOORS"=!(!(.int (6) zc)))
  (wM:nsIn K mainGlobals "MOST_BOTTOM"=!(!(.int (1000000) wz)))
  (wa:nsIn K mainGlobals "MOST_PLACES"=!(!(.int (12) wq)))
  (mC:nsIn K mainGlobals "MOST_SHARE_BOTTOM"=!(!(.int (1000) mz)))
  (Po:nsIn K mainGlobals "Floor"=!(!(.ref Cm))) (gE:plainGet K Cm Str.empty=true) (gD:hasDictIn K Cm=true) (gh:plainOver K Cm=true) (gu:findIn K (.ref Cm) "__setattr__"=!(!(.builtin "object.__setattr__"))) (Pa:makesIn K Cm=true) (PL:keepIn K (.ref Cm)=true)
  (yU:findIn K (.ref Cm) "kept_rows"=!none)
  (wO:findIn K (.ref Cm) "kept_share"=!none)
  {Kc LR:Tok} {Li:Option Addr} {LY:Array (Option Value)} {J9:Nat} (LI:nsIn K mainGlobals "HANDS"=!(!(.ref Fx))) (Kw:K.lookup Fx=!(.type "tuple",Li,.seq #[(.str "one" Kc),(.str "other" LR)] J9,LY))
  (Cd:subIn K (.type "int") (.type "bool")=!false)
  (D_:subIn K (.type "int") (.type "str")=!false)
  (Am:subIn K (.type "tuple") (.type "str")=!false)
  (zm:subIn K (.type "tuple") (.type "int")=!false)
  (AW:subIn K (.type "list") (.type "str")=!false)
  (AU:subIn K (.type "list") (.type "int")=!false)
  (wB:subIn K (.type "tuple") (.type "list")=!false)
  (wK:subIn K (.type "list") (.type "tuple")=!false)
  (t1:FT K f1 "_law_at" EB)
  (t2:FT K f2 "_law_by_digits" jW)
  (t3:FT K f3 "_law_lowest" m8)
  (t4:FT K f4 "_law_share_of" lE)
  (t5:FT K f5 "_law_pay" y8)
  (t6:FT K f6 "_law_stream" oy)
  (t7:FT K f7 "_law_things" nB)
  (t8:FT K f8 "_law_doors" qG)
  (t9:FT K f9 "_law_floor" qU)
  (t10:FT K f10 "fits_share" oi)
  (t11:FT K f11 "fits_pay" ve)
  (t12:FT K f12 "fits_door" rq)
  (t13:FT K f13 "fits_doors" mU)
  (t14:FT K f14 "common_divisor" iN)
  (t15:FT K f15 "common_bottom" jq)
  (t16:FT K f16 "fits_chances" j6)
  (t17:FT K f17 "fits_row" uV)
  (t18:FT K f18 "copied_row" ot)
  (t19:FM K Cm f19 "__init__" "Floor.__init__" nV)
  (t20:FT K f20 "_law_copy" tU)
  (t21:FT K f21 "_law_plan" vC)
  (t22:FM K Cm f22 "size" "Floor.size" m_)
  (t23:FM K Cm f23 "kind" "Floor.kind" nM)
  (t24:FT K f24 "places_of" qh)
  (t25:FT K f25 "first_plan" oz)
  (t26:FM K Cm f26 "doors" "Floor.doors" lP)
  (t27:FT K f27 "has_door" vT)
  (t28:FT K f28 "doors_of" tN)
  (t29:FT K f29 "started" uQ)
  (t30:FT K f30 "with_weights" kC)
  (t31:FT K f31 "number_of_head" ji)
  (t32:FT K f32 "moved_ahead" k7)
  (t33:FT K f33 "cleared_line" j4)
  (t34:FT K f34 "cleared" vF)
  (t35:FT K f35 "fraction" qH)
  (t36:FT K f36 "quotients" nE)
  (t37:FT K f37 "answer_of" p7)
  (t38:FT K f38 "minus" Ft)
  (t39:FT K f39 "times" Fl)
  (t40:FT K f40 "whole_row" rH)
  (t41:FT K f41 "led_row" yE)
  (t42:FM K Cm f42 "pay" "Floor.pay" qg)
  (t43:FM K Cm f43 "share" "Floor.share" lC)
  (t44:FT K f44 "ways_from" qC)
  (t45:FT K f45 "plus" Kn)
  (t46:FT K f46 "weighed" uZ)
  (t47:FT K f47 "row_of" DV)
  (t48:FT K f48 "worths_by" rG)
  (t49:FT K f49 "worths_against" ig)
  (t50:FM K Cm f50 "shown" "Floor.shown" kU)
  (t51:FM K Cm f51 "all_shown" "Floor.all_shown" iF)
  (t52:FT K f52 "under" Fg)
  (t53:FT K f53 "greatest" rF)
  (t54:FT K f54 "least" Di)
  (t55:FM K Cm f55 "look" "Floor.look" nK)
  (t56:FM K Cm f56 "best" "Floor.best" nQ)
  (t57:FT K f57 "better_doors" j9)
  (t58:FT K f58 "against" ug)
  {U59:Addr} {Ez:Tok} (t59:FV K f59 "mended" yw U59 #[.str "one" Ez,.none])
  (t60:FT K f60 "_law_mended" nj)
  (t61:FT K f61 "_law_whole" qR)
  (t62:FT K f62 "_law_table" qx)
  (t63:FT K f63 "_law_plan_told" jZ)
  (t64:FT K f64 "_law_rounds_told" iJ)
  (t65:FT K f65 "_law_shown" qJ)
  (t66:FT K f66 "_law_gap" Aq)
  (t67:FT K f67 "_law_rises" qT)
  (t68:FT K f68 "_law_less" vg)
  (t69:FT K f69 "_law_due" AB)
  (t70:FT K f70 "_law_shut" vw)
  (t71:FT K f71 "_law_right" p8)
  (t72:FT K f72 "_law_asked" qS)
  (t73:FT K f73 "law" RL)
  (UC:nsIn K mainGlobals "len"=!none)
  (Wq:nsIn K mainGlobals "abs"=!none)
  (Aa:nsIn K mainGlobals "isinstance"=!none)
  (UP:nsIn K mainGlobals "int"=!none)
  (RT:nsIn K mainGlobals "bool"=!none)
  (W3:nsIn K mainGlobals "str"=!none)
  (OW:nsIn K mainGlobals "tuple"=!none)
  (RE:nsIn K mainGlobals "list"=!none)
  (Oh:nsIn K mainGlobals "range"=!none)
  (BZ:nsIn K mainGlobals "enumerate"=!none)
  (Wv:nsIn K mainGlobals "any"=!none)
  (WK:nsIn K mainGlobals "all"=!none)
  (Ve:nsIn K mainGlobals "sum"=!none)
  (VC:nsIn K mainGlobals "zip"=!none)
  (SG:nsIn K mainGlobals "dict"=!none)
  (Xn:nsIn K mainGlobals "min"=!none)
  (Wj:nsIn K mainGlobals "max"=!none)
  {XB:Array DictEntry} {nTK:Nat} {Zw Zy aaP:Tok}
  (YQ:nsIn K mainGlobals "TURNED_KINDS"=!(!(.ref UN)))
  (abH:K.lookup UN=!(.type "dict",none,.dict XB nTK,#[]))
  (Y9:KeysLit w.params XB.toList)
  (aac:nsIn K UN "one"=!(!(.str "other" Zw)))
  (aaA:nsIn K UN "other"=!(!(.str "one" Zy)))
  (abl:nsIn K UN "chance"=!(!(.str "chance" aaP)))
  :∃fd:FuncData,(∀(s:Shared) (v:Value),BindsTo s fd ([v],[]) [("_law_script", v)])/\∀base:Heap,K.In base->base.Ns mainGlobals mg->ao l.prog w K mg base XH 13 fa fd ["_law_script"] (Cs K):=by
 let(a1,_,F1):=t1;let(a2,_,F2):=t2;let(a3,_,F3):=t3;let(a4,_,F4):=t4;let(a5,_,F5):=t5;let(a6,_,F6):=t6;let(a7,_,F7):=t7;let(a8,_,F8):=t8;let(a9,_,F9):=t9;let(a10,_,F10):=t10;let(a11,_,F11):=t11;let(a12,_,F12):=t12;let(a13,_,YX):=t13;let(a14,_,YK):=t14;let(a15,_,F15):=t15;let(a16,_,F16):=t16;let(a17,_,F17):=t17;let(a18,_,F18):=t18;let(a19,i19,_,F19):=t19;let(a20,_,ZK):=t20;let(a21,_,Zs):=t21;let(a22,i22,_,YB):=t22;let(a23,i23,_,Zm):=t23;let(a24,_,F24):=t24;let(a25,_,Z'):=t25;let(a26,i26,_,F26):=t26;let(a27,_,Zc):=t27;let(a28,_,F28):=t28;let(a29,_,YT):=t29;let(a30,_,ZF):=t30;let(a31,_,Y_):=t31;let(a32,_,F32):=t32;let(a33,_,F33):=t33;let(a34,_,Z9):=t34;let(a35,_,Zd):=t35;let(a36,_,F36):=t36;let(a37,_,F37):=t37;let(a38,_,F38):=t38;let(a39,_,Y7):=t39;let(a40,_,F40):=t40;let(a41,_,F41):=t41;let(a42,i42,_,F42):=t42;let(a43,i43,_,F43):=t43;let(a44,_,F44):=t44;let(a45,_,F45):=t45;let(a46,_,ZJ):=t46;let(a47,_,F47):=t47;let(a48,_,F48):=t48;let(a49,_,YV):=t49;let(a50,i50,_,F50):=t50;let(a51,i51,_,F51):=t51;let(a52,_,F52):=t52;let(a53,_,Zh):=t53;let(a54,_,Z0):=t54;let(a55,i55,_,Zr):=t55;let(a56,i56,_,F56):=t56;let(a57,_,F57):=t57;let(a58,_,F58):=t58;let(T_,_,Ht):=t59;let(a60,_,Z4):=t60;let(a61,_,F61):=t61;let(a62,_,Y5):=t62;let(a63,_,Yv):=t63;let(a64,_,Zt):=t64;let(a65,_,F65):=t65;let(a66,_,F66):=t66;let(a67,_,F67):=t67;let(a68,_,Zj):=t68;let(a69,_,Yw):=t69;let(a70,_,Y6):=t70;let(a71,_,F71):=t71;let(a72,_,Z5):=t72;let(a73,dL,F73):=t73;let e:=hfa.symm.trans (mg_of X G a73);cases e;let Az:=mg_of X G y_;let wR:=mg_of X G wM;let wN:=mg_of X G wa;let my:=mg_of X G mC;let bb:=mg_none_of X G UC;let tY:=mg_none_of X G Wq;let bf:=mg_none_of X G Aa;let vJ:=mg_none_of X G UP;let zS:=mg_none_of X G RT;let MA:=mg_none_of X G W3;let lW:=mg_none_of X G OW;let kg:=mg_none_of X G RE;let bH:=mg_none_of X G Oh;let e7:=mg_none_of X G BZ;let FI:=mg_none_of X G Wv;let xn:=mg_none_of X G WK;let BK:=mg_none_of X G Ve;let xJ:=mg_none_of X G VC;let mX:=mg_none_of X G SG;let GK:=mg_none_of X G Xn;let Mb:=mg_none_of X G Wj;let E:Ev K mg w Cm:={bb:=bb,tY:=tY,bf:=bf,vJ:=vJ,zS:=zS,MA:=MA,lW:=lW,kg:=kg,bH:=bH,e7:=e7,FI:=FI,xn:=xn,BK:=BK,xJ:=xJ,mX:=mX,GK:=GK,Mb:=Mb,ib:=zv Cd,kis:=Bk D_,kts:=wb Am,kti:=wx zm,kls:=y6 AW,kli:=zB AU,ktl:=u_ wB,klt:=vN wK,eB:=(gE,gD,gh,gu),cI:=yU,gC:=wO,zK:=(_,_,_,_,mg_of X G LI,Kw,rfl,rfl,k3,.cons (_,rfl) (.cons (_,rfl) .nil)),mI:=(_,_,_,mg_of X G YQ,abH,Y9,λz y h=>RR aac aaA abl h),rS:=(_,Az),jX:=(_,wR),oH:=(_,wN),iL:=(_,my)};show(dL,λs v=>by let(_,_,_,_,_,_,_,_,_,rfl,_):=F73.ex;show .of_eq rfl,λbase _ _=>?_);let mc:=@aq.mk l.prog w K mg base;let cK:=(Kk F1 E)&&&(F1, a1,bX λ_ _=>rfl);let aE:=(tW F2 E)&&&(F2, a2,eV λ_=>rfl);let aY:=(yv F3 E)&&&(F3, a3,bX λ_ _=>rfl);let kB:=(wc F4 E aE aY)&&&(F4, a4,bX λ_ _=>rfl);let jF:=(HK F5 E aY)&&&(F5, a5,bX λ_ _=>rfl);let eZ:=(yG F6 E)&&&(F6, a6,bX λ_ _=>rfl);let iR:=(yR F7 E aE eZ)&&&(F7, a7,pQ λ_ _ _ _=>rfl);let nL:=(BB F8 E jF aY)&&&(F8, a8,pQ λ_ _ _ _=>rfl);let nJ:=(CS F9 E cK aE kB jF iR nL)&&&(F9, a9,eV λ_=>rfl);let lM:=(yV F10 E)&&&(F10, a10,eV λ_=>rfl);let hX:=(Df F11 E)&&&(F11, a11,eV λ_=>rfl);let mS:=(A6 F12 E hX)&&&(F12, a12,bX λ_ _=>rfl);let iS:=(zg YX E mS)&&&(YX, a13,bX λ_ _=>rfl);let bV:=(qX YK E)&&&(YK, a14,bX λ_ _=>rfl);let cy:=(sA F15 E bV)&&&(F15, a15,eV λ_=>rfl);let i6:=(uw F16 E cy)&&&(F16, a16,eV λ_=>rfl);let rJ:=(DM F17 E hX iS i6)&&&(F17, a17,bX λ_ _=>rfl);let k9:=(Au F18 E)&&&(F18, a18,eV λ_=>rfl);let lL:Sx l.prog w K mg base _ "Floor" Cm _ _ _ _:=(Ad F19 E lM rJ k9,(F19.binds λ_ _ _ _ _ _=>fA λ_ _ _=>rfl),(Pa,a19,i19,PL),mg_of X G Po);let qV:=(E3 ZK E)&&&(ZK, a20,eV λ_=>rfl);let pY:=(Dv Zs E cK aE eZ)&&&(Zs, a21,pQ λ_ _ _ _=>rfl);let bq:dD l.prog w K mg base _ Cm "size" _ _ _ _:=(yT YB E)|||(YB, a22,i22,eV λ_=>rfl);let Υ:dD l.prog w K mg base _ Cm "kind" _ _ _ _:=(Al Zm E)|||(Zm, a23,i23,bX λ_ _=>rfl);let ni:=(Bu F24 E bq Υ)&&&(F24, a24,bX λ_ _=>rfl);let fc:=(zO Z' E ni)&&&(Z', a25,bX λ_ _=>rfl);let aP:dD l.prog w K mg base _ Cm "doors" _ _ _ _:=(wd F26 E Υ)|||(F26, a26,i26,bX λ_ _=>rfl);let rD:=(Es Zc E aP)&&&(Zc, a27,fA λ_ _ _=>rfl);let h8:=(DG F28 E bq Υ rD)&&&(F28, a28,bX λ_ _=>rfl);let qY:=(Ei YT E fc h8)&&&(YT, a29,fA λ_ _ _=>rfl);let jk:=(uG ZF E)&&&(ZF, a30,eV λ_=>rfl);let iq:=(sE Y_ E)&&&(Y_, a31,fA λ_ _ _=>rfl);let j7:=(wu F32 E)&&&(F32, a32,fA λ_ _ _=>rfl);let gy:=(vo F33 E)&&&(F33, a33,pQ λ_ _ _ _=>rfl);let qA:=(E_ Z9 E jk iq j7 gy)&&&(Z9, a34,bX λ_ _=>rfl);let bB:=(Bc Zd E bV)&&&(Zd, a35,bX λ_ _=>rfl);let lj:=(yP F36 E bB)&&&(F36, a36,pQ λ_ _ _ _=>rfl);let oq:=(Cf F37 E qA lj)&&&(F37, a37,eV λ_=>rfl);let Ah:=(Lm F38 E bB)&&&(F38, a38,bX λ_ _=>rfl);let hG:=(Lg Y7 E bB)&&&(Y7, a39,bX λ_ _=>rfl);let ny:=(BN F40 E cy)&&&(F40, a40,eV λ_=>rfl);let pF:=(HJ F41 E bq Ah hG ny)&&&(F41, a41,Gy λ_ _ _ _ _=>rfl);let fR:dD l.prog w K mg base _ Cm "pay" _ _ _ _:=(BS F42 E Υ)|||(F42, a42,i42,bX λ_ _=>rfl);let hJ:dD l.prog w K mg base _ Cm "share" _ _ _ _:=(wF F43 E)|||(F43, a43,i43,eV λ_=>rfl);let n6:=(A2 F44 E aP Υ)&&&(F44, a44,fA λ_ _ _=>rfl);let p_:=(Oy F45 E bB)&&&(F45, a45,bX λ_ _=>rfl);let hZ:=(D0 ZJ E p_ hG)&&&(ZJ, a46,bX λ_ _=>rfl);let zA:=(Lk F47 E Υ pF fR hJ n6 hZ)&&&(F47, a47,fA λ_ _ _=>rfl);let nv:=(BA F48 E oq bq zA)&&&(F48, a48,bX λ_ _=>rfl);let eG:=(qZ YV E nv)&&&(YV, a49,fA λ_ _ _=>rfl);let j3:dD l.prog w K mg base _ Cm "shown" _ _ _ _:=(wk F50 E p_ hG)|||(F50, a50,i50,pQ λ_ _ _ _=>rfl);let br:dD l.prog w K mg base _ Cm "all_shown" _ _ _ _:=(qD F51 E aP j3)|||(F51, a51,i51,fA λ_ _ _=>rfl);let l_:=(Ky F52 E)&&&(F52, a52,bX λ_ _=>rfl);let mR:=(A_ Zh E l_)&&&(Zh, a53,eV λ_=>rfl);let Ax:=(Kp Z0 E l_)&&&(Z0, a54,eV λ_=>rfl);let k_:dD l.prog w K mg base _ Cm "look" _ _ _ _:=(ze Zr E Υ fR hZ br aP mR Ax)|||(Zr, a55,i55,fA λ_ _ _=>rfl);let lJ:dD l.prog w K mg base _ Cm "best" _ _ _ _:=(zW F56 E Υ k_ br)|||(F56, a56,i56,fA λ_ _ _=>rfl);let cc:=(uN F57 E lJ)&&&(F57, a57,fA λ_ _ _=>rfl);let qW:=(D5 F58 E h8 fc eG cc)&&&(F58, a58,fA λ_ _ _=>rfl);let jA:=Ho Ht E (P:=l.prog) (base:=base) qY qW cc
 let je:D7 l.prog w K mg base _ "mended" _ _ 1 "hand" [] [Dt.bc] _ _:=(jA,([],[V.bc],[],[Value.none],Ht.Dh @_ .nil (.cons rfl .nil) (λ_ _ _ _ _ _ us w hl=>by
  obtain⟨a0,rfl⟩:∃a0,us=[a0]:=eV (P:=λus=>∃a0,us=[a0]) (λa0=>(a0,rfl)) us (by simpa using hl)
  show(_,rfl,rfl)),λ_ _=>(rfl,(_,_,rfl,rfl,rfl))),mg_of X G T_,Ht.kp)
 let ie:D7 l.prog w K mg base _ "mended" _ _ 1 "start" [Dt.str "one"] [] _ _:=(jA,([V.str "one"],[],[Value.str "one" Ez],[],Ht.Dh @_ (.cons (_,rfl) .nil) .nil (λ_ _ _ _ _ _ us w hl=>by
  obtain⟨a0,rfl⟩:∃a0,us=[a0]:=eV (P:=λus=>∃a0,us=[a0]) (λa0=>(a0,rfl)) us (by simpa using hl)
  show(_,rfl,rfl)),λ_ _=>((_,_,rfl,rfl,rfl),rfl)),mg_of X G T_,Ht.kp)
 let iE:D7 l.prog w K mg base _ "mended" _ _ 2 "start" [] [] _ _:=(jA,([],[],[],[],Ht.Dh @_ .nil .nil (λ_ _ _ _ _ _ us w hl=>by
  obtain⟨a0,a1,rfl⟩:∃a0 a1,us=[a0,a1]:=bX (P:=λus=>∃a0 a1,us=[a0,a1]) (λa0 a1=>(a0,a1,rfl)) us (by simpa using hl)
  show(_,rfl,rfl)),λ_ _=>(rfl,rfl)),mg_of X G T_,Ht.kp)
 let rB:ET l.prog w K mg base _ "mended" _ _ [Dt.str "one",Dt.bc] _ _:=(jA,([V.str "one",V.bc],[Value.str "one" Ez,Value.none],Ht.binds (λ_ _ _ _ _ _ us hl=>by
  obtain⟨a0,rfl⟩:∃a0,us=[a0]:=eV (P:=λus=>∃a0,us=[a0]) (λa0=>(a0,rfl)) us (by simpa using hl)
  show(_,rfl,rfl)),(.cons (_,rfl) (.cons rfl .nil)),λ_ _=>(_,_,rfl,rfl,(_,_,rfl,rfl,rfl))),mg_of X G T_,Ht.kp)
 let qz:ET l.prog w K mg base _ "mended" _ _ [Dt.bc] _ _:=(jA,([V.bc],[Value.none],Ht.binds (λ_ _ _ _ _ _ us hl=>by
  obtain⟨a0,a1,rfl⟩:∃a0 a1,us=[a0,a1]:=bX (P:=λus=>∃a0 a1,us=[a0,a1]) (λa0 a1=>(a0,a1,rfl)) us (by simpa using hl)
  show(_,rfl,rfl)),(.cons rfl .nil),λ_ _=>(_,_,rfl,rfl,rfl)),mg_of X G T_,Ht.kp)
 let qF:ET l.prog w K mg base _ "mended" _ _ [] _ _:=(jA,([],[],Ht.binds (λ_ _ _ _ _ _ us hl=>by
  obtain⟨a0,a1,a2,rfl⟩:∃a0 a1 a2,us=[a0,a1,a2]:=fA (P:=λus=>∃a0 a1 a2,us=[a0,a1,a2]) (λa0 a1 a2=>(a0,a1,a2,rfl)) us (by simpa using hl)
  show(_,rfl,rfl)),.nil,λ_ _=>rfl),mg_of X G T_,Ht.kp)
 let lq:=(As Z4 E qF ie iE rB je qz)&&&(Z4, a60,pQ λ_ _ _ _=>rfl);let dN:=(CG F61 E)&&&(F61, a61,eV λ_=>rfl);let j_:=(CU Y5 E dN aY)&&&(Y5, a62,bX λ_ _=>rfl);let gA:=(vO Yv E dN)&&&(Yv, a63,fA λ_ _ _=>rfl);let gW:=(pZ Zt E j_ gA)&&&(Zt, a64,fA λ_ _ _=>rfl);let cf:=(CP F65 E)&&&(F65, a65,fA λ_ _ _=>rfl);let h_:=(Hy F66 E)&&&(F66, a66,bX λ_ _=>rfl);let nP:=(A0 F67 E cf h_)&&&(F67, a67,Gy λ_ _ _ _ _=>rfl);let lU:=(DY Zj E)&&&(Zj, a68,bX λ_ _=>rfl);let vE:=(Jg Yw E cf lU)&&&(Yw, a69,pQ λ_ _ _ _=>rfl);let p9:=(Fi Y6 E cf h_ vE)&&&(Y6, a70,fA λ_ _ _=>rfl);let nG:=(Cz F71 E gW nP p9)&&&(F71, a71,Gy λ_ _ _ _ _=>rfl);let nW:=(B1 Z5 E cK pY lq nG)&&&(Z5, a72,Gy λ_ _ _ _ _=>rfl);show SY (S3 F73 E nJ lL qV cK nW)
def walk{l:PySem.W.OpenLaw}{q:Program}{YP:World->Heap->Prop}{d:DefRec}{K:Params->fI}(hn:l.most=!63)(VU:d.params.defaults=[])
  (hY:∀(w:World) (h:Heap),YP w h->(K w.params).In h)
  (F:∀(w:World) (mg:Str->Option Value) (fa:Addr) (h:Heap),(K w.params).In h->h.Ns mainGlobals mg->mg d.name=!(.ref fa)->
   ∃fd:FuncData,(∀(s:Shared) (u:Value),BindsTo s fd ([u],[]) [("_law_script", u)])/\∀base:Heap,(K w.params).In base->base.Ns mainGlobals mg->ao l.prog w (K w.params) mg base XH 13 fa fd ["_law_script"] (Cs (K w.params))):
  PySem.W.WalkO q loose XP YP l.row.toRowW d [] (λf vs=>PySem.call f vs):=
 L2.Av (n:=63) (k:=13) (x:="_law_script") (CX:=λ_=>XH) (sp:=λw=>Cs (K w.params)) hn @_ VU (rfl,@_,@_) hY F (λ_ _ a ns hl _ hS=>(a,ns,rfl,hS,hl,λ_=>rfl)) λ_ _ _ _ _ z=>z
end
end Pg
end
open PySem PySem.W PyProof.Rows
set_option maxRecDepth 100000 in
set_option maxHeartbeats 0 in
theorem PySem.Challenge.cw_chanceduel_k31_rounds_rise_holds : PySem.Challenge.rw_chanceduel_k31_rounds_rise.Holds := by
 w_on;o_law
 refine holds_open (q:=Hd.q) (loose:=["TURNED_KINDS","mended"]) (Xt:=Hd.Xt) (XP:=XL Hd.q [])
  (Yf:=Hd.H.obs) (Ya:=Hd.H.val) (YP:=Hd.H.says) Hd.left Hd.H.of Hd.H.keeps
  (λs e=>xl_of s (Bool.and_eq_true_iff.mp e).1) XL.keeps (by rfl) (by rfl) (by rfl)
  (λs e=>recFacts_of (Bool.and_eq_true_iff.mp e).2) (by rfl) (by assumption) (by decide+kernel)
  ⟨rfl,rfl,rfl,rfl,rfl,by decide+kernel⟩ ?hw ?hc
 (case hw=>w_witness2)
 refine Pg.walk (l:=PySem.Challenge.rw_chanceduel_k31_rounds_rise) rfl rfl (fun w h Y=>PySem.W.kIn_of Y) ?F
 case F=>
  k_fill
  intro w mg fa h KX G NW
  refine' Pg.all_mk KX G NW ?_ ?_ ?_ ?_ ?_ ?_ ?_ ?_ ?_ ?_ ?_ ?_ ?_ ?_ ?_ ?_ ?_ ?_ ?_ ?_ ?_ ?_ ?_ ?_ ?_ ?_ ?_ ?_ ?_ ?_ ?_ ?_ ?_ ?_ ?_ ?_ ?_ ?_ ?_ ?_ ?_ ?_ ?_ ?_ ?_ ?_ ?_ ?_ ?_ ?_ ?_ ?_ ?_ ?_ ?_ ?_ ?_ ?_ ?_ ?_ ?_ ?_ ?_ ?_ ?_ ?_ ?_ ?_ ?_ ?_ ?_ ?_ ?_ ?_ ?_ ?_ ?_ ?_ ?_ ?_ ?_ ?_ ?_ ?_ ?_ ?_ ?_ ?_ ?_ ?_ ?_ ?_ ?_ ?_ ?_ ?_ ?_ ?_ ?_ ?_ ?_ ?_ ?_ ?_ ?_ ?_ ?_ ?_ ?_ ?_ ?_ ?_ ?_ ?_ ?_ ?_ ?_ ?_ ?_
  all_goals try first| (refine' Pg.FT.of ?_ ?_ ?_ ?_ <;> try k_is)| (refine' Pg.FM.of ?_ ?_ ?_ ?_ ?_ <;> try k_is)| (refine' Pg.FV.of ?_ ?_ ?_ ?_ ?_ <;> try k_is)| k_is| k_exc| kernel_rfl
  all_goals try exact⟨⟨_,_,rfl,rfl⟩,⟨_,_,rfl,rfl⟩,⟨_,_,rfl,rfl⟩,trivial⟩
