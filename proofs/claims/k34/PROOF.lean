import PyProof.Rows.All
import Wide.All
import OpenK.AllK
import Wide.FinOn
import Lean
import PyProof.EqAt
import PyProof.EqKinds
import PyProof.TupleCall
import PyProof.NeKinds
import PyProof.ZipIter
import PyProof.DictUpdate
import PyProof.FactsAll.dict_1
import PyProof.DictIter
import PyProof.DictWalks
import PySem.Challenge.RW_chanceduel_k34_worths_turned
set_option Elab.async false
set_option linter.all false
set_option maxRecDepth 100000
set_option maxHeartbeats 4000000
def aaa:=@List.getElem?_eq_getElem
def aab:=@List.getD_eq_getElem?_getD
def aac:=@List.length_map
def aad:=@List.mem_cons_of_mem
def aae:=@List.mem_cons_self
def aaf:=@List.getElem?_eq_some_iff
def aag:=@List.mem_map
def aah:=@List.length_append
def aai:=@Nat.le_refl
def aaj:=@Int.le_of_lt
def aal:=@List.getElem?_map
def aam:=@List.mem_of_getElem?
def aan:=@List.getElem?_append_right
def aao:=@Bool.and_eq_true
def aap:=@Nat.le_trans
def aaq:=@List.getElem?_append_left
def aar:=@Int.mul_le_mul_of_nonneg_left
def aas:=@List.size_toArray
def aat:=@Nat.lt_of_lt_of_le
def aau:=@List.map_map
def aav:=@Option.some.inj
def aaw:=@Bool.false_ne_true
def aax:=@List.length_cons
def aay:=@List.getElem_mem
def aaz:=@List.mem_append_right
def aaA:=@List.map_cons
def aaB:=@Int.lt_of_le_of_lt
def aaC:=@List.mem_cons
def aaD:=@Int.mul_le_mul_of_nonneg_right
def aaE:=@Int.mul_pos
def aaF:=@List.nil_append
def aaG:=@Rat.intCast_mul
def aaH:=@List.getElem?_range
def aaI:=@Nat.ne_of_lt
def aaJ:=@List.append_assoc
def aaK:=@Int.eq_of_mul_eq_mul_left
def aaL:=@Rat.mul_le_mul_of_nonneg_left
def aaM:=@Nat.lt_of_le_of_lt
def aaN:=@List.length_range
def aaO:=@List.map_congr_left
def aaP:=@List.mem_append
def aaQ:=@Int.emod_lt_of_pos
def aaS:=@List.length_replicate
def aaT:=@List.mem_range
def aaU:=@Int.mul_comm
def aaV:=@Int.emod_nonneg
def aaW:=@List.foldl_cons
def aaX:=@List.map_append
def aaY:=@Rat.intCast_le_intCast
def aaZ:=@List.append_nil
def aa0:=@List.getElem_of_mem
def aa1:=@Int.mul_nonneg
def aa2:=@Int.natAbs_mul
def aa3:=@List.getElem?_set_self
def aa4:=@List.length_set
def aa5:=@List.replicate_succ
def aa6:=@List.ext_getElem
def aa7:=@List.exists_cons_of_ne_nil
def aa8:=@Int.natAbs_of_nonneg
def aa9:=@Int.ne_of_gt
def aba:=@List.mem_singleton
def abb:=@List.drop_eq_getElem_cons
def abc:=@Nat.lt_succ_self
def abd:=@List.lookup_cons
def abe:=@Int.mul_ediv_cancel_left
def abf:=@List.of_mem_zip
def abg:=@Nat.add_sub_cancel_left
def abh:=@List.zip_cons_cons
def abi:=@List.length_zip
def abj:=@List.length_drop
def abl:=@List.all_eq_true
def abm:=@Int.le_trans
def abn:=@Int.fdiv_eq_ediv_of_nonneg
def abo:=@Rat.intCast_lt_intCast
def abp:=@List.flatten_cons
def abq:=@Nat.lt_irrefl
def abr:=@Int.mul_le_mul
def abt:=@Rat.mul_le_mul_of_nonneg_right
def abu:=@Option.isSome_iff_exists
def abv:=@Nat.le_add_right
def abw:=@List.getElem?_set_ne
def abx:=@Int.toNat_natCast
def aby:=@List.nodup_cons
def abz:=@Nat.not_lt_zero
def abA:=@List.range_succ_eq_map
def abB:=@List.take_of_length_le
def abC:=@Int.fmod_eq_emod_of_nonneg
def abD:=@Int.pow_succ
def abE:=@Int.ofNat_lt
def abF:=@Int.pow_nonneg
def abG:=@Int.mul_neg_of_pos_of_neg
def abH:=@List.set_append_left
def abI:=@Nat.lt_succ_of_lt
def abK:=@List.getElem?_replicate
def abL:=@List.all_cons
def abM:=@List.any_cons
def abN:=@List.length_take
def abO:=@List.drop_eq_nil_of_le
def abP:=@Nat.zero_le
def abQ:=@List.getElem?_eq_none
def abR:=@List.set_append_right
def abS:=@Int.le_of_dvd
def abT:=@Array.getElem?_eq_some_iff
def abU:=@Nat.pow_le_pow_right
def abV:=@PySem.F.slot_dict_getitem
def abW:=@Int.le_of_mul_le_mul_left
def abX:=@Int.ediv_le_self
def abY:=@List.filterMap_cons
def abZ:=@Int.toNat_of_nonneg
def ab0:=@List.getElem?_take_of_lt
def ab1:=@List.mem_of_mem_eraseIdx
def ab2:=@Int.lt_or_le
def ab3:=@Int.lt_trans
def ab4:=@List.mem_filterMap
def ab5:=@Nat.min_eq_left
def ab6:=@List.length_nil
def ab7:=@Int.mul_assoc
def ab8:=@List.map_take
def ab9:=@List.map_drop
def aca:=@Bool.or_eq_true
def acb:=@List.nodup_append
def acd:=@List.ext_getElem?
def ace:=@List.drop_zero
def acf:=@Nat.ne_of_gt
def acg:=@Nat.sub_self
def ach:=@Int.dvd_zero
namespace Hd
open PySem PySem.W PyProof.Rows
def at_(i:Nat):Stmt:=PySem.Challenge.pw_chanceduel_k34_worths_turned.main.body.getD i (.Pass ⟨0,0,0,0⟩)
def JU:Stmt->Nat->Stmt
  | .ClassDef _ _ _ b _ _ _ _ _ _ _,j=>b.getD j (.Pass ⟨0,0,0,0⟩)
  | s,_=>s
def dA:Stmt->Arguments
  | .FunctionDef _ a _ _ _ _ _ _ _ _=>a
  | _=>⟨[],[],none,[],[],none,[]⟩
def dB:Stmt->List Stmt
  | .FunctionDef _ _ b _ _ _ _ _ _ _=>b
  | _=>[]
def dS:Stmt->Scope
  | .FunctionDef _ _ _ _ _ _ c _ _ _=>c
  | _=>{kind:= .function,names:=[],isGenerator:=false,isCoroutine:=false}
abbrev row:=PySem.Challenge.rw_chanceduel_k34_worths_turned.row
abbrev en(P:Params)(x:Str)(t:Tok)(v:Value):DictEntry:=⟨PyData.keyHash P x, .str x t,v⟩
def q:Program:={PySem.Challenge.pw_chanceduel_k34_worths_turned with main:={PySem.Challenge.pw_chanceduel_k34_worths_turned.main with body:=[at_ 1,at_ 2,at_ 3,at_ 4,at_ 5,at_ 6,at_ 7,at_ 9,at_ 10,at_ 11,at_ 12,at_ 13,at_ 14,at_ 16,at_ 17,at_ 18,at_ 19,at_ 20,at_ 21,at_ 22,at_ 23,at_ 24,at_ 25,at_ 27,at_ 28,at_ 29,at_ 30,at_ 31,at_ 32,at_ 33,at_ 34,at_ 35,at_ 36,at_ 37,at_ 39,at_ 40,at_ 41,at_ 42,at_ 43,at_ 44,at_ 45,at_ 46,at_ 48,at_ 49,at_ 50,at_ 51,at_ 52,at_ 53,at_ 54,at_ 55,at_ 56,at_ 57,at_ 59,at_ 60,at_ 62,at_ 64,at_ 66,at_ 67,at_ 68,at_ 69,at_ 70,at_ 71,at_ 72,at_ 73,at_ 74,at_ 75,at_ 76,at_ 77,at_ 78]}}
abbrev cO(x q:Str)(t l n f a m:Nat):Obj:=⟨.type "code",none, .fields #[.str x t, .str q (t+1), .str "/claim/cut.py" (t+2), .int l 0, .int n 0, .int 0 0, .int 0 0, .int f 0, .ref a, .bool true, .int 181 0, .ref (a+1), .none, .ref (a+2), .ref (a+3), .ref (a+4), .int m 0, .int l 0, .str "/claim/cut.py" (m+1)], #[]⟩
abbrev dO(x q:Str)(t l n f a m:Nat):Obj:=⟨.type "code",none, .fields #[.str x t, .str q (t+1), .str "/claim/cut.py" (t+2), .int l 0, .int n 0, .int 0 0, .int 0 0, .int f 0, .ref a, .bool true, .int 181 0, .ref (a+1), .none, .none, .none, .ref (a+2), .int m 0, .int l 0, .str "/claim/cut.py" (m+1)], #[]⟩
abbrev fO(x q:Str)(s:Stmt)(m:Value)(c:Nat):Obj:=⟨.type "function",none, .func ⟨x,q,(dA s), .stmts (dB s),(dS s),3,[], .none, .none, .none,m,none, .ref c, .none,0⟩, #[]⟩
abbrev m0:Value:= .str "chanceduel.parts" 341
abbrev m1:Value:= .str "chanceduel.places" 395
abbrev m2:Value:= .str "chanceduel.floors" 453
abbrev m3:Value:= .str "chanceduel.rows" 625
abbrev m4:Value:= .str "chanceduel.plans" 701
abbrev m5:Value:= .str "chanceduel.answers" 792
abbrev m6:Value:= .str "chanceduel.mending" 817
abbrev m7:Value:= .str "law_chanceduel_k34_worths_turned" 849
noncomputable def K:Params->Frag:=λP=>
(nat_lit 2,⟨.none,none,(.dict #[] 0), #[]⟩)::
(nat_lit 3,⟨(.type "dict"),none,(.dict #[(en P "__name__" 165 m7),(en P "__doc__" 166 .none),(en P "__package__" 167 .none),(en P "__loader__" 168 (.builtin "__main__.__loader__#opaque")),(en P "__spec__" 169 .none),(en P "__annotations__" 170 (.ref 6)),(en P "__builtins__" 171 (.ref 4)),(en P "__file__" 173 (.str "/claim/cut.py" 172)),(en P "__cached__" 174 .none),(en P "DuelError" 206 (.ref 24)),(en P "NoNumber" 222 (.ref 37)),(en P "NoFloor" 238 (.ref 49)),(en P "NoPlace" 263 (.ref 68)),(en P "NoAnswer" 288 (.ref 87)),(en P "ManyAnswers" 315 (.ref 106)),(en P "NoPlan" 340 (.ref 125)),(en P "common_divisor" 353 (.ref 134)),(en P "fraction" 362 (.ref 141)),(en P "plus" 370 (.ref 148)),(en P "minus" 378 (.ref 155)),(en P "times" 386 (.ref 162)),(en P "under" 394 (.ref 169)),(en P "HANDS" 399 (.ref 170)),(en P "MOST_DOORS" 401 (.int 6 400)),(en P "MOST_BOTTOM" 403 (.int 1000000 402)),(en P "fits_pay" 410 (.ref 177)),(en P "fits_door" 418 (.ref 184)),(en P "common_bottom" 427 (.ref 191)),(en P "fits_chances" 433 (.ref 196)),(en P "fits_doors" 439 (.ref 201)),(en P "fits_row" 445 (.ref 206)),(en P "copied_row" 452 (.ref 213)),(en P "MOST_PLACES" 456 (.int 12 455)),(en P "MOST_SHARE_BOTTOM" 458 (.int 1000 457)),(en P "TURNED_KINDS" 468 (.ref 214)),(en P "fits_share" 475 (.ref 221)),(en P "weighed" 486 (.ref 228)),(en P "greatest" 495 (.ref 235)),(en P "least" 504 (.ref 242)),(en P "Floor" 605 (.ref 319)),(en P "with_other_sign" 612 (.ref 330)),(en P "turned_row" 618 (.ref 335)),(en P "turned" 624 (.ref 340)),(en P "with_weights" 637 (.ref 347)),(en P "number_of_head" 647 (.ref 354)),(en P "moved_ahead" 656 (.ref 361)),(en P "cleared_line" 662 (.ref 366)),(en P "cleared" 668 (.ref 371)),(en P "quotients" 681 (.ref 378)),(en P "still_of" 687 (.ref 383)),(en P "answer_of" 700 (.ref 390)),(en P "places_of" 708 (.ref 395)),(en P "first_plan" 718 (.ref 402)),(en P "has_door" 727 (.ref 409)),(en P "doors_of" 738 (.ref 416)),(en P "better_doors" 750 (.ref 423)),(en P "ways_from" 760 (.ref 430)),(en P "whole_row" 766 (.ref 435)),(en P "led_row" 779 (.ref 442)),(en P "row_of" 785 (.ref 447)),(en P "worths_by" 791 (.ref 452)),(en P "worths_against" 803 (.ref 459)),(en P "against" 816 (.ref 466)),(en P "started" 827 (.ref 473)),(en P "mended" 841 (.ref 481)),(en P "worths" 848 (.ref 488)),(en P "_law_at" 860 (.ref 495)),(en P "_law_stream" 871 (.ref 502)),(en P "_law_lowest" 881 (.ref 509)),(en P "_law_pay" 890 (.ref 516)),(en P "_law_doors" 896 (.ref 521)),(en P "_law_by_digits" 903 (.ref 528)),(en P "_law_things" 916 (.ref 535)),(en P "_law_share_of" 926 (.ref 542)),(en P "_law_floor" 946 (.ref 549)),(en P "_law_copy" 952 (.ref 554)),(en P "_law_whole" 959 (.ref 561)),(en P "_law_table" 968 (.ref 568)),(en P "law" 974 (.ref 573))] 79), #[]⟩)::
(nat_lit 23,⟨(.type "dict"),none,(.dict #[(en P "__module__" 196 (.str "chanceduel.errors" 187)),(en P "__firstlineno__" 200 (.int 2 199)),(en P "__static_attributes__" 201 (.ref 22)),(en P "__weakref__" 203 (.ref 25)),(en P "__doc__" 204 .none)] 3), #[]⟩)::
(nat_lit 24,⟨(.type "type"),none,(.cls ⟨"DuelError",[(.type "ValueError")],[(.ref 24),(.type "ValueError"),(.type "Exception"),(.type "BaseException"),(.type "object")],23,"DuelError",true,[],[(.ref 37),(.ref 49),(.ref 68),(.ref 87),(.ref 106),(.ref 125)],false,none,false⟩), #[(some (.ref 15)),none,(some (.str "DuelError" 189)),(some (.str "DuelError" 197)),(some (.builtin "ValueError.__new__")),(some (.bool true))]⟩)::
(nat_lit 37,⟨(.type "type"),none,(.cls ⟨"NoNumber",[(.ref 24)],[(.ref 37),(.ref 24),(.type "ValueError"),(.type "Exception"),(.type "BaseException"),(.type "object")],36,"NoNumber",true,[],[],false,none,false⟩), #[(some (.ref 28)),none,(some (.str "NoNumber" 207)),(some (.str "NoNumber" 215)),(some (.builtin "ValueError.__new__")),(some (.bool true))]⟩)::
(nat_lit 49,⟨(.type "type"),none,(.cls ⟨"NoFloor",[(.ref 24)],[(.ref 49),(.ref 24),(.type "ValueError"),(.type "Exception"),(.type "BaseException"),(.type "object")],48,"NoFloor",true,[],[],false,none,false⟩), #[(some (.ref 40)),none,(some (.str "NoFloor" 223)),(some (.str "NoFloor" 231)),(some (.builtin "ValueError.__new__")),(some (.bool true))]⟩)::
(nat_lit 68,⟨(.type "type"),none,(.cls ⟨"NoPlace",[(.ref 24)],[(.ref 68),(.ref 24),(.type "ValueError"),(.type "Exception"),(.type "BaseException"),(.type "object")],67,"NoPlace",true,[],[],false,none,false⟩), #[(some (.ref 52)),none,(some (.str "NoPlace" 239)),(some (.str "NoPlace" 247)),(some (.builtin "ValueError.__new__")),(some (.bool true))]⟩)::
(nat_lit 87,⟨(.type "type"),none,(.cls ⟨"NoAnswer",[(.ref 24)],[(.ref 87),(.ref 24),(.type "ValueError"),(.type "Exception"),(.type "BaseException"),(.type "object")],86,"NoAnswer",true,[],[],false,none,false⟩), #[(some (.ref 71)),none,(some (.str "NoAnswer" 264)),(some (.str "NoAnswer" 272)),(some (.builtin "ValueError.__new__")),(some (.bool true))]⟩)::
(nat_lit 106,⟨(.type "type"),none,(.cls ⟨"ManyAnswers",[(.ref 24)],[(.ref 106),(.ref 24),(.type "ValueError"),(.type "Exception"),(.type "BaseException"),(.type "object")],105,"ManyAnswers",true,[],[],false,none,false⟩), #[(some (.ref 90)),none,(some (.str "ManyAnswers" 289)),(some (.str "ManyAnswers" 297)),(some (.builtin "ValueError.__new__")),(some (.bool true))]⟩)::
(nat_lit 125,⟨(.type "type"),none,(.cls ⟨"NoPlan",[(.ref 24)],[(.ref 125),(.ref 24),(.type "ValueError"),(.type "Exception"),(.type "BaseException"),(.type "object")],124,"NoPlan",true,[],[],false,none,false⟩), #[(some (.ref 109)),none,(some (.str "NoPlan" 316)),(some (.str "NoPlan" 324)),(some (.builtin "ValueError.__new__")),(some (.bool true))]⟩)::
(nat_lit 133,cO "common_divisor" "common_divisor" 343 30 2 3 128 351)::
(nat_lit 134,fO "common_divisor" "common_divisor" (at_ 9) m0 133)::
(nat_lit 140,cO "fraction" "fraction" 354 38 2 3 135 360)::
(nat_lit 141,fO "fraction" "fraction" (at_ 10) m0 140)::
(nat_lit 147,cO "plus" "plus" 363 45 2 3 142 368)::
(nat_lit 148,fO "plus" "plus" (at_ 11) m0 147)::
(nat_lit 154,cO "minus" "minus" 371 47 2 3 149 376)::
(nat_lit 155,fO "minus" "minus" (at_ 12) m0 154)::
(nat_lit 161,cO "times" "times" 379 49 2 3 156 384)::
(nat_lit 162,fO "times" "times" (at_ 13) m0 161)::
(nat_lit 168,cO "under" "under" 387 51 2 3 163 392)::
(nat_lit 169,fO "under" "under" (at_ 14) m0 168)::
(nat_lit 170,⟨(.type "tuple"),none,(.seq #[(.str "one" 397),(.str "other" 398)] 0), #[]⟩)::
(nat_lit 176,cO "fits_pay" "fits_pay" 404 57 1 3 171 408)::
(nat_lit 177,fO "fits_pay" "fits_pay" (at_ 19) m1 176)::
(nat_lit 183,cO "fits_door" "fits_door" 411 59 2 3 178 416)::
(nat_lit 184,fO "fits_door" "fits_door" (at_ 20) m1 183)::
(nat_lit 190,cO "common_bottom" "common_bottom" 419 61 1 3 185 425)::
(nat_lit 191,fO "common_bottom" "common_bottom" (at_ 21) m1 190)::
(nat_lit 195,dO "fits_chances" "fits_chances" 428 66 1 3 192 431)::
(nat_lit 196,fO "fits_chances" "fits_chances" (at_ 22) m1 195)::
(nat_lit 200,dO "fits_doors" "fits_doors" 434 72 2 3 197 437)::
(nat_lit 201,fO "fits_doors" "fits_doors" (at_ 23) m1 200)::
(nat_lit 205,dO "fits_row" "fits_row" 440 76 2 3 202 443)::
(nat_lit 206,fO "fits_row" "fits_row" (at_ 24) m1 205)::
(nat_lit 212,cO "copied_row" "copied_row" 446 85 1 3 207 450)::
(nat_lit 213,fO "copied_row" "copied_row" (at_ 25) m1 212)::
(nat_lit 214,⟨(.type "dict"),none,(.dict #[(en P "one" 459 (.str "other" 460)),(en P "other" 461 (.str "one" 462)),(en P "chance" 463 (.str "chance" 464))] 3), #[]⟩)::
(nat_lit 220,cO "fits_share" "fits_share" 469 93 1 3 215 473)::
(nat_lit 221,fO "fits_share" "fits_share" (at_ 30) m2 220)::
(nat_lit 227,cO "weighed" "weighed" 476 95 2 3 222 484)::
(nat_lit 228,fO "weighed" "weighed" (at_ 31) m2 227)::
(nat_lit 234,cO "greatest" "greatest" 487 100 1 3 229 493)::
(nat_lit 235,fO "greatest" "greatest" (at_ 32) m2 234)::
(nat_lit 241,cO "least" "least" 496 106 1 3 236 502)::
(nat_lit 242,fO "least" "least" (at_ 33) m2 241)::
(nat_lit 253,dO "__init__" "Floor.__init__" 517 114 3 3 250 520)::
(nat_lit 254,fO "__init__" "Floor.__init__" (JU (at_ 34) 0) m2 253)::
(nat_lit 260,cO "size" "Floor.size" 523 125 1 3 255 527)::
(nat_lit 261,fO "size" "Floor.size" (JU (at_ 34) 1) m2 260)::
(nat_lit 267,cO "share" "Floor.share" 530 128 1 3 262 534)::
(nat_lit 268,fO "share" "Floor.share" (JU (at_ 34) 2) m2 267)::
(nat_lit 274,cO "kind" "Floor.kind" 537 131 2 3 269 542)::
(nat_lit 275,fO "kind" "Floor.kind" (JU (at_ 34) 3) m2 274)::
(nat_lit 281,cO "doors" "Floor.doors" 545 134 2 3 276 550)::
(nat_lit 282,fO "doors" "Floor.doors" (JU (at_ 34) 4) m2 281)::
(nat_lit 288,cO "pay" "Floor.pay" 553 139 2 3 283 558)::
(nat_lit 289,fO "pay" "Floor.pay" (JU (at_ 34) 5) m2 288)::
(nat_lit 293,dO "rows" "Floor.rows" 561 144 1 3 290 564)::
(nat_lit 294,fO "rows" "Floor.rows" (JU (at_ 34) 6) m2 293)::
(nat_lit 300,cO "shown" "Floor.shown" 567 147 4 3 295 575)::
(nat_lit 301,fO "shown" "Floor.shown" (JU (at_ 34) 7) m2 300)::
(nat_lit 305,dO "all_shown" "Floor.all_shown" 578 151 3 3 302 581)::
(nat_lit 306,fO "all_shown" "Floor.all_shown" (JU (at_ 34) 8) m2 305)::
(nat_lit 310,dO "look" "Floor.look" 584 154 3 3 307 587)::
(nat_lit 311,fO "look" "Floor.look" (JU (at_ 34) 9) m2 310)::
(nat_lit 315,dO "best" "Floor.best" 590 164 3 3 312 593)::
(nat_lit 316,fO "best" "Floor.best" (JU (at_ 34) 10) m2 315)::
(nat_lit 318,⟨(.type "dict"),none,(.dict #[(en P "__module__" 512 m2),(en P "__firstlineno__" 516 (.int 112 515)),(en P "__init__" 522 (.ref 254)),(en P "size" 529 (.ref 261)),(en P "share" 536 (.ref 268)),(en P "kind" 544 (.ref 275)),(en P "doors" 552 (.ref 282)),(en P "pay" 560 (.ref 289)),(en P "rows" 566 (.ref 294)),(en P "shown" 577 (.ref 301)),(en P "all_shown" 583 (.ref 306)),(en P "look" 589 (.ref 311)),(en P "best" 595 (.ref 316)),(en P "__static_attributes__" 598 (.ref 317)),(en P "__dict__" 600 (.ref 320)),(en P "__weakref__" 602 (.ref 321)),(en P "__doc__" 603 .none)] 4), #[]⟩)::
(nat_lit 319,⟨(.type "type"),none,(.cls ⟨"Floor",[(.type "object")],[(.ref 319),(.type "object")],318,"Floor",true,[],[],false,none,false⟩), #[none,none,(some (.str "Floor" 505)),(some (.str "Floor" 513)),(some (.builtin "object.__new__")),(some (.bool true))]⟩)::
(nat_lit 329,cO "with_other_sign" "with_other_sign" 606 169 1 3 324 610)::
(nat_lit 330,fO "with_other_sign" "with_other_sign" (at_ 35) m2 329)::
(nat_lit 334,dO "turned_row" "turned_row" 613 171 1 3 331 616)::
(nat_lit 335,fO "turned_row" "turned_row" (at_ 36) m2 334)::
(nat_lit 339,dO "turned" "turned" 619 176 1 3 336 622)::
(nat_lit 340,fO "turned" "turned" (at_ 37) m2 339)::
(nat_lit 346,cO "with_weights" "with_weights" 627 179 1 3 341 635)::
(nat_lit 347,fO "with_weights" "with_weights" (at_ 39) m3 346)::
(nat_lit 353,cO "number_of_head" "number_of_head" 638 186 3 3 348 645)::
(nat_lit 354,fO "number_of_head" "number_of_head" (at_ 40) m3 353)::
(nat_lit 360,cO "moved_ahead" "moved_ahead" 648 191 3 3 355 654)::
(nat_lit 361,fO "moved_ahead" "moved_ahead" (at_ 41) m3 360)::
(nat_lit 365,dO "cleared_line" "cleared_line" 657 193 4 3 362 660)::
(nat_lit 366,fO "cleared_line" "cleared_line" (at_ 42) m3 365)::
(nat_lit 370,dO "cleared" "cleared" 663 195 2 3 367 666)::
(nat_lit 371,fO "cleared" "cleared" (at_ 43) m3 370)::
(nat_lit 377,cO "quotients" "quotients" 669 212 4 3 372 679)::
(nat_lit 378,fO "quotients" "quotients" (at_ 44) m3 377)::
(nat_lit 389,cO "answer_of" "answer_of" 688 222 1 3 384 698)::
(nat_lit 390,fO "answer_of" "answer_of" (at_ 46) m3 389)::
(nat_lit 394,dO "places_of" "places_of" 703 235 2 3 391 706)::
(nat_lit 395,fO "places_of" "places_of" (at_ 48) m4 394)::
(nat_lit 401,cO "first_plan" "first_plan" 709 237 2 3 396 716)::
(nat_lit 402,fO "first_plan" "first_plan" (at_ 49) m4 401)::
(nat_lit 408,cO "has_door" "has_door" 719 242 3 3 403 725)::
(nat_lit 409,fO "has_door" "has_door" (at_ 50) m4 408)::
(nat_lit 415,cO "doors_of" "doors_of" 728 244 2 3 410 736)::
(nat_lit 416,fO "doors_of" "doors_of" (at_ 51) m4 415)::
(nat_lit 422,cO "better_doors" "better_doors" 739 254 3 3 417 748)::
(nat_lit 423,fO "better_doors" "better_doors" (at_ 52) m4 422)::
(nat_lit 429,cO "ways_from" "ways_from" 751 261 3 3 424 758)::
(nat_lit 430,fO "ways_from" "ways_from" (at_ 53) m4 429)::
(nat_lit 434,dO "whole_row" "whole_row" 761 266 1 3 431 764)::
(nat_lit 435,fO "whole_row" "whole_row" (at_ 54) m4 434)::
(nat_lit 441,cO "led_row" "led_row" 767 269 5 3 436 777)::
(nat_lit 442,fO "led_row" "led_row" (at_ 55) m4 441)::
(nat_lit 446,dO "row_of" "row_of" 780 275 3 3 443 783)::
(nat_lit 447,fO "row_of" "row_of" (at_ 56) m4 446)::
(nat_lit 451,dO "worths_by" "worths_by" 786 281 2 3 448 789)::
(nat_lit 452,fO "worths_by" "worths_by" (at_ 57) m4 451)::
(nat_lit 458,cO "worths_against" "worths_against" 794 284 3 3 453 801)::
(nat_lit 459,fO "worths_against" "worths_against" (at_ 59) m5 458)::
(nat_lit 465,cO "against" "against" 804 288 3 3 460 814)::
(nat_lit 466,fO "against" "against" (at_ 60) m5 465)::
(nat_lit 472,cO "started" "started" 819 299 3 3 467 825)::
(nat_lit 473,fO "started" "started" (at_ 62) m6 472)::
(nat_lit 474,⟨(.type "tuple"),none,(.seq #[(.str "one" 828), .none] 0), #[]⟩)::
(nat_lit 480,cO "mended" "mended" 829 303 3 3 475 839)::
(nat_lit 481,⟨(.type "function"),none,(.func ⟨"mended","mended",(dA (at_ 63)),(.stmts (dB (at_ 63))),(dS (at_ 63)),3,[],(.ref 474), .none, .none,m6,none,(.ref 480), .none,0⟩), #[]⟩)::
(nat_lit 487,cO "worths" "worths" 842 313 1 3 482 846)::
(nat_lit 488,fO "worths" "worths" (at_ 64) m6 487)::
(nat_lit 494,cO "_law_at" "_law_at" 851 316 2 3 489 858)::
(nat_lit 495,fO "_law_at" "_law_at" (at_ 66) m7 494)::
(nat_lit 501,cO "_law_stream" "_law_stream" 861 323 2 3 496 869)::
(nat_lit 502,fO "_law_stream" "_law_stream" (at_ 67) m7 501)::
(nat_lit 508,cO "_law_lowest" "_law_lowest" 872 330 2 3 503 879)::
(nat_lit 509,fO "_law_lowest" "_law_lowest" (at_ 68) m7 508)::
(nat_lit 515,cO "_law_pay" "_law_pay" 882 335 2 3 510 888)::
(nat_lit 516,fO "_law_pay" "_law_pay" (at_ 69) m7 515)::
(nat_lit 520,dO "_law_doors" "_law_doors" 891 340 4 3 517 894)::
(nat_lit 521,fO "_law_doors" "_law_doors" (at_ 70) m7 520)::
(nat_lit 527,cO "_law_by_digits" "_law_by_digits" 897 349 1 3 522 901)::
(nat_lit 528,fO "_law_by_digits" "_law_by_digits" (at_ 71) m7 527)::
(nat_lit 534,cO "_law_things" "_law_things" 904 351 4 3 529 914)::
(nat_lit 535,fO "_law_things" "_law_things" (at_ 72) m7 534)::
(nat_lit 541,cO "_law_share_of" "_law_share_of" 917 360 2 3 536 924)::
(nat_lit 542,fO "_law_share_of" "_law_share_of" (at_ 73) m7 541)::
(nat_lit 548,cO "_law_floor" "_law_floor" 927 364 1 3 543 944)::
(nat_lit 549,fO "_law_floor" "_law_floor" (at_ 74) m7 548)::
(nat_lit 553,dO "_law_copy" "_law_copy" 947 386 1 3 550 950)::
(nat_lit 554,fO "_law_copy" "_law_copy" (at_ 75) m7 553)::
(nat_lit 560,cO "_law_whole" "_law_whole" 953 388 1 3 555 957)::
(nat_lit 561,fO "_law_whole" "_law_whole" (at_ 76) m7 560)::
(nat_lit 567,cO "_law_table" "_law_table" 960 390 2 3 562 966)::
(nat_lit 568,fO "_law_table" "_law_table" (at_ 77) m7 567)::
(nat_lit 572,dO "law" "law" 969 399 1 3 569 972)::
(nat_lit 573,fO "law" "law" (at_ 78) m7 572)::[]
noncomputable abbrev H:Hook:=kHook K [2,3,23,24,37,49,68,87,106,125,133,134,140,141,147,148,154,155,161,162,168,169,170,176,177,183,184,190,191,195,196,200,201,205,206,212,213,214,220,221,227,228,234,235,241,242,253,254,260,261,267,268,274,275,281,282,288,289,293,294,300,301,305,306,310,311,315,316,318,319,329,330,334,335,339,340,346,347,353,354,360,361,365,366,370,371,377,378,389,390,394,395,401,402,408,409,415,416,422,423,429,430,434,435,441,442,446,447,451,452,458,459,465,466,472,473,474,480,481,487,488,494,495,501,502,508,509,515,516,520,521,527,528,534,535,541,542,548,549,553,554,560,561,567,568,572,573] (λ_=>by kernel_rfl)
abbrev Xt:Shared->Bool:=λs=>xlAt q [] s&&recOk (RowW.records row.toRowW) s
structure Z where
 o:List (List Obj)
 n:Nat
 t:Nat
 g:List DictEntry
 c:List (List Value)
 m:Value
 s:List Value
noncomputable section
def tu(l:List Value):Obj:=⟨.type "tuple",none, .seq ⟨l⟩ 0, #[]⟩
def fl(c:Value)(l:List Value):Obj:=⟨c,none, .fields ⟨l⟩, #[]⟩
def ss:List Str->Nat->List Value
 |[],_=>[]
 |x::r,t=> .str x t::ss r (t+1)
def lo:List (Str×NameKind)->List Str
 |[]=>[]
 |(x, .local)::r=>x::lo r
 |_::r=>lo r
def cd(x q:Str)(t l a k b:Nat)(f:Bool)(v w z:Value)(e:Nat):Obj:=fl (.type "code") [.str x t, .str q (t+1), .str "/claim/cut.py" (t+2), .int l 0, .int a 0, .int 0 0, .int 0 0, .int k 0, .ref b, .bool f, .int 181 0, .ref (b+1), .none,v,w,z, .int e 0, .int l 0, .str "/claim/cut.py" (e+1)]
def dfO(d:Value) (x q:Str) (a:Arguments) (b:List Stmt) (s:Scope) (l:Nat) (m:Value) (n t:Nat):List Obj×Nat:=
 let f (c:Value) (g:Nat) (d m h:Value):Obj:=⟨c,none, .func ⟨x,q,a, .stmts b,s,g,[],d, .none, .none,m,none,h, .none,0⟩, #[]⟩
 match s.more with
 |[]=>let v:=lo s.names
  ([tu [],fl .none [],tu (ss v (t+3)),tu [],f .none 0 .none .none .none,cd x q t l a.args.length 3 n true (.ref (n+2)) (.ref (n+3)) (.ref (n+4)) (t+3+v.length),f (.type "function") 3 d m (.ref (n+5))],t+5+v.length)
 |_=>([tu [],fl .none [],f .none 0 .none .none .none,cd x q t l a.args.length 3 n true .none .none (.ref (n+2)) (t+3),f (.type "function") 3 d m (.ref (n+3))],t+5)
def mt(P:Params) (x:Str) (m:Value):List Stmt->Nat->Nat->List Obj×List DictEntry×List Value×Nat×Nat
 |.FunctionDef y a b _ _ _ s _ _ p::r,n,t=>match dfO .none y (x++"."++y) a b s p.line m n t with
  |(os,k)=>match mt P x m r (n+os.length) (k+1) with
   |(o,e,c,w)=>(os++o,en P y k (.ref (n+os.length-1))::e, .int p.line 0:: .int p.col 0:: .ref (n+os.length-2)::c,w)
 |_::r,n,t=>mt P x m r n t
 |[],n,t=>([],[],[],n,t)
def ty(x:Str)(bs mro:List Value)(d t:Nat)(b:Option Value)(w:String)(s:List Value):Obj:=⟨.type "type",none, .cls ⟨x,bs, .ref (d+1)::mro,d,x,true,[],s,false,none,false⟩, #[b,none,some (.str x t),some (.str x (t+8)),some (.builtin w),some (.bool true)]⟩
abbrev VE:List Value:=[.type "ValueError", .type "Exception", .type "BaseException", .type "object"]
def clO(P:Params) (x:Str) (bs:List Expr) (b:List Stmt) (sa:List Str) (l:Nat) (m:Value) (n t:Nat):List Obj×Nat×Nat:=
 match mt P x m b (n+7) (t+12) with
 |(mo,me,mc,n2,t2)=>
  let k:=t2+sa.length
  let e1:=en P "__module__" (t+7) m
  let e2:=en P "__firstlineno__" (t+11) (.int l (t+10))
  let e3:=en P "__static_attributes__" k (.ref n2)
  let ds (w k:Nat) (x:List DictEntry):Obj:=⟨.type "dict",none, .dict ⟨e1::e2::(me++e3::(x++[en P "__doc__" k .none]))⟩ w, #[]⟩
  let de (x:Str) (t:Nat) (u:String) (v:Value):Obj:=fl (.type "getset_descriptor") [.str x t, .ref (n2+2), .builtin u,v]
  let h (bt:List Value) (r:List Obj):List Obj:=tu bt::fl (.type "builtin_function_or_method") [.builtin "type.__prepare__", .type "type"]::⟨.type "dict",none, .dict ⟨e1::en P "__qualname__" (t+9) (.str x (t+8))::e2::(me++[e3])⟩ (4+me.length), #[]⟩::tu []::fl .none mc::cd x x (t+2) l 0 0 (n+3) false .none .none .none (t+5)::⟨.type "frame",none, .plain, #[some (.ref (n+5)),some (.ref 3),some (.ref (n+2)),none,some m,none,some (.ref 0)]⟩::(mo++tu (ss sa t2)::(r++[fl (.type "super") [.ref (n2+2), .ref (n2+2), .ref (n2+2)],fl (.type "builtin_function_or_method") [.builtin "object.__init_subclass__", .ref (n2+2)]]))
  match bs with
  |[]=>(h [] [ds 4 (k+5) [en P "__dict__" (k+2) (.ref (n2+3)),en P "__weakref__" (k+4) (.ref (n2+4))],ty x [.type "object"] [.type "object"] (n2+1) t none "object.__new__" [],de "__dict__" (k+1) "function.__dict__" (.builtin "function.__dict__#set"),de "__weakref__" (k+3) "ExceptionGroup.__weakref__" .none],k+7,n2+2)
  |_=>match n with
   |15=>(h [.type "ValueError"] [ds 3 (k+3) [en P "__weakref__" (k+2) (.ref (n2+3))],ty x [.type "ValueError"] VE (n2+1) t (some (.ref n)) "ValueError.__new__" [],de "__weakref__" (k+1) "ExceptionGroup.__weakref__" .none],k+5,n2+2)
   |_=>(h [.ref 24] [ds 2 (k+1) [],ty x [.ref 24] (.ref 24::VE) (n2+1) t (some (.ref n)) "ValueError.__new__" []],k+3,n2+2)
def ls:List Expr->Nat->List Value×Nat
 |.Constant (.str z) _ _::r,t=>match ls r (t+1) with
  |(v,k)=>(.str z t::v,k)
 |.Constant (.int z) _ _::r,t=>match ls r (t+1) with
  |(v,k)=>(.int z t::v,k)
 |.Constant .none _ _::r,t=>match ls r t with
  |(v,k)=>(.none::v,k)
 |_,t=>([],t)
def gv(x:Str):List DictEntry->Value
 |⟨_, .str y _,v⟩::r=>if x=y then v else gv x r
 |_=> .none
def dv(P:Params) (g:List DictEntry):List (Option Expr)->List Expr->Nat->List DictEntry×Nat
 |some (.Constant (.str z) _ _)::r, .Name x _::u,t=>match dv P g r u (t+1) with
  |(e,k)=>(en P z t (gv x g)::e,k+1)
 |some (.Constant (.str z) _ _)::r,c::u,t=>match ls [c] (t+1) with
  |(v,k)=>match dv P g r u k with
   |(e,k)=>(en P z t (v.headD .none)::e,k+1)
 |_,_,t=>([],t)
def stp(P:Params) (z:Z):Stmt->Z
 |.FunctionDef x a b _ _ _ s _ _ p=>match a.defaults with
  |[]=>match dfO .none x x a b s p.line z.m z.n z.t with
   |(os,k)=>{z with o:=os::z.o,n:=z.n+os.length,t:=k+1,g:=en P x k (.ref (z.n+os.length-1))::z.g,c:=[.int p.line 0, .int p.col 0, .ref (z.n+os.length-2)]::z.c}
  |ds=>match ls ds z.t with
   |(v,k)=>match dfO (.ref z.n) x x a b s p.line z.m (z.n+1) k with
    |(os,k)=>{z with o:=os::[tu v]::z.o,n:=z.n+1+os.length,t:=k+1,g:=en P x k (.ref (z.n+os.length))::z.g,c:=[.int p.line 0, .int p.col 0, .ref (z.n+os.length-1)]::z.c}
 |.ClassDef x bs _ b _ _ _ _ _ sa p=>match clO P x bs b sa p.line z.m z.n z.t with
  |(os,k,d)=>{z with o:=os::z.o,n:=z.n+os.length,t:=k+1,g:=en P x k (.ref d)::z.g,c:=[.int p.line 0, .int p.col 0, .ref (z.n+5)]::z.c,s:=match z.n with
    |15=>[]
    |_=>match bs with
     |[]=>z.s
     |_=> .ref d::z.s}
 |.Assign [.Name x _] (.Tuple es _ _) _=>match ls es z.t with
  |(v,k)=>{z with o:=[tu v]::z.o,n:=z.n+1,t:=k+1,g:=en P x k (.ref z.n)::z.g}
 |.Assign [.Name x _] (.Dict ks vs _) _=>match dv P z.g ks vs z.t with
  |(e,k)=>{z with o:=[⟨.type "dict",none, .dict ⟨e⟩ e.length, #[]⟩]::z.o,n:=z.n+1,t:=k+1,g:=en P x k (.ref z.n)::z.g}
 |.Assign [.Name x _] c _=>match ls [c] z.t with
  |(v,k)=>if x="__name__" then {z with t:=k+1,m:=v.headD .none} else {z with t:=k+1,g:=en P x k (v.headD .none)::z.g}
 |_=>z
def z0:Z:=⟨[],15,187,[],[], .str "__main__" 164,[]⟩
def zs(P:Params)(k:Nat):Z:=((behindTheImports row.prog).take k).foldl (stp P) z0
def g9(P:Params)(m:Value):List DictEntry:=[en P "__name__" 165 m,en P "__doc__" 166 .none,en P "__package__" 167 .none,en P "__loader__" 168 (.builtin "__main__.__loader__#opaque"),en P "__spec__" 169 .none,en P "__annotations__" 170 (.ref 6),en P "__builtins__" 171 (.ref 4),en P "__file__" 173 (.str "/claim/cut.py" 172),en P "__cached__" 174 .none]
def zl(P:Params)(z:Z):List Obj:=boot_o_0 P::boot_o_1 P::boot_o_2 P::⟨.type "dict",none, .dict ⟨g9 P z.m++z.g.reverse⟩ (z.g.length+9), #[]⟩::boot_o_4 P::boot_o_5 P::boot_o_6 P::boot_o_7 P::boot_o_8 P::boot_o_9 P::boot_o_10 P::tu []::fl .none z.c.reverse.flatten::cd "<module>" "<module>" 182 1 0 0 11 false .none .none .none 185::⟨.type "frame",none, .plain, #[some (.ref 13),some (.ref 3),some (.ref 3),none,some (.str "__main__" 164),none,some (.ref 0)]⟩::(z.o.reverse.flatten.set 9 (ty "DuelError" [.type "ValueError"] VE 23 189 (some (.ref 15)) "ValueError.__new__" z.s.reverse))
def od:List Obj->List Obj
 |x::_::r=>x::od r
 |l=>l
def mkT:Nat->List Obj->BT
 |0,_=> .nil
 |_,[]=> .nil
 |n+1,x::r=> .node x (mkT n (od r)) (mkT n (od r.tail))
def T(P:Params)(k:Nat):BT:=mkT 12 (zl P (zs P k))
abbrev S(k n t:Nat)(w:World)(os:OsState):SharedT:=⟨T w.params k,n,{}, #[],{},t,os⟩
def env:Env:={scope:=row.prog.main.scope,locals:=mainNs,globals:=mainNs,cells:=[],code:= .ref 13,frame:=some 14}
abbrev bI:List Stmt:=behindTheImports row.prog
def cE:Code:= .body bI env
abbrev tF:List Frame:=[topFrame ⟨0,0,0,0⟩]
abbrev sg(w:World)(os:OsState)(N k n t:Nat)(p:Pos)(l:Nat):=segRunT treeTable row.prog w 11 (some (.ref 6)) 1 N (S k n t w os) (piecesOf ((bI.drop k).take l) env cE p tF)
abbrev sr(w:World)(os:OsState)(k n t:Nat)(p:Pos):Option (Flow×SharedT×Code×Pos):=some (.next,S k n t w os,cE,p)
abbrev se(w:World)(N k n t:Nat)(p:Pos)(l:Nat)(k' n' t':Nat)(p':Pos):Prop:=(λos=>sg w os N k n t p l)=λos=>sr w os k' n' t' p'
theorem lw:looseW q ["TURNED_KINDS","mended"]=(["TURNED_KINDS","mended","HANDS"]:List Str):=by kernel_rfl
theorem s0(w:World):se w 2060 0 15 187 ⟨0,0,0,0⟩ 29 29 214 459 ⟨91,0,91,17⟩:=by kernel_rfl
theorem s29f(w:World):se (w.withFollow "special-get-raises" false) 56 29 214 459 ⟨91,0,91,17⟩ 1 30 215 469 ⟨92,0,92,12⟩:=by kernel_rfl
theorem s29t(w:World):se (w.withFollow "special-get-raises" true) 56 29 214 459 ⟨91,0,91,17⟩ 1 30 215 469 ⟨92,0,92,12⟩:=by kernel_rfl
theorem s29(w:World):se w 56 29 214 459 ⟨91,0,91,17⟩ 1 30 215 469 ⟨92,0,92,12⟩:=byRow2 "special-get-raises" (P:=λw=>se w 56 29 214 459 ⟨91,0,91,17⟩ 1 30 215 469 ⟨92,0,92,12⟩) s29f s29t w
theorem s30(w:World):se w 1888 30 215 469 ⟨92,0,92,12⟩ 49 79 574 975 ⟨399,0,416,89⟩:=by kernel_rfl
theorem pre(w:World)(os:OsState):topGo treeTable row.prog w 11 (some (.ref 6)) 12 ⟨boot_heap w.params, #[],boot_drawn,boot_toks,os⟩ (topStub row.prog)=some ((S 0 15 187 w os).abs,⟨denote treeTable cE,cE,⟨0,0,0,0⟩,tF⟩):=by kernel_rfl
theorem blk(w:World)(os:OsState):segRun treeTable row.prog w 11 (some (.ref 6)) 1 1 (S 0 15 187 w os).abs (blockOf bI env cE ⟨0,0,0,0⟩ tF)=some (.next,(S 0 15 187 w os).abs,cE,⟨0,0,0,0⟩):=by kernel_rfl
theorem fin(w:World)(s:Shared)(p:Pos):topRun treeTable row.prog w 11 (some (.ref 6)) 2 s (restOf (bI.drop 79) env cE p tF)=some s:=by rewrite [show bI.drop 79=[] by kernel_rfl];rfl
theorem siz(w:World):((boot_heap w.params).isNs mainGlobals&&(#[]:Array GenState).size==0,(boot_heap w.params).objs.size,(boot_heap w.params).nsMap mainGlobals "__annotations__")=(true,11,some (.ref 6)):=by kernel_rfl
theorem opn:opening row.prog=plainProg row.prog.main.scope.names:=by kernel_rfl
theorem fen(s:Shared):fenceModules? row.prog s=some s:=by kernel_rfl
theorem pc{w:World}{n N k l:Nat}{s s':SharedT}{r:Shared}{p p':Pos}(h:segRunT treeTable row.prog w 11 (some (.ref 6)) 1 n s (piecesOf ((bI.drop k).take l) env cE p tF)=some (.next,s',cE,p'))(g:topRun treeTable row.prog w 11 (some (.ref 6)) N s'.abs (restOf (bI.drop (k+l)) env cE p' tF)=some r):topRun treeTable row.prog w 11 (some (.ref 6)) (n+N) s.abs (restOf (bI.drop k) env cE p tF)=some r:=by
 have e:(bI.drop k).take l++bI.drop (k+l)=bI.drop k:=by rw [<-List.drop_drop,List.take_append_drop]
 rewrite [<-e];exact piece_app (segRun_of h) g
theorem run(w:World)(os:OsState):topRun treeTable row.prog w 11 (some (.ref 6)) (12+(1+(2060+(56+(1888+(2)))))) ⟨boot_heap w.params, #[],boot_drawn,boot_toks,os⟩ (topStub row.prog)=some (S 79 574 975 w os).abs:=go_top (pre w os) (piece_block (blk w os) (pc (congrFun (s0 w) os) (pc (congrFun (s29 w) os) (pc (congrFun (s30 w) os) (fin w _ _)))))
abbrev sE(w:World)(os:OsState):Shared:=(S 79 574 975 w os).abs
theorem l1(w:World)(os:OsState):(staticsOk (importedModules row.prog.main.body) (boot_heap w.params) (sE w os).heap&&namesBound row.prog (sE w os).heap&&gensDone (sE w os)&&laidKept (boot_heap w.params) (sE w os).heap)=true:=by kernel_rfl
section
variable{A B D E F G I J:Type}{u t:A×B×Bool×D×E×F×G×I×J}
def p1:A×B×Bool×D×E×F×G×I×J->A
 |(a,_)=>a
def p2:A×B×Bool×D×E×F×G×I×J->B
 |(_,b,_)=>b
def p4:A×B×Bool×D×E×F×G×I×J->Bool
 |(_,_,c,_)=>c
def p3:A×B×Bool×D×E×F×G×I×J->D
 |(_,_,_,d,_)=>d
def p5:A×B×Bool×D×E×F×G×I×J->E
 |(_,_,_,_,e,_)=>e
def p6:A×B×Bool×D×E×F×G×I×J->F
 |(_,_,_,_,_,f,_)=>f
def p7:A×B×Bool×D×E×F×G×I×J->G
 |(_,_,_,_,_,_,g,_)=>g
def p8:A×B×Bool×D×E×F×G×I×J->I
 |(_,_,_,_,_,_,_,g,_)=>g
def p9:A×B×Bool×D×E×F×G×I×J->J
 |(_,_,_,_,_,_,_,_,g)=>g
theorem q6{a b c d e f g i j}:p6 ((a,b,c,d,e,f,g,i,j):A×B×Bool×D×E×F×G×I×J)=f:=rfl
theorem pr(h:p1 u=t.1)(g:p2 u=t.2.1)(g1:p4 u=true)(g2:t.2.2.1=true)(k:p3 u=t.2.2.2.1)(k1:p5 u=t.2.2.2.2.1)(k2:p6 u=t.2.2.2.2.2.1)(k3:p7 u=t.2.2.2.2.2.2.1)(k4:p8 u=t.2.2.2.2.2.2.2.1)(k5:p9 u=t.2.2.2.2.2.2.2.2):u=t:=Prod.ext h (Prod.ext g (Prod.ext (g1.trans g2.symm) (Prod.ext k (Prod.ext k1 (Prod.ext k2 (Prod.ext k3 (Prod.ext k4 k5)))))))
end
abbrev sn(w:World)(os:OsState):=openSeen q ["TURNED_KINDS","mended"] (importedModules row.prog.main.body) Xt true (sE w os)
abbrev gd:=openGood q ["TURNED_KINDS","mended"]
variable(w:World)(os:OsState)
theorem la:p1 (sn w os)=gd.1:=by kernel_rfl
theorem lb:p2 (sn w os)=gd.2.1:=by kernel_rfl
theorem lp:(sE w os).heap.keysOk (looseW q ["TURNED_KINDS","mended"]) ((recsOf q).map (·.name)) ((litsOf q).map (·.1)) ((clssOf q (looseW q ["TURNED_KINDS","mended"])).map (·.name))=true:=by rw[lw];kernel_rfl
theorem lq:(sE w os).heap.accountedOkI (importedModules row.prog.main.body)=true:=by kernel_rfl
theorem lr:(sE w os).heap.isNs mainGlobals=true:=by kernel_rfl
theorem lt:(sE w os).heap.isNs builtinsNs=true:=by kernel_rfl
theorem lu:tablesOk q (sE w os).heap=true:=by kernel_rfl
theorem lv:Xt (sE w os)=true:=by kernel_rfl
theorem p4e(s:Shared):p4 (openSeen q ["TURNED_KINDS","mended"] (importedModules row.prog.main.body) Xt true s)=(s.heap.keysOk (looseW q ["TURNED_KINDS","mended"]) ((recsOf q).map (·.name)) ((litsOf q).map (·.1)) ((clssOf q (looseW q ["TURNED_KINDS","mended"])).map (·.name))&&s.heap.accountedOkI (importedModules row.prog.main.body)&&s.heap.isNs mainGlobals&&s.heap.isNs builtinsNs&&tablesOk q s.heap&&Xt s&&(s.gens.size==0)):=rfl
theorem ld:p4 (sn w os)=true:=(p4e _).trans (look_both (look_both (look_both (look_both (look_both (look_both (lp w os) (lq w os)) (lr w os)) (lt w os)) (lu w os)) (lv w os)) rfl)
theorem na:(((recsOf q).take 50).all λd=>(sE w os).heap.tab0Ok d.name)=true:=by kernel_rfl
theorem ne:(((recsOf q).drop 50).all λd=>(sE w os).heap.tab0Ok d.name)=true:=by kernel_rfl
theorem nt{α}{l:List α}{f}(h:(l.take 50).all f=true)(g:(l.drop 50).all f=true):l.all f=true:=by rw[<-l.take_append_drop 50,List.all_append,h,g];rfl
theorem nb:(sE w os).heap.bmainOk=true:=by kernel_rfl
theorem nc:valsOk q (sE w os).heap=true:=by kernel_rfl
theorem nd:(!importsNone q||(sE w os).heap.noSeerOk)=true:=by kernel_rfl
theorem p3e(s:Shared):p3 (openSeen q ["TURNED_KINDS","mended"] (importedModules row.prog.main.body) Xt true s)=tabsOk q s:=rfl
theorem lc:p3 (sn w os)=gd.2.2.2.1:=(p3e _).trans (look_both (look_both (look_both (nt (na w os) (ne w os)) (nb w os)) (nc w os)) (nd w os))
theorem le:p5 (sn w os)=gd.2.2.2.2.1:=by kernel_rfl
theorem p6e(s:Shared):p6 (openSeen q ["TURNED_KINDS","mended"] (importedModules row.prog.main.body) Xt true s)=plainSeenE q (looseW q ["TURNED_KINDS","mended"]) s:=by delta openSeen;exact q6
theorem ga:plainSeenE q (looseW q ["TURNED_KINDS","mended"]) (sE w os)=plainGoodE q (looseW q ["TURNED_KINDS","mended"]):=by rw[lw];kernel_rfl
theorem lg:p6 (sn w os)=gd.2.2.2.2.2.1:=(p6e _).trans (ga w os)
theorem lh:p7 (sn w os)=gd.2.2.2.2.2.2.1:=by kernel_rfl
theorem lj:p8 (sn w os)=gd.2.2.2.2.2.2.2.1:=by kernel_rfl
theorem lm:p9 (sn w os)=gd.2.2.2.2.2.2.2.2:=by kernel_rfl
theorem l2:sn w os=gd:=pr (la w os) (lb w os) (ld w os) rfl (lc w os) (le w os) (lg w os) (lh w os) (lj w os) (lm w os)
theorem l3:H.obs (sE w os)=H.val w:=by kernel_rfl
theorem left:LeftO row.prog q ["TURNED_KINDS","mended"] Xt H.obs H.val 8128:=LeftO.of_pieces (H₀:=boot_heap) (H₁:=λP=>absHeap (T P 79) 574 {}) (gs₀:= #[]) (gs₁:= #[]) (d₀:=boot_drawn) (d₁:={}) (k₀:=boot_toks) (k₁:=975) (boot_open opn rfl fen) siz run rfl λw=>funext λos=>looks_pair (l1 w os) (looks_pair (l2 w os) (l3 w os))
end
end Hd
abbrev fI:=PySem.W.Frag
namespace L2
open PySem PySem.Spec PyProof.Rows
abbrev Key:=Sum Int Str
def vC:Key->Value->Bool
 |.inl k,v=>Value.isInt k v
 |.inr x,v=>Value.isStrOf x v
def Y7(w:World):Key->Int
 |.inl k=>hashInt k
 |.inr x=>hashStr w x
theorem bu:∀{k:Key}{v:Value},vC k v=true->(∃i t,k=Sum.inl i/\v=Value.int i t)\/(∃x t,k=Sum.inr x/\v=Value.str x t)
 |.inl i,v,h=>by obtain ⟨t,e⟩:=Value.isInt_shape (k:=i) (v:=v) h;exact .inl ⟨i,t,rfl,e⟩
 |.inr x,v,h=>by obtain ⟨t,e⟩:=Value.isStrOf_shape (x:=x) (v:=v) h;exact .inr ⟨x,t,rfl,e⟩
theorem Gr(i:Int)(t:Tok):vC (.inl i) (.int i t)=true:=by simp [vC,Value.isInt]
theorem Fq(x:Str)(t:Tok):vC (.inr x) (.str x t)=true:=by simp [vC,Value.isStrOf]
theorem Rh(a b:Int):decide ((Sum.inl a:Key)=Sum.inl b)=(a==b):=by
 by_cases e:a=b
 ·subst e;simp
 ·have h:¬(Sum.inl a:Key)=Sum.inl b:=λq=>e (Sum.inl.inj q);rw [decide_eq_false h];exact (beq_eq_false_iff_ne.mpr e).symm
theorem OL(a b:Str):decide ((Sum.inr a:Key)=Sum.inr b)=decide (a=b):=by
 by_cases e:a=b
 ·subst e;simp
 ·have h:¬(Sum.inr a:Key)=Sum.inr b:=λq=>e (Sum.inr.inj q);rw [decide_eq_false h,decide_eq_false e]
theorem Qq(a:Int)(b:Str):decide ((Sum.inl a:Key)=Sum.inr b)=false:=decide_eq_false (λq=>nomatch q)
theorem Qj(a:Str)(b:Int):decide ((Sum.inr a:Key)=Sum.inl b)=false:=decide_eq_false (λq=>nomatch q)
def bB(prog:Program)(w:World):PySem.KeyKind prog w Key where
 is:=vC
 hash:=Y7 w
 inj:=λv a b ha hb=>by
  rcases bu ha with ⟨i,t,rfl,rfl⟩|⟨x,t,rfl,rfl⟩
  ·rcases bu hb with ⟨j,u,rfl,e⟩|⟨y,u,rfl,e⟩
   ·injection e with e1 _;rw [e1]
   ·exact nomatch e
  ·rcases bu hb with ⟨j,u,rfl,e⟩|⟨y,u,rfl,e⟩
   ·exact nomatch e
   ·injection e with e1 _;rw [e1]
 byValue:=λk v h=>by rcases bu h with ⟨i,t,rfl,rfl⟩|⟨x,t,rfl,rfl⟩ <;> rfl
 pyHash:=λhv h=>by
  rcases bu hv with ⟨i,t,rfl,rfl⟩|⟨x,t,rfl,rfl⟩
  ·exact wpAny_pyHash_int h
  ·exact wpAny_pyHash_str h
 eqBool:=λhu hv h=>by
  rcases bu hu with ⟨i,t,rfl,rfl⟩|⟨x,t,rfl,rfl⟩
  ·rcases bu hv with ⟨j,u,rfl,rfl⟩|⟨y,u,rfl,rfl⟩
   ·rw [Rh] at h;exact wpAny_eqBool_int h
   ·rw [Qq] at h;exact SeqAt.EqAt.int_str i t y u _ _ _ _ h
  ·rcases bu hv with ⟨j,u,rfl,rfl⟩|⟨y,u,rfl,rfl⟩
   ·rw [Qj] at h;exact SeqAt.EqAt.str_int x t j u _ _ _ _ h
   ·rw [OL] at h;exact wpAny_eqBool_str h
 «strs»:=λk x t v h=>by
  rcases bu h with ⟨i,u,rfl,e⟩|⟨y,u,rfl,e⟩
  ·exact nomatch e
  ·injection e with e1 _
   subst e1;cases v <;> rfl
theorem zA(prog:Program)(w:World)(i:Int)(t:Tok):(bB prog w).is (.inl i) (.int i t)=true:=Gr i t
theorem zZ(prog:Program)(w:World)(x:Str)(t:Tok):(bB prog w).is (.inr x) (.str x t)=true:=Fq x t
inductive V where
 |bw|bl (b:Bool)|int (i:Int)|str (x:Str)|Hs (b:Array UInt8)|Pc (b:UInt64)|ref (a:Addr)|ty (n:String)
 deriving DecidableEq
def aC:V->Value->Prop
 |.bw,u=>u=Value.none
 |.bl b,u=>u=Value.bool b
 |.int i,u=>∃t,u=Value.int i t
 |.str x,u=>∃t,u=Value.str x t
 |.Hs b,u=>∃t,u=Value.bytes b t
 |.Pc b,u=>∃t,u=Value.float b t
 |.ref a,u=>u=Value.ref a
 |.ty n,u=>u=Value.type n
abbrev ax:List V->List Value->Prop:=Paired aC
theorem ax.length{xs:List V}{us:List Value}(r:ax xs us):xs.length=us.length:=Paired.length r
theorem ax.get:∀{xs:List V}{us:List Value}{i:Nat}{x:V},ax xs us->xs[i]? =some x->∃u,us[i]? =some u/\aC x u
 |_,_,_,_,.nil,e=>by simp at e
 |_,_,0,_,.cons r _,e=>by simp at e;subst e;exact ⟨_,rfl,r⟩
 |_,_,i+1,x,.cons _ t,e=>by obtain ⟨u,h1,h2⟩:=ax.get (i:=i) (x:=x) t (by simpa using e);exact ⟨u,by simpa using h1,h2⟩
theorem ax.set{x:V}{u:Value}(r:aC x u):∀{xs:List V}{us:List Value}(i:Nat),ax xs us->ax (xs.set i x) (us.set i u)
 |_,_,_,.nil=> .nil
 |_,_,0,.cons _ t=> .cons r t
 |_,_,i+1,.cons q t=> .cons q (ax.set r i t)
theorem ax.append:∀{xs ys:List V}{us ws:List Value},ax xs us->ax ys ws->ax (xs++ys) (us++ws)
 |_,_,_,_,.nil,s=>s
 |_,_,_,_,.cons r t,s=> .cons r (ax.append t s)
theorem ax.take:∀{xs:List V}{us:List Value}(n:Nat),ax xs us->ax (xs.take n) (us.take n)
 |_,_,0,_=> .nil
 |_,_,_+1,.nil=> .nil
 |_,_,n+1,.cons r t=> .cons r (ax.take n t)
theorem ax.drop:∀{xs:List V}{us:List Value}(n:Nat),ax xs us->ax (xs.drop n) (us.drop n)
 |_,_,0,r=>r
 |_,_,_+1,.nil=> .nil
 |_,_,n+1,.cons _ t=>ax.drop n t
def j3:Option V->Option Value->Prop
 |some v,some u=>aC v u
 |none,none=>True
 |_,_=>False
def KV{κ:Type}:List (κ×V)->List (κ×Value)->Prop:=Paired λ(p:κ×V) (q:κ×Value)=>p.1=q.1/\aC p.2 q.2
def kV:Key->V
 |.inl i=> .int i
 |.inr x=> .str x
inductive HO where
 |lst (xs:List V)
 |tup (xs:List V)
 |dK (Ο:List (Key×V))|dT (Ο:List (List Key×V))
 |set (S:Int->Bool) (n:Nat)
 |ins (C dx:Addr) (fs:List (Str×V))
 |own (x:Addr)
 |xd (fs:List (Str×V))
 |met (f x:Addr)
 |Xx (lo hi:Int)
 |yL (o:Obj) (u:HO)
 |NH (ps:Array Value)
 |ext (φ:Heap->Prop)
abbrev Hp:=Addr->Option HO
def upd(H:Hp)(a:Addr)(o:HO):Hp:=λb=>if b=a then some o else H b
theorem ao{H:Hp}{a:Addr}{o:HO}:upd H a o a=some o:=by unfold upd;rw [if_pos rfl]
theorem Κ{H:Hp}{a b:Addr}{o:HO}(h:b≠a):upd H a o b=H b:=by unfold upd;rw [if_neg h]
theorem Tf{H:Hp}{a b:Addr}{o u:HO}(h:H a=some o)(h':H b=some u)(d:o≠u):a≠b:=by intro e;subst e;rw [h] at h';exact d (aav h')
theorem bP{H:Hp}{a b:Addr}{o:HO}(h:H a=some o)(h':H b=none):a≠b:=by intro e;subst e;rw [h] at h';cases h'
section
variable(P:Program)(w:World)
def bT(H:Hp)(h:Heap)(a:Addr):HO->Prop
 |.lst xs=>xs.length<=sizeLine/\∃(its:List Value) (n:Nat),ax xs its/\h.get? a=some {cls:= .type "list",data:= .seq its.toArray n}
 |.tup xs=>xs.length<=sizeLine/\∃its:List Value,ax xs its/\IsTup h a its.toArray
 |.dK Ο=>Ο.length<=sizeLine/\(a==sysModules)=false/\∃vs,KV Ο vs/\h.DictOf (bB P w) a vs
 | .dT Ο=>Ο.length<=sizeLine/\(a==sysModules)=false/\∃xs:List (List Key×Addr×Value),
   Paired (λ(p:List Key×V) (q:List Key×Addr×Value)=>p.1=q.1/\H q.2.1=some (.tup (p.1.map kV))/\aC p.2 q.2.2) Ο xs/\
   ∃o es ep,h.get? a=some o/\o.ExactDict/\o.data= .dict es ep/\es.toList=xs.map (entryOfKey (tupleKind (bB P w)))/\(xs.map (·.1)).Nodup
 |.set S n=>h.SetOf (intKind P w) a S n
 | .ins C dx fs=>H dx=some (.own a)/\fs.length<=1000/\dx≠a/\h.get? a=some (PySem.W.instObj C dx)/\
   ∃mA,h.Ns1 dx mA/\(∀f,j3 (fs.lookup f) (mA f))/\PySem.Within mA (fs.map (·.1))
 |.own _=>∃o,h.get? a=some o
 |.xd fs=>∃mA,h.Ns1 a mA/\∀f,j3 (fs.lookup f) (mA f)
 |.Xx lo hi=>∃t u v,h.get? a=some {cls:= .type "range",data:= .fields #[.int lo t,.int hi u,.int 1 v]}
 |.yL o u=>h.get? a=some o/\bT H h a u
 |.NH ps=>h.get? a=some {cls:= .none,data:= .fields ps}
 |.met f x=>h.get? a=some (PySem.W.methodObj (.ref f) (.ref x))
 |.ext φ=>φ h/\(∃o,h.get? a=some o)/\∀h1 h2:Heap,φ h1->(∀o,h1.get? a=some o->h2.get? a=some o)->φ h2
def lE(H:Hp)(h:Heap):Prop:=∀a o,H a=some o->bT P w H h a o
end
section
variable{P:Program}{w:World}{H H':Hp}{h h':Heap}{a:Addr}{o:HO}
theorem bT.lt(x:bT P w H h a o):a<h.objs.size:=by
 cases o with
 |lst xs=>obtain ⟨_,_,_,_,e⟩:=x;exact Heap.lt_size e
 |tup xs=>obtain ⟨_,_,_,p⟩:=x;exact p.lt
 |dK Ο=>obtain ⟨_,_,_,_,o,_,_,e,_⟩:=x;exact Heap.lt_size e
 |dT Ο=>obtain ⟨_,_,_,_,o,_,_,e,_⟩:=x;exact Heap.lt_size e
 |set S n=>obtain ⟨o,_,_,_,e,_⟩:=x;exact Heap.lt_size e
 |ins C dx fs=>obtain ⟨_,_,_,e,_⟩:=x;exact Heap.lt_size e
 |own y=>obtain ⟨_,e⟩:=x;exact Heap.lt_size e
 |xd fs=>obtain ⟨_,⟨_,_,_,e,_⟩,_⟩:=x;exact Heap.lt_size e
 |Xx lo hi=>obtain ⟨_,_,_,e⟩:=x;exact Heap.lt_size e
 |yL ob u=>obtain ⟨e,_⟩:=x;exact Heap.lt_size e
 |NH ps=>exact Heap.lt_size (show h.get? a=some _ from x)
 |met f y=>exact Heap.lt_size (show h.get? a=some _ from x)
 |ext φ=>obtain ⟨_,⟨_,e⟩,_⟩:=x;exact Heap.lt_size e
theorem Paired.Qn{α β:Type}{F G:α->β->Prop}:∀{l₁:List α}{l₂:List β},Paired F l₁ l₂->(∀a b,F a b->G a b)->Paired G l₁ l₂
 |_,_,.nil,_=> .nil
 |_,_,.cons r t,f=> .cons (f _ _ r) (Paired.Qn t f)
theorem bT.Bu(x:bT P w H h a o)(k:∀b u,(b=a\/H b=some (.own a))->h.get? b=some u->h'.get? b=some u)
  (ho:∀b,H b=some (.own a)->H' b=some (.own a)) (ht:∀b xs,H b=some (.tup xs)->H' b=some (.tup xs)):bT P w H' h' a o:=by
 induction o with
 |lst xs=>obtain ⟨z,its,n,r,e⟩:=x;exact ⟨z,its,n,r,k _ _ (.inl rfl) e⟩
 |tup xs=>obtain ⟨z,its,r,ob,e,c⟩:=x;exact ⟨z,its,r,ob,k _ _ (.inl rfl) e,c⟩
 |dK Ο=>obtain ⟨z,y,vs,r,ob,es,ep,e,c⟩:=x;exact ⟨z,y,vs,r,ob,es,ep,k _ _ (.inl rfl) e,c⟩
 |dT Ο=>
  obtain ⟨z,y,xs,r,ob,es,ep,e,c⟩:=x;exact ⟨z,y,xs,Paired.Qn r λp q z=>⟨z.1,ht _ _ z.2.1,z.2.2⟩,ob,es,ep,k _ _ (.inl rfl) e,c⟩
 |set S n=>obtain ⟨ob,es,ep,t,e,c⟩:=x;exact ⟨ob,es,ep,t,k _ _ (.inl rfl) e,c⟩
 |ins C dx fs=>
  obtain ⟨d,z,ne,e,mA,⟨od,es,ep,e2,c⟩,r⟩:=x;exact ⟨ho _ d,z,ne,k _ _ (.inl rfl) e,mA,⟨od,es,ep,k _ _ (.inr d) e2,c⟩,r⟩
 |own y=>obtain ⟨ob,e⟩:=x;exact ⟨ob,k _ _ (.inl rfl) e⟩
 |xd fs=>obtain ⟨mA,⟨od,es,ep,e,c⟩,r⟩:=x;exact ⟨mA,⟨od,es,ep,k _ _ (.inl rfl) e,c⟩,r⟩
 |Xx lo hi=>obtain ⟨t,u,v,e⟩:=x;exact ⟨t,u,v,k _ _ (.inl rfl) e⟩
 |yL ob u ih=>obtain ⟨e,q⟩:=x;exact ⟨k _ _ (.inl rfl) e,ih q⟩
 |NH ps=>
  have e:h.get? a=some {cls:= .none,data:= .fields ps}:=x;show h'.get? a=some {cls:= .none,data:= .fields ps};exact k a _ (.inl rfl) e
 |met f y=>
  have e:h.get? a=some (PySem.W.methodObj (.ref f) (.ref y)):=x;show h'.get? a=some (PySem.W.methodObj (.ref f) (.ref y));exact k a _ (.inl rfl) e
 |ext φ=>obtain ⟨p,⟨o,e⟩,st⟩:=x;exact ⟨st _ _ p λo q=>k _ _ (.inl rfl) q,⟨o,k _ _ (.inl rfl) e⟩,st⟩
theorem lE.lt(x:lE P w H h)(e:H a=some o):a<h.objs.size:=(x a o e).lt
theorem lE.fresh(x:lE P w H h)(e:h.objs.size<=a):H a=none:=by
 cases q:H a with
 |none=>rfl
 |some u=>exact absurd (aat (x.lt q) e) (abq _)
theorem lE.kept(x:lE P w H h)(k:∀b u,h.get? b=some u->h'.get? b=some u):lE P w H h':=λa o e=>
 (x a o e).Bu (λb u _ q=>k b u q) (λ_ q=>q) λ_ _ q=>q
theorem lE.laid(x:lE P w H h)(k:∀b u,h.get? b=some u->h'.get? b=some u)(hp:h.objs.size<=a)(new:bT P w (upd H a o) h' a o):lE P w (upd H a o) h':=λb u e=>by
 have hn:=x.fresh hp;by_cases hb:b=a
 ·subst hb;rw [ao] at e;cases e;exact new
 ·rw [Κ hb] at e;exact (x b u e).Bu (λc v _ q=>k c v q) (λc q=>by rw [Κ (bP q hn)];exact q) λc xs q=>by rw [Κ (bP q hn)];exact q
end
def Rd(H:Hp)(a:Addr)(u:HO):Prop:=H a=some u\/∃o,H a=some (.yL o u)
theorem Rd.ok{P:Program}{w:World}{H:Hp}{h:Heap}{a:Addr}{u:HO}(r:Rd H a u)(x:lE P w H h):bT P w H h a u:=by
 rcases r with r|⟨o,r⟩
 ·exact x a u r
 ·obtain ⟨_,q⟩:=x a _ r;exact q
def RD:Option HO->Prop
 |some (.lst _)=>True
 |some (.dK _)=>True
 |some (.dT _)=>True
 |some (.set _ _)=>True
 |some (.ins _ _ _)=>True
 |some (.ext _)=>True
 |_=>False
section
variable{P:Program}{w:World}{H:Hp}{h h':Heap}{x e:Addr}{o':HO}
theorem lE.write(ok:lE P w H h)(mu:RD (H x))(he:e=x\/H e=some (.own x))(k:∀b u,b≠e->h.get? b=some u->h'.get? b=some u)(RA:∃u,h'.get? e=some u)
  (new:bT P w (upd H x o') h' x o'):lE P w (upd H x o') h':=λb u q=>by
 have R8:∀c y,H c=some (.own y)->c≠x:=λc y r z=>by subst z;rw [r] at mu;exact mu
 have YC:∀c xs,H c=some (.tup xs)->c≠x:=λc xs r z=>by subst z;rw [r] at mu;exact mu
 by_cases hb:b=x
 ·subst hb;rw [ao] at q;cases q;exact new
 ·rw [Κ hb] at q;by_cases Qm:b=e
  ·have q':H b=some (.own x):=by
    rcases he with z|z
    ·exact absurd (Qm.trans z) hb
    ·rw [Qm];exact z
   rw [q] at q';cases q';obtain ⟨v,hv⟩:=RA;exact ⟨v,by rw [Qm];exact hv⟩
  ·refine (ok b u q).Bu (λc v hc r=>k c v ?_ r) (λc r=>by rw [Κ (R8 c b r)];exact r) λc xs r=>by rw [Κ (YC c xs r)];exact r
   rcases hc with rfl|hc
   ·exact Qm
   ·rintro rfl;rcases he with z|z
    ·exact R8 c b hc z
    ·rw [hc] at z;cases z;exact hb rfl
end
structure Un(fs ex:List Addr)(H H':Hp)(h h':Heap):Prop where
 keep:∀b o,h.get? b=some o->H b=none->b∉fs->b∉ex->h'.get? b=some o
 slot:∀b o,h.get? b=some o->H b=none->b∈fs->b∉ex->∃sl,h'.get? b=some {o with slots:=sl}
 free:∀b o,h.get? b=some o->H b=none->b∉ex->H' b=none
 there:∀b o,h.get? b=some o->b∉ex->∃o',h'.get? b=some o'
 qv:∀b xs,H b=some (.tup xs)->H' b=some (.tup xs)
 oW:∀b o u,H b=some (.yL o u)->H' b=some (.yL o u)
 qx:∀b ps,H b=some (.NH ps)->∃more,H' b=some (.NH (ps++more))
section
variable{fs Yp ex ex':List Addr}{H H1 H2:Hp}{h h1 h2 h':Heap}{a x e:Addr}{o:HO}
theorem Un.any(u:Un fs ex H H1 h h1){b:Addr}{ob:Obj}(q:h.get? b=some ob)(n:H b=none)(hx:b∉ex):∃sl,h1.get? b=some {ob with slots:=sl}:=by
 by_cases hb:b∈fs
 ·exact u.slot b ob q n hb hx
 ·exact ⟨ob.slots,u.keep b ob q n hb hx⟩
theorem Un.kept(k:∀b u,h.get? b=some u->h'.get? b=some u):Un fs ex H H h h':=
 ⟨λb ob q _ _ _=>k b ob q,λb ob q _ _ _=>⟨ob.slots,k b ob q⟩,λ_ _ _ n _=>n,λb ob q _=>⟨ob,k b ob q⟩,λ_ _ q=>q,λ_ _ _ q=>q,λ_ ps q=>⟨#[],by rw [q];simp⟩⟩
theorem Un.refl:Un fs ex H H h h:=Un.kept λ_ _ q=>q
theorem Un.laid(k:∀b u,h.get? b=some u->h'.get? b=some u)(hp:h.objs.size<=a)(hn:H a=none):Un fs ex H (upd H a o) h h' where
 keep:=λb u q _ _ _=>k b u q
 slot:=λb u q _ _ _=>⟨u.slots,k b u q⟩
 free:=λb u q n _=>by rw [Κ (aaI (aat (Heap.lt_size q) hp))];exact n
 there:=λb u q _=>⟨u,k b u q⟩
 qv:=λb xs q=>by rw [Κ (bP q hn)];exact q
 oW:=λb u xs q=>by rw [Κ (bP q hn)];exact q
 qx:=λb ps q=>⟨#[],by rw [Κ (bP q hn),q];simp⟩
theorem Un.write(mu:RD (H x))(he:e=x\/H e=some (.own x))(k:∀b u,b≠e->h.get? b=some u->h'.get? b=some u)(RA:∃u,h'.get? e=some u):Un fs ex H (upd H x o) h h':=by
 have hx:∀b,H b=none->b≠x:=λb n z=>by subst z;rw [n] at mu;exact mu
 have hb:∀b,H b=none->b≠e:=λb n z=>by
  subst z;rcases he with r|r
  ·exact hx b n r
  ·rw [n] at r;cases r
 have hm:∀b u,H b=some u->¬RD (some u)->b≠x:=λb u q nm z=>by subst z;rw [q] at mu;exact nm mu
 refine ⟨λb u q n _ _=>k b u (hb b n) q,λb u q n _ _=>⟨u.slots,k b u (hb b n) q⟩,λb u q n _=>by rw [Κ (hx b n)];exact n,λb u q _=>?_,
  λb xs q=>by rw [Κ (hm b _ q λz=>z)];exact q,λb u xs q=>by rw [Κ (hm b _ q λz=>z)];exact q,λb ps q=>⟨#[],by rw [Κ (hm b _ q λz=>z),q];simp⟩⟩
 by_cases Qm:b=e
 ·subst Qm;exact RA
 ·exact ⟨u,k b u Qm q⟩
end
def VL(h:Heap)(H:Hp):List Addr:=(List.range h.objs.size).filter λa=>(H a).isSome
def yv(h:Heap)(H:Hp):Heap:=PySem.W.hideAll h (VL h H)
theorem GQ(h:Heap)(H:Hp):(yv h H).objs.size=h.objs.size:=PySem.W.hideAll_size _ _
theorem JD{h:Heap}{H:Hp}{b:Addr}{o:Obj}(e:h.get? b=some o)(n:H b=none):(yv h H).get? b=some o:=
 PySem.W.hideAll_get _ e λhm=>by have q:(H b).isSome=true:=(List.mem_filter.mp hm).2;rw [n] at q;simp at q
theorem LX{h:Heap}{H:Hp}{b:Addr}{o:Obj}(e:(yv h H).get? b=some o):h.get? b=some o/\H b=none:=by
 have e':h.get? b=some o:=PySem.W.of_hideAll (VL h H) e;refine ⟨e',?_⟩;cases q:H b with
 |none=>rfl
 |some x=>
  have hm:b∈VL h H:=List.mem_filter.mpr ⟨List.mem_range.mpr (Heap.lt_size e'),by simp [q]⟩;have z:(yv h H).get? b=none:=PySem.W.hideAll_none (VL h H) hm;rw [z] at e;cases e
structure Mod(K:fI)(mg:Str->Option Value)(base:Heap):Prop where
 S6:K.In base
 glob:base.Ns mainGlobals mg
 blt:∃mb,base.Ns builtinsNs mb/\∀x:Str,x≠"__name__"->mb x=bootBuiltins x
 nolimit:base.NoLimit
structure Cx where
 prog:Program
 w:World
 K:fI
 mg:Str->Option Value
 base:Heap
 A:Around
 N:List Str
 s₀:Shared
 H₀:Hp
 env:Env
 outer:List Env
 stack:List Env
 ex:List Addr
 fn:Str->Bool
 calm:Bool
 pn:List (Addr×Obj)
 xe:Value->Shared->Prop
def qB(l:List Env):List Addr:=l.filterMap (·.frame)
abbrev Cx.fs(X:Cx):List Addr:=qB X.outer
def Yz(sc:Scope)(x:Str):Prop:=sc.names.lookup x=some .local\/sc.names.lookup x=some .cell\/sc.names.lookup x=some .free
def Loc(sc:Scope)(x:Str):Prop:=sc.names.lookup x=some .local\/sc.names.lookup x=some .cell
def Zw(env:Env)(h:Heap)(m:Str->Option Value)(x:Str)(u:Value):Prop:=
 (env.kindOf x=some .local/\m x=some u)\/((env.kindOf x=some .cell\/env.kindOf x=some .free)/\∃c,env.cells.lookup x=some c/\h.IsCell c (some u))
structure Cx.Ok(X:Cx):Prop where
 mod:Mod X.K X.mg X.base
 kind:X.env.scope.kind= .function
 glob:X.env.globals=mainGlobals
 blt:X.env.builtins=builtinsNs
 above:X.s₀.heap.objs.size<=X.env.locals
 inj:∀x y c,X.env.cells.lookup x=some c->X.env.cells.lookup y=some c->x=y
 has:∀x,(X.env.kindOf x=some .cell\/X.env.kindOf x=some .free)->∃c,X.env.cells.lookup x=some c
 Xi:∀x c,X.fn x=true->X.env.cells.lookup x=some c->X.s₀.heap.objs.size<=c
 hd:X.calm=true->X.A.handled=none
 frames:X.A.frames=some X.stack
 ZQ:X.stack=X.outer\/(X.stack=X.env::X.outer/\X.env.frame=some X.env.locals)
 Z':∀b∈X.ex,b≠X.env.locals/\∀x c,X.env.cells.lookup x=some c->c≠b
 bs:∀b o,X.base.get? b=some o->X.s₀.heap.get? b=some o/\X.H₀ b=none
 lA:X.base.objs.size<=X.s₀.heap.objs.size
 Rk:∀b o,X.base.get? b=some o->b∉X.ex
 Rp:∀b∈X.ex,b∉X.fs
 ux:X.s₀.heap.FunFrames X.base X.outer
 S2:∀b∈X.fs,X.H₀ b=none
structure Inv(X:Cx)(ζ:List (Addr×Obj))(σ:List (Option V))(H:Hp)(s:Shared):Prop where
 ok:X.Ok
 os:s.os=X.s₀.os
 bare:AllBare s.gens
 base:Un X.fs X.ex X.H₀ H X.s₀.heap s.heap
 loc:∃m,s.heap.Ns X.env.locals m/\∀(i:Nat) (x:Str) (v:V),X.N[i]? =some x->σ[i]? =some (some v)->Yz X.env.scope x->∃u,aC v u/\Zw X.env s.heap m x u
 cell:∀x c,X.env.cells.lookup x=some c->∃v,s.heap.IsCell c v
 free:H X.env.locals=none
 pZ:∀x c,X.env.cells.lookup x=some c->H c=none
 pin:∀p∈X.pn++ζ,s.heap.get? p.1=some p.2/\H p.1=none/\p.1≠X.env.locals/\p.1∉X.fs/\∀v,p.2.data≠ .cell v
 aY:lE X.prog X.w H s.heap
 len:σ.length=X.N.length
section
variable{X:Cx}{ζ:List (Addr×Obj)}{σ:List (Option V)}{H H':Hp}{s:Shared}{h':Heap}
theorem Cx.Ok.Xr(ok:X.Ok){b:Addr}{o:Obj}(e:X.base.get? b=some o):b∉X.fs:=λhb=>by have:=(ok.ux.mem hb).1;rw [e] at this;cases this
theorem Inv.bs(I:Inv X ζ σ H s):∀b o,X.base.get? b=some o->s.heap.get? b=some o/\H b=none:=λb o e=>
 ⟨I.base.keep b o (I.ok.bs b o e).1 (I.ok.bs b o e).2 (I.ok.Xr e) (I.ok.Rk b o e),I.base.free b o (I.ok.bs b o e).1 (I.ok.bs b o e).2 (I.ok.Rk b o e)⟩
theorem Inv.bk(I:Inv X ζ σ H s):∀b o,X.base.get? b=some o->s.heap.get? b=some o:=λb o e=>(I.bs b o e).1
theorem Inv.mod(I:Inv X ζ σ H s):Mod X.K X.mg X.base:=I.ok.mod
theorem Inv.qp(I:Inv X ζ σ H s):X.K.In s.heap:=I.ok.mod.S6.keeps I.bk
theorem Inv.lt(I:Inv X ζ σ H s):X.env.locals<s.heap.objs.size:=let ⟨_,hn,_⟩:=I.loc;hn.lt
theorem Inv.sz(I:Inv X ζ σ H s):X.s₀.heap.objs.size<=s.heap.objs.size:=aap I.ok.above (Nat.le_of_lt I.lt)
theorem Inv.Wx(I:Inv X ζ σ H s){a:Addr}(h:s.heap.objs.size<=a):a∉X.fs:=λhb=>by obtain ⟨_,o,ho,_⟩:=I.ok.ux.mem hb;exact absurd (aat (Heap.lt_size ho) (aap I.sz h)) (abq _)
theorem Inv.Mo(I:Inv X ζ σ H s):∀x c,X.env.cells.lookup x=some c->c≠X.env.locals:=λx c e z=>by obtain ⟨v,o,ho,hd⟩:=I.cell x c e;obtain ⟨m,⟨o',es,ep,FK,wD,_⟩,_⟩:=I.loc;rw [z,FK] at ho;cases ho;rw [wD] at hd;cases hd
theorem Inv.ux(I:Inv X ζ σ H s):s.heap.FunFrames X.base X.outer:=by
 have all:∀(l:List Env),(∀b∈qB l,b∈X.fs)->X.s₀.heap.FunFrames X.base l->s.heap.FunFrames X.base l:=by
  intro l
  induction l with
  |nil=>intro _ _;trivial
  |cons env r ih=>
   intro hs hl;obtain ⟨hk,⟨L,o,hf,hn,ho,hd⟩,hr⟩:=hl;have hL:L∈X.fs:=hs L (by unfold qB;rw [List.filterMap_cons,hf];exact List.mem_cons_self);obtain ⟨sl,e⟩:=I.base.slot L o ho (I.ok.S2 L hL) hL λz=>I.ok.Rp L z hL;exact ⟨hk,⟨L,_,hf,hn,e,hd⟩,ih (λb hb=>hs b (by unfold qB;rw [List.filterMap_cons,hf];exact List.mem_cons_of_mem _ hb)) hr⟩
 exact all X.outer (λ_ hb=>hb) I.ok.ux
theorem Inv.stack(I:Inv X ζ σ H s):s.heap.FunFrames X.base X.stack:=by
 rcases I.ok.ZQ with e|⟨e,hf⟩
 ·rw [e];exact I.ux
 ·rw [e];obtain ⟨m,hn,_⟩:=I.loc;refine .cons (by rw [I.ok.kind];decide) hf hn ?_ I.ux;exact Heap.get?_none_of_le (aap I.ok.lA I.ok.above)
theorem Inv.xg(I:Inv X ζ σ H s):∀b∈qB X.stack,b∈X.env.locals::X.fs:=λb hb=>by
 rcases I.ok.ZQ with e|⟨e,hf⟩
 ·rw [e] at hb;exact aad _ hb
 ·rw [e] at hb;unfold qB at hb;rw [abY,hf] at hb;exact hb
theorem Inv.x_(I:Inv X ζ σ H s):∀b∈qB X.stack,H b=none:=λb hb=>by
 rcases aaC.mp (I.xg b hb) with e|hb
 ·rw [e];exact I.free
 ·obtain ⟨_,o,ho,_⟩:=I.ok.ux.mem hb;exact I.base.free b o ho (I.ok.S2 b hb) λz=>I.ok.Rp b z hb
theorem Inv.step{g':Array GenState}{t':Nat}{d':Drawn}{ch:List Addr}(I:Inv X ζ σ H s)
  (A':∀b∈ch,(b∈X.ex\/X.s₀.heap.objs.size<=b)/\b≠X.env.locals/\(∀x c,X.env.cells.lookup x=some c->c≠b)/\∀p∈X.pn++ζ,p.1≠b)
  (keep:∀b o,b≠X.env.locals->b∉X.fs->b∉ch->s.heap.get? b=some o->H b=none->h'.get? b=some o)
  (slot:∀b o,b≠X.env.locals->b∈X.fs->b∉ch->s.heap.get? b=some o->H b=none->∃sl,h'.get? b=some {o with slots:=sl}) (free:∀b o,b∉ch->s.heap.get? b=some o->H b=none->H' b=none)
  (there:∀b o,b∉ch->s.heap.get? b=some o->∃o',h'.get? b=some o')
  (qv:∀b xs,H b=some (.tup xs)->H' b=some (.tup xs)) (oW:∀b o u,H b=some (.yL o u)->H' b=some (.yL o u)) (qx:∀b ps,H b=some (.NH ps)->∃more,H' b=some (.NH (ps++more)))
  (ns:∀m,s.heap.Ns X.env.locals m->h'.Ns X.env.locals m) (aY:lE X.prog X.w H' h') (hg:AllBare g'):
  Inv X ζ σ H' {s with heap:=h',gens:=g',drawn:=d',toks:=t'}:=by
 have ZL:∀b o,X.s₀.heap.get? b=some o->b≠X.env.locals:=λb o e=>aaI (aat (Heap.lt_size e) I.ok.above);have Vr:∀b o,X.s₀.heap.get? b=some o->b∉X.ex->b∉ch:=λb o e hx hb=>by
  rcases (A' b hb).1 with z|z
  ·exact hx z
  ·exact absurd (aat (Heap.lt_size e) z) (abq _)
 have cellK:∀x c,X.env.cells.lookup x=some c->∀v,s.heap.IsCell c v->h'.IsCell c v:=λx c e v ⟨o,ho,hd⟩=>by
  have Tz:c∉ch:=λz=>(A' c z).2.2.1 x c e rfl;by_cases hc:c∈X.fs
  ·obtain ⟨sl,q⟩:=slot c o (I.Mo x c e) hc Tz ho (I.pZ x c e);exact ⟨_,q,hd⟩
  ·exact ⟨o,keep c o (I.Mo x c e) hc Tz ho (I.pZ x c e),hd⟩
 refine ⟨I.ok,I.os,hg,⟨λb o e n hb hx=>?_,λb o e n hb hx=>?_,λb o e n hx=>?_,λb o e hx=>?_,λb xs e=>qv b xs (I.base.qv b xs e),λb o xs e=>oW b o xs (I.base.oW b o xs e),λb ps e=>?_⟩,?_,λx c e=>?_,?_,λx c e=>?_,λp hp=>?_,aY,I.len⟩
 ·exact keep b o (ZL b o e) hb (Vr b o e hx) (I.base.keep b o e n hb hx) (I.base.free b o e n hx)
 ·obtain ⟨sl,e1⟩:=I.base.slot b o e n hb hx;obtain ⟨sl',e2⟩:=slot b _ (ZL b o e) hb (Vr b o e hx) e1 (I.base.free b o e n hx);exact ⟨sl',e2⟩
 ·obtain ⟨o',e1⟩:=I.base.there b o e hx;exact free b o' (Vr b o e hx) e1 (I.base.free b o e n hx)
 ·obtain ⟨o',e1⟩:=I.base.there b o e hx;exact there b o' (Vr b o e hx) e1
 ·obtain ⟨m1,e1⟩:=I.base.qx b ps e;obtain ⟨m2,e2⟩:=qx b _ e1;exact ⟨m1++m2,by rw [e2,Array.append_assoc]⟩
 ·obtain ⟨m,hn,hl⟩:=I.loc;refine ⟨m,ns m hn,λi x v e1 e2 e3=>?_⟩;obtain ⟨u,r,l⟩:=hl i x v e1 e2 e3;refine ⟨u,r,?_⟩;rcases l with l|⟨k,c,e,z⟩
  ·exact .inl l
  ·exact .inr ⟨k,c,e,cellK x c e _ z⟩
 ·obtain ⟨v,z⟩:=I.cell x c e;exact ⟨v,cellK x c e v z⟩
 ·obtain ⟨m,⟨o,_,_,ho,_⟩,_⟩:=I.loc;exact free _ o (λz=>(A' _ z).2.1 rfl) ho I.free
 ·obtain ⟨v,o,ho,hd⟩:=I.cell x c e;exact free c o (λz=>(A' c z).2.2.1 x c e rfl) ho (I.pZ x c e)
 ·obtain ⟨e,n,ne,nf,d⟩:=I.pin p hp;have Tz:p.1∉ch:=λz=>(A' p.1 z).2.2.2 p hp rfl;exact ⟨keep p.1 p.2 ne nf Tz e n,free p.1 p.2 Tz e n,ne,nf,d⟩
theorem Inv.un{t':Nat}(I:Inv X ζ σ H s)(u:Un X.fs [] H H' s.heap h')(aY:lE X.prog X.w H' h'):Inv X ζ σ H' {s with heap:=h',toks:=t'}:=by
 obtain ⟨m,⟨o,es,ep,ho,r⟩,_⟩:=id I.loc;obtain ⟨sl,hL⟩:=u.any ho I.free (by simp)
 exact I.step (g':=s.gens) (d':=s.drawn) (ch:=[]) (λ_ z=>nomatch z) (λb o _ hb _ e n=>u.keep b o e n hb (by simp)) (λb o _ hb _ e n=>u.slot b o e n hb (by simp)) (λb o _ e n=>u.free b o e n (by simp)) (λb o _ e=>u.there b o e (by simp)) u.qv u.oW u.qx (λm' hm=>by
  obtain ⟨o',Y4,Yd,FK,r'⟩:=hm;rw [ho] at FK;cases FK
  exact ⟨_,Y4,Yd,hL,r'⟩) aY I.bare
theorem Inv.call{g':Array GenState}{t':Nat}{d':Drawn}{ch:List Addr}(I:Inv X ζ σ H s)(u:Un (qB X.stack) ch H H' s.heap h')(aY:lE X.prog X.w H' h')(hg:AllBare g')
  (A':∀b∈ch,(b∈X.ex\/X.s₀.heap.objs.size<=b)/\b≠X.env.locals/\(∀x c,X.env.cells.lookup x=some c->c≠b)/\∀p∈X.pn++ζ,p.1≠b):
  Inv X ζ σ H' {s with heap:=h',gens:=g',drawn:=d',toks:=t'}:=by
 obtain ⟨m,⟨o,es,ep,ho,r⟩,_⟩:=id I.loc;obtain ⟨sl,hL⟩:=u.any ho I.free λz=>(A' _ z).2.1 rfl
 exact I.step (ch:=ch) A' (λb o hL hb hc e n=>u.keep b o e n (λz=>(aaC.mp (I.xg b z)).elim hL hb) hc) (λb o _ _ hc e n=>u.any e n hc) (λb o hc e n=>u.free b o e n hc) (λb o hc e=>u.there b o e hc) u.qv u.oW u.qx (λm' hm=>by
  obtain ⟨o',Y4,Yd,FK,r'⟩:=hm;rw [ho] at FK;cases FK
  exact ⟨_,Y4,Yd,hL,r'⟩) aY hg
theorem Inv.turned{t':Nat}{it:Addr}(I:Inv X ζ σ H s)(k:∀b o,b≠it->s.heap.get? b=some o->h'.get? b=some o)(hn:H it=none)(hL:it≠X.env.locals)
  (h1:it∈X.ex\/X.s₀.heap.objs.size<=it) (h2:∀x c,X.env.cells.lookup x=some c->c≠it) (h3:∀p∈X.pn++ζ,p.1≠it):Inv X ζ σ H {s with heap:=h',toks:=t'}:=by
 have Z1:∀b u,H b=some u->b≠it:=λb u e z=>by rw [z,hn] at e;cases e
 refine I.step (g':=s.gens) (d':=s.drawn) (ch:=[it]) (λb hb=>?_) (λb o _ _ hc e _=>k b o (λz=>hc (by simp [z])) e) (λb o _ _ hc e _=>⟨o.slots,k b o (λz=>hc (by simp [z])) e⟩) (λ_ _ _ _ n=>n)
  (λb o hc e=>⟨o,k b o (λz=>hc (by simp [z])) e⟩) (λ_ _ e=>e) (λ_ _ _ e=>e) (λb ps e=>⟨#[],by rw [e];simp⟩) (λm hm=>?_) (λb u e=>?_) I.bare
 ·have e:b=it:=by simpa using hb
  subst e;exact ⟨h1,hL,h2,h3⟩
 ·obtain ⟨o,es,ep,ho,r⟩:=hm;exact ⟨o,es,ep,k _ o (Ne.symm hL) ho,r⟩
 ·refine (I.aY b u e).Bu (λc v hc q=>k c v ?_ q) (λ_ q=>q) λ_ _ q=>q;rcases hc with z|z
  ·rw [z];exact Z1 b u e
  ·exact Z1 c _ z
theorem Inv.tok(I:Inv X ζ σ H s)(t:Nat):Inv X ζ σ H {s with toks:=t}:=I.un (h':=s.heap) (t':=t) Un.refl I.aY
theorem Inv.kept{t':Nat}(I:Inv X ζ σ H s)(k:∀b u,s.heap.get? b=some u->h'.get? b=some u):Inv X ζ σ H {s with heap:=h',toks:=t'}:=I.un (Un.kept k) (I.aY.kept k)
theorem Inv.laid{a:Addr}{o:HO}{t':Nat}(I:Inv X ζ σ H s)(k:∀b u,s.heap.get? b=some u->h'.get? b=some u)(hp:s.heap.objs.size<=a)(new:bT X.prog X.w (upd H a o) h' a o):
  Inv X ζ σ (upd H a o) {s with heap:=h',toks:=t'}:=I.un (Un.laid k hp (I.aY.fresh hp)) (I.aY.laid k hp new)
theorem Inv.write{x e:Addr}{o:HO}{t':Nat}(I:Inv X ζ σ H s)(mu:RD (H x))(he:e=x\/H e=some (.own x))(k:∀b u,b≠e->s.heap.get? b=some u->h'.get? b=some u)(RA:∃u,h'.get? e=some u)
  (new:bT X.prog X.w (upd H x o) h' x o):Inv X ζ σ (upd H x o) {s with heap:=h',toks:=t'}:=I.un (Un.write mu he k RA) (I.aY.write mu he k RA new)
theorem Inv.D_{NY:List (Addr×Obj)}(I:Inv X ζ σ H s)(h:∀p∈NY,s.heap.get? p.1=some p.2/\H p.1=none/\p.1≠X.env.locals/\p.1∉X.fs/\∀v,p.2.data≠ .cell v):Inv X NY σ H s:=
 ⟨I.ok,I.os,I.bare,I.base,I.loc,I.cell,I.free,I.pZ,λp hp=>(aaP.mp hp).elim (λz=>I.pin p (List.mem_append_left _ z)) (h p),I.aY,I.len⟩
theorem AR{N:List Str}(hN:N.Nodup){i j:Nat}{x:Str}(a:N[i]? =some x)(b:N[j]? =some x):i=j:=by obtain ⟨h1,e1⟩:=aaf.mp a;obtain ⟨h2,e2⟩:=aaf.mp b;exact (List.getElem_inj hN).mp (e1.trans e2.symm)
theorem uY{M:Model}{A:Around}{E:Value->Shared->Prop}{i:Nat}{x:Str}{v:V}{u:Value}{Q:Unit->Shared->Prop}(I:Inv X ζ σ H s)(hN:X.N.Nodup)(hi:X.N[i]? =some x)(hx:Loc X.env.scope x)(r:aC v u)
  (h:∀s',Inv X ζ (σ.set i (some v)) H s'->(∃a,Heap.SameBut a s.heap s'.heap/\(a=X.env.locals\/X.env.cells.lookup x=some a))->Q () s') (hf:X.fn x=true\/X.env.scope.names.lookup x=some .local:=by first|exact .inl rfl|exact .inr rfl|assumption):wpAny M A (storeName X.env x u) Q E s:=by
 obtain ⟨m,hn,hl⟩:=id I.loc;have YH:(X.env.scope.kind== .class || (X.env.scope.kind== .module&&X.env.locals != X.env.globals))=false:=by rw [I.ok.kind];rfl
 have Tg:i<σ.length:=by rw [I.len];exact (aaf.mp hi).1
 have Mo:=I.Mo;have tracked:∀{a:Addr} {h':Heap},(∃o,s.heap.get? a=some o/\H a=none)->Heap.SameBut a s.heap h'->lE X.prog X.w H h':=λ{a h'} ha hs b ob e=>by
  obtain ⟨_,_,Oi⟩:=ha;refine (I.aY b ob e).Bu (λc w' hc q=>(hs.2 c ?_).trans q) (λ_ q=>q) λ_ _ q=>q;rintro rfl;rcases hc with rfl|hc
  ·rw [Oi] at e;cases e
  ·rw [Oi] at hc;cases hc
 rcases hx with hk|hk
 ·refine wpAny_storeName_local hk hn (λh' Uv hs=>?_) YH;obtain ⟨oL,_,_,hoL,_⟩:=id hn;refine h _ ⟨I.ok,I.os,I.bare,⟨λb o e n hb hx=>?_,λb o e n hb hx=>?_,I.base.free,λb o e hx=>?_,I.base.qv,I.base.oW,I.base.qx⟩,⟨_,Uv,λj y v' e1 e2 e3=>?_⟩,λy c e=>?_,I.free,I.pZ,λp hp=>?_,tracked ⟨oL,hoL,I.free⟩ hs,by simpa using I.len⟩ ⟨_,hs,.inl rfl⟩
  ·exact (hs.2 b (aaI (aat (Heap.lt_size e) I.ok.above))).trans (I.base.keep b o e n hb hx)
  ·obtain ⟨sl,e1⟩:=I.base.slot b o e n hb hx;exact ⟨sl,(hs.2 b (aaI (aat (Heap.lt_size e) I.ok.above))).trans e1⟩
  ·obtain ⟨o',e1⟩:=I.base.there b o e hx;exact ⟨o',(hs.2 b (aaI (aat (Heap.lt_size e) I.ok.above))).trans e1⟩
  ·by_cases hj:j=i
   ·subst hj;rw [hi] at e1;cases e1;rw [aa3 Tg] at e2;cases e2;exact ⟨u,r,.inl ⟨hk,by simp⟩⟩
   ·rw [abw (Ne.symm hj)] at e2;obtain ⟨u',r',q⟩:=hl j y v' e1 e2 e3;refine ⟨u',r',?_⟩;rcases q with ⟨k,e⟩|⟨k,c,e,z⟩
    ·refine .inl ⟨k,?_⟩;have:y≠x:=λe=>hj (AR hN e1 (e▸hi));simp [this,e]
    ·exact .inr ⟨k,c,e,z.sameBut hs (Mo y c e)⟩
  ·obtain ⟨w',z⟩:=I.cell y c e;exact ⟨w',z.sameBut hs (Mo y c e)⟩
  ·obtain ⟨e,n,ne,nf,d⟩:=I.pin p hp;exact ⟨(hs.2 p.1 ne).trans e,n,ne,nf,d⟩
 ·have YW:X.fn x=true:=by
   rcases hf with z|z
   ·exact z
   ·rw [z] at hk;cases hk
  obtain ⟨c,hc⟩:=I.ok.has x (.inl hk);obtain ⟨w',z⟩:=I.cell x c hc;refine wpAny_storeName_cell I.ok.kind hk hc z (λh' zG hs=>?_);obtain ⟨oc,hoc,Zc⟩:=id z;refine h {s with heap:=h'} ⟨I.ok,I.os,I.bare,⟨λb o e n hb hx=>?_,λb o e n hb hx=>?_,I.base.free,λb o e hx=>?_,I.base.qv,I.base.oW,I.base.qx⟩,⟨m,hn.sameBut hs (Ne.symm (Mo x c hc)),λj y v' e1 e2 e3=>?_⟩,λy c' e=>?_,I.free,I.pZ,λp hp=>?_,tracked ⟨oc,hoc,I.pZ x c hc⟩ hs,by simpa using I.len⟩ ⟨c,hs,.inr hc⟩
  ·exact (hs.2 b (aaI (aat (Heap.lt_size e) (I.ok.Xi x c YW hc)))).trans (I.base.keep b o e n hb hx)
  ·obtain ⟨sl,e1⟩:=I.base.slot b o e n hb hx;exact ⟨sl,(hs.2 b (aaI (aat (Heap.lt_size e) (I.ok.Xi x c YW hc)))).trans e1⟩
  ·obtain ⟨o',e1⟩:=I.base.there b o e hx;exact ⟨o',(hs.2 b (aaI (aat (Heap.lt_size e) (I.ok.Xi x c YW hc)))).trans e1⟩
  ·by_cases hj:j=i
   ·subst hj;rw [hi] at e1;cases e1;rw [aa3 Tg] at e2;cases e2;exact ⟨u,r,.inr ⟨.inl hk,c,hc,zG⟩⟩
   ·rw [abw (Ne.symm hj)] at e2;obtain ⟨u',r',q⟩:=hl j y v' e1 e2 e3;refine ⟨u',r',?_⟩;rcases q with q|⟨k,c',e,z'⟩
    ·exact .inl q
    ·refine .inr ⟨k,c',e,z'.sameBut hs ?_⟩;rintro rfl;exact hj (AR hN e1 (I.ok.inj _ _ _ e hc▸hi))
  ·by_cases OY:c'=c
   ·subst OY;exact ⟨_,zG⟩
   ·obtain ⟨w2,z2⟩:=I.cell y c' e;exact ⟨w2,z2.sameBut hs OY⟩
  ·obtain ⟨e,n,ne,nf,d⟩:=I.pin p hp;refine ⟨(hs.2 p.1 ?_).trans e,n,ne,nf,d⟩;intro q;rw [q,hoc] at e;have q':oc=p.2:=aav e;exact d w' (by rw [<-q'];exact Zc)
theorem oo{M:Model}{A:Around}{E:Value->Shared->Prop}{i:Nat}{x:Str}{v:V}{u:Value}{Q:Unit->Shared->Prop}(I:Inv X ζ σ H s)(hN:X.N.Nodup)(hi:X.N[i]? =some x)(hx:Loc X.env.scope x)(r:aC v u)
  (h:∀s',Inv X ζ (σ.set i (some v)) H s'->Q () s') (hf:X.fn x=true\/X.env.scope.names.lookup x=some .local:=by first|exact .inl rfl|exact .inr rfl|assumption):wpAny M A (storeName X.env x u) Q E s:=
 uY I hN hi hx r (λs' I' _=>h s' I') hf
theorem Inv.U1{s':Shared}{ch:List Addr}(I:Inv X ζ σ H s)(ho:s'.os=s.os)(u:Un (qB X.stack) ch H H' s.heap s'.heap)(aY:lE X.prog X.w H' s'.heap)(hg:AllBare s'.gens)
  (A':∀b∈ch,(b∈X.ex\/X.s₀.heap.objs.size<=b)/\b≠X.env.locals/\(∀x c,X.env.cells.lookup x=some c->c≠b)/\∀p∈X.pn++ζ,p.1≠b):Inv X ζ σ H' s':=by
 obtain ⟨h',g',d',t',o'⟩:=s';have e:o'=s.os:=ho;subst e;exact I.call (g':=g') (t':=t') (d':=d') u aY hg A'
end
abbrev XK:=Value->Option Addr->Hp->Prop
abbrev St:=List (Option V)
abbrev VK:=V->Hp->Prop
abbrev TE:=St->Hp->VK->Prop
abbrev TT:=St->Hp->(Bool->Hp->Prop)->Prop
abbrev TA:=St->Hp->(List V->Hp->Prop)->Prop
structure yJ where
 nx:St->Hp->Prop
 rt:VK
 bk:St->Hp->Prop:=λ_ _=>False
 ct:St->Hp->Prop:=λ_ _=>False
abbrev TS:=yJ->St->Hp->Prop
def EP(X:Cx)(ζ:List (Addr×Obj))(σ:St)(Q:VK)(u:Value)(s':Shared):Prop:=∃v H',Inv X ζ σ H' s'/\aC v u/\Q v H'
def TP(X:Cx)(ζ:List (Addr×Obj))(σ:St)(Q:Bool->Hp->Prop)(b:Bool)(s':Shared):Prop:=∃H',Inv X ζ σ H' s'/\Q b H'
def AP(X:Cx)(ζ:List (Addr×Obj))(σ:St)(Q:List V->Hp->Prop)(us:List Value)(s':Shared):Prop:=∃vs H',Inv X ζ σ H' s'/\ax vs us/\Q vs H'
def SP(X:Cx)(ζ:List (Addr×Obj))(D:yJ)(f:Flow)(s':Shared):Prop:=
 match f with
 |.next=>∃σ' H',Inv X ζ σ' H' s'/\D.nx σ' H'
 |.brk=>∃σ' H',Inv X ζ σ' H' s'/\D.bk σ' H'
 |.cont=>∃σ' H',Inv X ζ σ' H' s'/\D.ct σ' H'
 |.ret u=>∃v σ' H',Inv X ζ σ' H' s'/\aC v u/\D.rt v H'
def PE(X:Cx)(e:Expr)(t:TE):Prop:=
 ∀(ζ:List (Addr×Obj)) (s:Shared) (σ:St) (H:Hp) (Q:VK),Inv X ζ σ H s->t σ H Q->wpAny (model X.prog X.w) X.A (eval e X.env) (EP X ζ σ Q) X.xe s
def PT(X:Cx)(e:Expr)(t:TT):Prop:=
 ∀(ζ:List (Addr×Obj)) (s:Shared) (σ:St) (H:Hp) (Q:Bool->Hp->Prop),Inv X ζ σ H s->t σ H Q->wpAny (model X.prog X.w) X.A (isTrue e X.env (eval e X.env)) (TP X ζ σ Q) X.xe s
def PW(X:Cx)(e:Expr)(t:TT):Prop:=
 ∀(whole:Sem Value) (ζ:List (Addr×Obj)) (s:Shared) (σ:St) (H:Hp) (Q:Bool->Hp->Prop),Inv X ζ σ H s->t σ H Q->wpAny (model X.prog X.w) X.A (isTrue e X.env whole) (TP X ζ σ Q) X.xe s
def PA(X:Cx)(es:List Expr)(t:TA):Prop:=
 ∀(pos:Pos) (ζ:List (Addr×Obj)) (s:Shared) (σ:St) (H:Hp) (Q:List V->Hp->Prop),Inv X ζ σ H s->t σ H Q->wpAny (model X.prog X.w) X.A (spliced (backTo pos (starEach es X.env))) (AP X ζ σ Q) X.xe s
def PS(X:Cx)(st:Stmt)(t:TS):Prop:=
 ∀(ζ:List (Addr×Obj)) (s:Shared) (σ:St) (H:Hp) (D:yJ),Inv X ζ σ H s->t D σ H->wpAny (model X.prog X.w) X.A (exec st X.env) (SP X ζ D) X.xe s
def Hx(X:Cx)(st:List Stmt)(t:TS):Prop:=
 ∀(ζ:List (Addr×Obj)) (s:Shared) (σ:St) (H:Hp) (D:yJ),Inv X ζ σ H s->t D σ H->wpAny (model X.prog X.w) X.A (execs st X.env) (SP X ζ D) X.xe s
theorem bA{α:Type}{t:Sem α}{Q Q':α->Shared->Prop}{M:Model}{A:Around}{E:Value->Shared->Prop}{s:Shared}(h:wpAny M A t Q E s)(hQ:∀a s,Q a s->Q' a s):wpAny M A t Q' E s:=wpAny_mono h hQ λ_ _ x=>x
section
variable{X:Cx}
def Wb(i:Nat):TE:=λσ H Q=>∃v,σ[i]? =some (some v)/\Q v H
def tC(v:V):TE:=λ_ H Q=>Q v H
theorem PU{i:Nat}{x:Str}{pos:Pos}(hN:X.N[i]? =some x)(hv:Yz X.env.scope x)(hd:(x==("__debug__":Str))=false:=by decide)(EO:(x==("__classdict__":Str))=false:=by decide):PE X (.Name x pos) (Wb i):=by
 intro ζ s σ H Q I h;obtain ⟨v,e,h⟩:=h;obtain ⟨m,hn,hl⟩:=I.loc;obtain ⟨u,r,l⟩:=hl i x v hN e hv;have fin:EP X ζ σ Q u s:=⟨v,H,I,r,h⟩;rcases l with ⟨hk,hm⟩|⟨hk,c,hc,Ov⟩
 ·exact wpAny_Name (wpAny_loadName_local I.ok.kind hk hn hm fin) hd
 ·rcases hk with hk|hk
  ·exact wpAny_Name (wpAny_loadName_cell I.ok.kind hk hc Ov fin) hd
  ·exact wpAny_Name (wpAny_loadName_free I.ok.kind hk hc Ov fin EO) hd
theorem Q3{i j pos}:PE X (.Constant (.int i) j pos) (tC (.int i)):=λ_ _ _ H _ I h=>wpAny_Constant_int ⟨.int i,H,I.tok _,⟨_,rfl⟩,h⟩
theorem To{b j pos}:PE X (.Constant (.bool b) j pos) (tC (.bl b)):=λ_ _ _ H _ I h=>Constant_bool ⟨.bl b,H,I,rfl,h⟩
theorem O2{j pos}:PE X (.Constant .none j pos) (tC .bw):=λ_ _ _ H _ I h=>Constant_none ⟨.bw,H,I,rfl,h⟩
theorem OT{x j pos}:PE X (.Constant (.str x) j pos) (tC (.str x)):=λ_ _ _ H _ I h=>Calls.Constant_str ⟨.str x,H,I.tok _,⟨_,rfl⟩,h⟩
def Gl(X:Cx)(x:Str):Prop:=X.env.kindOf x=some .globalImplicit
theorem qS{E:Value->Shared->Prop}{ζ:List (Addr×Obj)}{s:Shared}{σ:St}{H:Hp}{x:Str}{u:Value}{pos:Pos}{Q:Value->Shared->Prop}(I:Inv X ζ σ H s)(hg:Gl X x)(hm:X.mg x=some u)(h:Q u s)
  (hd:(x==("__debug__":Str))=false:=by decide):wpAny (model X.prog X.w) X.A (eval (.Name x pos) X.env) Q E s:=
 Calls.Name_function_global I.ok.kind hg (Calls.loadGlobal_global (by rw [I.ok.glob];exact I.mod.glob.keeps I.bk) hm h) hd
theorem mC{E:Value->Shared->Prop}{ζ:List (Addr×Obj)}{s:Shared}{σ:St}{H:Hp}{x:Str}{u:Value}{pos:Pos}{Q:Value->Shared->Prop}(I:Inv X ζ σ H s)(hg:Gl X x)(hm:X.mg x=none)(hv:bootBuiltins x=some u)(h:Q u s)
  (hn:x≠"__name__":=by decide) (hd:(x==("__debug__":Str))=false:=by decide):wpAny (model X.prog X.w) X.A (eval (.Name x pos) X.env) Q E s:=by
 obtain ⟨mb,h1,h2⟩:=I.mod.blt;exact Calls.Name_function_global I.ok.kind hg (Calls.loadGlobal_builtin (by rw [I.ok.glob];exact I.mod.glob.keeps I.bk) hm (by rw [I.ok.blt];exact h1.keeps I.bk) ((h2 x hn).trans hv) h) hd
theorem Dm{x:Str}{v:V}{u:Value}{pos:Pos}(hg:Gl X x)(hm:X.mg x=some u)(r:aC v u)(hd:(x==("__debug__":Str))=false:=by decide):PE X (.Name x pos) (tC v):=
 λ_ _ _ H _ I h=>qS I hg hm ⟨v,H,I,r,h⟩ hd
theorem Nx{x:Str}{v:V}{u:Value}{pos:Pos}(hg:Gl X x)(hm:X.mg x=none)(hv:bootBuiltins x=some u)(r:aC v u)(hn:x≠"__name__":=by decide)(hd:(x==("__debug__":Str))=false:=by decide):PE X (.Name x pos) (tC v):=
 λ_ _ _ H _ I h=>mC I hg hm hv ⟨v,H,I,r,h⟩ hn hd
variable{a b:Expr}{ta tb:TE}{pos:Pos}
def tB(t:TE):TT:=λσ H Q=>t σ H λx H1=>∃c,x= .bl c/\Q c H1
theorem OZ{e:Expr}{t:TE}(h:PE X e t)(he:∀whole,isTrue e X.env whole=(do let v<-whole;standAt e.pos;holding [v] (truthy v)):=by intro _;rfl):PT X e (tB t):=by intro ζ s σ H Q I hw;refine isTrue_plain (bA (h ζ s σ H _ I hw) λv s1 ⟨x,H1,I1,r1,q1⟩=>?_) (he _);obtain ⟨d,rfl,q⟩:=q1;cases r1;exact wpAny_truthy_bool ⟨H1,I1,q⟩
variable{tA Yc:TT}{rest:List Expr}
def tOr(t u:TT):TT:=λσ H Q=>t σ H λc H1=>if c=true then Q true H1 else u σ H1 Q
def WM(t:TT):TT:=λσ H Q=>t σ H λc H1=>Q (!c) H1
theorem pw_or1(ha:PT X a tA):PW X (.BoolOp .Or [a] pos) tA:=by
 intro wh ζ s σ H Q I h;refine isTrue_or (bA (ha ζ s σ H Q I h) λc s1 e=>?_);cases c with
 |false=>exact isTrue_or_nil e
 |true=>exact e
theorem pw_or(ha:PT X a tA)(hb:PW X (.BoolOp .Or (b::rest) pos) Yc):PW X (.BoolOp .Or (a::b::rest) pos) (tOr tA Yc):=by
 intro wh ζ s σ H Q I h;refine isTrue_or (bA (ha ζ s σ H _ I h) λc s1 ⟨H1,I1,q1⟩=>?_);cases c with
 |true=>exact ⟨H1,I1,q1⟩
 |false=>exact hb wh ζ s1 σ H1 Q I1 q1
theorem Qu(ha:PT X a tA):PT X (.UnaryOp .Not a pos) (WM tA):=by intro ζ s σ H Q I h;exact isTrue_not (ha ζ s σ H (λc H1=>Q (!c) H1) I h)
def Td(ta tb:TE):TE:=λσ H Q=>ta σ H λx H1=>∃c,x= .bl c/\if c=true then tb σ H1 Q else Q (.bl false) H1
def Yx(ta tb:TE):TE:=λσ H Q=>ta σ H λx H1=>∃c,x= .bl c/\if c=true then Q (.bl true) H1 else tb σ H1 Q
def TR(ta:TE):TE:=λσ H Q=>ta σ H λx H1=>∃c,x= .bl c/\Q (.bl (!c)) H1
theorem QX{op}{t:TE}(h:PE X a t):PE X (.BoolOp op [a] pos) t:=λζ s σ H Q I hw=>BoolOp_one (h ζ s σ H Q I hw)
theorem Rr(ha:PE X a ta)(hb:PE X (.BoolOp .And (b::rest) pos) tb):PE X (.BoolOp .And (a::b::rest) pos) (Td ta tb):=by
 intro ζ s σ H Q I h;refine BoolOp_and (bA (ha ζ s σ H _ I h) λv s1 ⟨x,H1,I1,r1,q1⟩=>?_);obtain ⟨c,rfl,q1⟩:=q1;cases r1;refine wpAny_truthy_bool ?_;cases c with
 |true=>exact hb ζ s1 σ H1 Q I1 q1
 |false=>exact ⟨.bl false,H1,I1,rfl,q1⟩
theorem RY(ha:PE X a ta)(hb:PE X (.BoolOp .Or (b::rest) pos) tb):PE X (.BoolOp .Or (a::b::rest) pos) (Yx ta tb):=by
 intro ζ s σ H Q I h;refine BoolOp_or (bA (ha ζ s σ H _ I h) λv s1 ⟨x,H1,I1,r1,q1⟩=>?_);obtain ⟨c,rfl,q1⟩:=q1;cases r1;refine wpAny_truthy_bool ?_;cases c with
 |false=>exact hb ζ s1 σ H1 Q I1 q1
 |true=>exact ⟨.bl true,H1,I1,rfl,q1⟩
theorem OX(ha:PE X a ta):PE X (.UnaryOp .Not a pos) (TR ta):=by intro ζ s σ H Q I h;refine UnaryOp_ (bA (ha ζ s σ H _ I h) λv s1 ⟨x,H1,I1,r1,q1⟩=>?_);obtain ⟨c,rfl,q1⟩:=q1;cases r1;exact not_of (wpAny_truthy_bool ⟨.bl (!c),H1,I1,rfl,q1⟩)
def tIf(t:TT)(ta tb:TE):TE:=λσ H Q=>t σ H λc H1=>if c=true then ta σ H1 Q else tb σ H1 Q
theorem JY{c:Expr}(hc:PT X c tA)(ha:PE X a ta)(hb:PE X b tb):PE X (.IfExp c a b pos) (tIf tA ta tb):=by
 intro ζ s σ H Q I h;refine wpAny_IfExp (bA (hc ζ s σ H _ I h) λd s1 ⟨H1,I1,q1⟩=>?_);cases d with
 |true=>exact ha ζ s1 σ H1 Q I1 q1
 |false=>exact hb ζ s1 σ H1 Q I1 q1
end
def gu(K:fI)(H:Hp)(a:Addr)(xs:List V):Prop:=
 Rd H a (.lst xs)\/
  ∃(o:Obj) (its:Array Value) (n:Nat),K.lookup a=some o/\o.cls= .type "list"/\o.dict=none/\o.data= .seq its n/\its.size<=sizeLine/\ax xs its.toList
def m_(K:fI)(H:Hp)(a:Addr)(xs:List V):Prop:=
 Rd H a (.tup xs)\/
  ∃(o:Obj) (its:Array Value) (n:Nat),K.lookup a=some o/\o.cls= .type "tuple"/\o.data= .seq its n/\its.size<=sizeLine/\ax xs its.toList
def Zd:Value->Option V
 |.none=>some .bw
 |.bool b=>some (.bl b)
 |.int i _=>some (.int i)
 |.str x _=>some (.str x)
 |.bytes b _=>some (.Hs b)
 |.float b _=>some (.Pc b)
 |.ref a=>some (.ref a)
 |.type n=>some (.ty n)
 |_=>none
theorem aC.abs{x:V}{u:Value}(r:aC x u):Zd u=some x:=by
 cases x with
 |bw=>cases r;rfl
 |bl _=>cases r;rfl
 |int _=>obtain ⟨t,rfl⟩:=r;rfl
 |str _=>obtain ⟨t,rfl⟩:=r;rfl
 |Hs _=>obtain ⟨t,rfl⟩:=r;rfl
 |Pc _=>obtain ⟨t,rfl⟩:=r;rfl
 |ref _=>cases r;rfl
 |ty _=>cases r;rfl
theorem aC.inj{x y:V}{u:Value}(r:aC x u)(q:aC y u):x=y:=aav (r.abs.symm.trans q.abs)
theorem ax.inj:∀{xs ys:List V}{us:List Value},ax xs us->ax ys us->xs=ys
 |_,_,_,.nil,.nil=>rfl
 |_,_,_,.cons r t,.cons r' t'=>by rw [r.inj r',ax.inj t t']
section
variable{X:Cx}{ζ:List (Addr×Obj)}{σ:St}{H:Hp}{s:Shared}{a:Addr}{xs ys:List V}
theorem gu.of{K:fI}(h:H a=some (.lst xs)):gu K H a xs:= .inl (.inl h)
theorem m_.of{K:fI}(h:H a=some (.tup xs)):m_ K H a xs:= .inl (.inl h)
theorem Inv.list(I:Inv X ζ σ H s)(h:gu X.K H a xs):∃its:List Value,ax xs its/\PlainL s.heap a its.toArray/\xs.length<=sizeLine:=by
 rcases h with h|⟨o,its,n,hk,hc,hd,hs,hz,r⟩
 ·obtain ⟨z,its,n,r,e⟩:=h.ok I.aY;exact ⟨its,r,⟨_,n,e,rfl,rfl,rfl⟩,z⟩
 ·refine ⟨its.toList,r,⟨o,n,I.qp a o hk,hc,hd,by simpa using hs⟩,?_⟩;have e:=r.length;simp only [Array.length_toList] at e;omega
theorem Inv.tuple(I:Inv X ζ σ H s)(h:m_ X.K H a xs):∃its:List Value,ax xs its/\IsTup s.heap a its.toArray/\xs.length<=sizeLine:=by
 rcases h with h|⟨o,its,n,hk,hc,hs,hz,r⟩
 ·obtain ⟨z,its,r,p⟩:=h.ok I.aY;exact ⟨its,r,p,z⟩
 ·refine ⟨its.toList,r,⟨o,I.qp a o hk,hc,n,by simpa using hs⟩,?_⟩;have e:=r.length;simp only [Array.length_toList] at e;omega
theorem Inv.gF(I:Inv X ζ σ H s)(h:gu X.K H a xs)(h':gu X.K H a ys):xs=ys:=by
 obtain ⟨its,r,⟨o,n,e,_,_,d⟩,_⟩:=I.list h;obtain ⟨its',r',⟨o',n',e',_,_,d'⟩,_⟩:=I.list h';rw [e] at e';cases e';rw [d] at d';injection d' with d1 _
 have:its=its':=by simpa using congrArg Array.toList d1
 subst this;exact r.inj r'
theorem Inv.uT(I:Inv X ζ σ H s)(h:m_ X.K H a xs)(h':m_ X.K H a ys):xs=ys:=by
 obtain ⟨its,r,⟨o,e,_,n,d⟩,_⟩:=I.tuple h;obtain ⟨its',r',⟨o',e',_,n',d'⟩,_⟩:=I.tuple h';rw [e] at e';cases e';rw [d] at d';injection d' with d1 _
 have:its=its':=by simpa using congrArg Array.toList d1
 subst this;exact r.inj r'
end
section
variable{X:Cx}{st:Stmt}{rest:List Stmt}{t u:TS}{e:Expr}{te:TE}{pos:Pos}
def RO:TS:=λD σ H=>D.nx σ H
def X9(t u:TS):TS:=λD σ H=>t {D with nx:=u D} σ H
theorem MW:Hx X [] RO:=λ_ _ σ H _ I h=>wpAny_execs_nil ⟨σ,H,I,h⟩
theorem Kq(h1:PS X st t)(h2:Hx X rest u):Hx X (st::rest) (X9 t u):=by
 intro ζ s σ H D I h;refine wpAny_execs_cons (bA (h1 ζ s σ H {D with nx:=u D} I h) λf s1 q=>?_);cases f with
 |next=>
  obtain ⟨σ',H',I',q⟩:=q;exact h2 ζ s1 σ' H' D I' q
 |ret v=>exact q
 |brk=>exact q
 |cont=>exact q
theorem Nl(h1:PS X st t):Hx X [st] t:=by
 intro ζ s σ H D I h;refine wpAny_execs_cons (bA (h1 ζ s σ H D I h) λf s1 q=>?_);cases f with
 |next=>exact wpAny_execs_nil q
 |ret v=>exact q
 |brk=>exact q
 |cont=>exact q
def R1:TS:=λD σ H=>D.ct σ H
theorem Al:PS X (.Continue pos) R1:=λ_ _ σ H _ I h=>wpAny_Continue ⟨σ,H,I,h⟩
theorem Inv.quiet{ζ:List (Addr×Obj)}{σ:St}{H:Hp}{s:Shared}(I:Inv X ζ σ H s):interactive X.env=false:=by simp [interactive,I.ok.kind]
def S8(te:TE):TS:=λD σ H=>te σ H λ_ H1=>D.nx σ H1
theorem MZ(he:PE X e te)(hs:swapsWith e none pos.line X.env=pure false:=by rfl):PS X (.Expr e pos) (S8 te):=by intro ζ s σ H D I h;exact wpAny_Expr_any (bA (he ζ s σ H _ I h) λv s1 ⟨x,H1,I1,r1,q1⟩=>⟨σ,H1,I1,q1⟩) I.quiet hs
def Y1(te:TE):TS:=λD σ H=>te σ H D.rt
theorem Pw(he:PE X e te):PS X (.Return (some e) pos) (Y1 te):=by intro ζ s σ H D I h;exact wpAny_Return_some (bA (he ζ s σ H _ I h) λv s1 ⟨x,H1,I1,r1,q1⟩=>⟨x,σ,H1,I1,r1,q1⟩)
def W_(c:TT)(t u:TS):TS:=λD σ H=>c σ H λb H1=>if b=true then t D σ H1 else u D σ H1
theorem UE{c:Expr}{a b:List Stmt}{tc:TT}(hc:PT X c tc)(ha:Hx X a t)(hb:Hx X b u):PS X (.If c a b pos) (W_ tc t u):=by
 intro ζ s σ H D I h;refine wpAny_If (bA (hc ζ s σ H _ I h) λd s1 ⟨H1,I1,q1⟩=>?_);cases d with
 |true=>exact ha ζ s1 σ H1 D I1 q1
 |false=>exact hb ζ s1 σ H1 D I1 q1
end
abbrev TG:=V->St->Hp->(St->Hp->Prop)->Prop
abbrev PV:=List V->St->Hp->(St->Hp->Prop)->Prop
def PG(X:Cx)(target:Expr)(t:TG):Prop:=
 ∀(ζ:List (Addr×Obj)) (s:Shared) (σ:St) (H:Hp) (v:V) (u:Value) (Q:St->Hp->Prop),Inv X ζ σ H s->aC v u->t v σ H Q->
  wpAny (model X.prog X.w) X.A (assign target X.env u) (λ_ s'=>∃σ' H',Inv X ζ σ' H' s'/\Q σ' H') X.xe s
def VE(X:Cx)(ts:List Expr)(t:PV):Prop:=
 ∀(ζ:List (Addr×Obj)) (s:Shared) (σ:St) (H:Hp) (vs:List V) (us:List Value) (Q:St->Hp->Prop),Inv X ζ σ H s->ax vs us->t vs σ H Q->
  wpAny (model X.prog X.w) X.A (assignInOrder ((assignEach ts X.env).map (·.2)) us) (λ_ s'=>∃σ' H',Inv X ζ σ' H' s'/\Q σ' H') X.xe s
abbrev ON:=V->V->V->Hp->(Hp->Prop)->Prop
def Ul(X:Cx)(t:ON):Prop:=
 ∀(ζ:List (Addr×Obj)) (s:Shared) (σ:St) (H:Hp) (o i v:V) (ov iv u:Value) (Q:Hp->Prop),Inv X ζ σ H s->aC o ov->aC i iv->aC v u->t o i v H Q->
  wpAny (model X.prog X.w) X.A (setItem ov iv u) (λ_ s'=>∃H',Inv X ζ σ H' s'/\Q H') X.xe s
section
variable{X:Cx}{pos:Pos}
def iY(i:Nat):TG:=λv σ H Q=>Q (σ.set i (some v)) H
theorem aD{i:Nat}{x:Str}(hN:X.N.Nodup)(hi:X.N[i]? =some x)(hx:Loc X.env.scope x)(hf:X.fn x=true\/X.env.scope.names.lookup x=some .local:=by first|exact .inl rfl|exact .inr rfl|assumption):PG X (.Name x pos) (iY i):=by intro ζ s σ H v u Q I r h;exact wpAny_assign_Name (oo I hN hi hx r (λs' I'=>⟨_,H,I',h⟩) hf)
def JM:PV:=λvs σ H Q=>vs=[]/\Q σ H
def ot(t:TG)(u:PV):PV:=λvs σ H Q=>∃v r,vs=v::r/\t v σ H λσ' H'=>u r σ' H' Q
theorem ly:VE X [] JM:=by intro ζ s σ H vs us Q I r h;obtain ⟨e,h⟩:=h;subst e;cases r;exact assignInOrder_nil ⟨σ,H,I,h⟩
theorem cG{e:Expr}{es:List Expr}{t:TG}{u:PV}(h1:PG X e t)(h2:VE X es u)
  (hs:(assignEach (e::es) X.env).map (·.2)=assign e X.env::(assignEach es X.env).map (·.2):=by rfl):VE X (e::es) (ot t u):=by
 intro ζ s σ H vs us Q I r h;obtain ⟨v,vr,e1,h⟩:=h;subst e1;cases r with
 |cons r rr=>
  rw [hs];refine assignInOrder_cons (bA (h1 ζ s σ H _ _ _ I r h) λ_ s1 ⟨σ1,H1,I1,q1⟩=>?_);exact h2 ζ s1 σ1 H1 _ _ Q I1 rr q1
def Km(K:fI)(n:Nat)(t:PV):TG:=λv σ H Q=>∃a xs,v= .ref a/\m_ K H a xs/\xs.length=n/\t xs σ H Q
theorem pM{es:List Expr}{k:Nat}{t:PV}{n:Nat}(hc:X.calm=true)(h:VE X es t)
  (hn:(assignEach es X.env).length=n:=by rfl) (PJ:(assignEach es X.env).findIdx? (·.1)=none:=by rfl):PG X (.Tuple es k pos) (Km X.K n t):=by
 intro ζ s σ H v u Q I r hw;obtain ⟨a,xs,e1,hq,hl,hw⟩:=hw;subst e1;cases r;obtain ⟨its,rv,ht,hz⟩:=I.tuple hq;refine assign_Tuple_tuple (I.ok.hd hc) ht (by simp [hn,<-hl,rv.length]) PJ λh' hx=>?_;have I1:Inv X ζ σ H {s with heap:=h'}:=I.kept (t':=s.toks) λb o e=>hx b o (aaI (Heap.lt_size e)) e;exact h ζ _ σ H xs _ Q I1 (by simpa using rv) hw
def WT(to ti:TE)(t:ON):TG:=λv σ H Q=>to σ H λo H1=>ti σ H1 λi H2=>t o i v H2 λH3=>Q σ H3
theorem PL{o i:Expr}{to ti:TE}{t:ON}(ho:PE X o to)(hi:PE X i ti)(hs:Ul X t)
  (ha:∀v,assign (.Subscript o i pos) X.env v=(do
   let ov<-holding [v] (eval o X.env)
   let iv<-holding [v,ov] (eval i X.env)
   standAt pos
   holding [v,ov,iv] (setItem ov iv v)
   release [v,ov,iv] []):=by intro _;rfl):PG X (.Subscript o i pos) (WT to ti t):=by
 intro ζ s σ H v u Q I r h;rw [ha];refine wpAny_bind (wpAny_holding (bA (ho ζ s σ H _ I h) λov s1 ⟨x,H1,I1,r1,q1⟩=>?_));refine wpAny_bind (wpAny_holding (bA (hi ζ s1 σ H1 _ I1 q1) λiv s2 ⟨y,H2,I2,r2,q2⟩=>?_));refine wpAny_bind (wpAny_standAt (wpAny_bind (wpAny_holding (bA (hs ζ s2 σ H2 x y v ov iv u _ I2 r1 r2 r q2) λ_ s3 ⟨H3,I3,q3⟩=>?_))));exact wpAny_release ⟨σ,H3,I3,q3⟩
def Uw(te:TE)(g:TG):TS:=λD σ H=>te σ H λx H1=>g x σ H1 D.nx
theorem JL{tg e:Expr}{te:TE}{g:TG}(he:PE X e te)(hg:PG X tg g)(hs:swapsWithSole [tg] e pos.line X.env=pure false:=by rfl)(hw:swappedStores [tg] e X.env=pure none:=by rfl)
  (h1:(assignEach [tg] X.env).map (·.2)=[assign tg X.env]:=by rfl):PS X (.Assign [tg] e pos) (Uw te g):=by
 intro ζ s σ H D I h;refine wpAny_Assign_stores (bA (he ζ s σ H _ I h) λv s1 ⟨x,H1,I1,r1,q1⟩=>?_) hs hw;rw [h1];exact bA (hg ζ s1 σ H1 x v _ I1 r1 q1) λ_ s2 q=>q
theorem Qc{i:Nat}{x:Str}{e:Expr}{te:TE}{pos':Pos}(hN:X.N.Nodup)(hi:X.N[i]? =some x)(hx:Loc X.env.scope x)(he:PE X e te)(hs:swapsWith e (some (.Name x pos')) pos.line X.env=pure false:=by rfl)(hf:X.fn x=true\/X.env.scope.names.lookup x=some .local:=by first|exact .inl rfl|exact .inr rfl|assumption):
  PS X (.Assign [.Name x pos'] e pos) (Uw te (iY i)):=by
 intro ζ s σ H D I h;refine wpAny_Assign_Name (bA (he ζ s σ H _ I h) λv s1 ⟨y,H1,I1,r1,q1⟩=>?_) hs;exact oo I1 hN hi hx r1 (λs2 I2=>⟨_,H1,I2,q1⟩) hf
def Y2(i j:Nat)(ta:TA):TS:=λD σ H=>ta σ H λvs H1=>∃v w,vs=[v,w]/\D.nx ((σ.set i (some v)).set j (some w)) H1
theorem QE{i j:Nat}{x y:Str}{a b:Expr}{ta:TA}{px py pt:Pos}{kt k2 QZ}(hc:X.calm=true)(hN:X.N.Nodup)(hi:X.N[i]? =some x)(hj:X.N[j]? =some y)(YR:i≠j)
  (hx:X.env.scope.names.lookup x=some .local) (hy:X.env.scope.names.lookup y=some .local) (ha:PA X [a,b] ta)
  (hw:swappedStores [.Tuple [.Name x px, .Name y py] kt pt] (.Tuple [a,b] k2 QZ) X.env=pure (some [x,y]))
  (hs:swapsWithSole [.Tuple [.Name x px, .Name y py] kt pt] (.Tuple [a,b] k2 QZ) pos.line X.env=pure false:=by rfl):
  PS X (.Assign [.Tuple [.Name x px, .Name y py] kt pt] (.Tuple [a,b] k2 QZ) pos) (Y2 i j ta):=by
 intro ζ s σ H D I h;rw [exec_Assign_arm];refine wpAny_bind (wpAny_standAt ?_);rw [hs];refine wpAny_bind (wpAny_pure ?_);rw [if_neg (by decide)];refine wpAny_bind (Tuple_ (bA (ha _ ζ s σ H _ I h) λus s1 ⟨vs,H1,I1,r1,q1⟩=>?_));obtain ⟨v,w,e1,q1⟩:=q1;subst e1;obtain ⟨u1,u2,rfl,rv,Hb⟩:∃u1 u2,us=[u1,u2]/\aC v u1/\aC w u2:=by
  cases r1 with
  |cons p q=>
   cases q with
   |cons p' q'=>
    cases q';exact ⟨_,_,rfl,p,p'⟩
 refine wpAny_newObj_type ?_ (by show 2<=sizeLine;decide);have I2:Inv X ζ σ H1 {s1 with heap:=s1.heap.push {cls:= .type "tuple",data:= .seq [u1,u2].toArray}}:=I1.kept (t':=s1.toks) λb o e=>Heap.get?_push_of_some _ e;rw [hw];refine wpAny_bind (wpAny_pure ?_);show wpAny (model X.prog X.w) X.A (do rule "assign.swapped-stores";let items<-unpackItems (.ref s1.heap.objs.size) 2 none;assignInOrder [λv=>bindName X.env y v,λv=>bindName X.env x v] items.reverse;pure Flow.next) _ _ _;refine wpAny_bind (wpAny_rule (wpAny_bind (unpackItems_tuple (items:= #[u1,u2]) (I.ok.hd hc) (IsTup.new s1.heap _) λh' RS=>?_)));have I3:=I2.kept (h':=h') (t':=s1.toks) λb o e=>RS b o (aaI (Heap.lt_size e)) e;show wpAny _ _ (assignInOrder [λv=>bindName X.env y v,λv=>bindName X.env x v] [u2,u1] >>= λ_=>pure Flow.next) _ _ _;refine wpAny_bind (assignInOrder_cons (wpAny_bindName (oo I3 hN hj (.inl hy) Hb (λs2 I4=>?_) (.inr hy))));refine assignInOrder_cons (wpAny_bindName (oo I4 hN hi (.inl hx) rv (λs3 I5=>assignInOrder_nil (wpAny_pure ?_)) (.inr hx)));rw [List.set_comm _ _ (Ne.symm YR)] at I5;exact ⟨_,H1,I5,q1⟩
end
section
variable{X:Cx}{pos:Pos}
def O0(c:TT)(tb:TS):TS:=λD σ H=>∃W:Nat->St->Hp->Prop,(∃m,W m σ H)/\∀m σ H,W m σ H->
 c σ H λb H1=>if b=true then∃N:St->Hp->Prop,(∀σ' H',N σ' H'->∃m',m'<m/\W m' σ' H')/\tb {D with nx:=N,ct:=N,bk:=D.nx} σ H1 else D.nx σ H1
theorem IU{c:Expr}{body:List Stmt}{tc:TT}{tb:TS}(hp:PassesOwn (model X.prog X.w) X.A X.env X.xe)(hc:PT X c tc)(hb:Hx X body tb):PS X (.While c body [] pos) (O0 tc tb):=by
 intro ζ s σ H D I h;obtain ⟨W,⟨m0,w0⟩,turn⟩:=h;refine wpAny_While (codeAny_whileLoop (λn s'=>∃σ' H',Inv X ζ σ' H' s'/\W n σ' H') ?_ m0 ⟨σ,H,I,w0⟩);rintro n s1 ⟨σ1,H1,I1,w1⟩;refine wpAny_passesOwn hp (bA (hc ζ s1 σ1 H1 _ I1 (turn n σ1 H1 w1)) λb s2 ⟨H2,I2,q2⟩=>?_);cases b with
 |true=>
  obtain ⟨N,hN,q2⟩:=q2;rw [if_pos rfl];refine wpAny_passesOwn hp (bA (hb ζ s2 σ1 H2 _ I2 q2) λf s3 q3=>?_);cases f with
  |next=>
   obtain ⟨σ3,H3,I3,n3⟩:=q3;obtain ⟨m',hm,w3⟩:=hN σ3 H3 n3;exact ⟨m',hm,σ3,H3,I3,w3⟩
  |cont=>
   obtain ⟨σ3,H3,I3,n3⟩:=q3;obtain ⟨m',hm,w3⟩:=hN σ3 H3 n3;exact ⟨m',hm,σ3,H3,I3,w3⟩
  |brk=>exact q3
  |ret v=>exact q3
 |false=>
  rw [if_neg aaw];exact wpAny_execs_nil ⟨σ1,H2,I2,q2⟩
end
structure It where
 go:Nat->Hp->Prop
 S7:Nat->Hp->V->Hp->Prop
 stop:Nat->Hp->Prop
def tR(X:Cx)(ζ:List (Addr×Obj))(H:Hp)(b:Addr):Prop:=
 H b=none/\b≠X.env.locals/\b∉X.fs/\(b∈X.ex\/X.s₀.heap.objs.size<=b)/\(∀x c,X.env.cells.lookup x=some c->c≠b)/\∀p∈X.pn++ζ,p.1≠b
theorem Inv.BG{X:Cx}{ζ:List (Addr×Obj)}{σ:St}{H H':Hp}{s:Shared}{b:Addr}(I:Inv X ζ σ H s)(hb:s.heap.objs.size<=b)(hn:H' b=none):tR X ζ H' b:=by
 refine ⟨hn,acf (aat I.lt hb),I.Wx hb,.inr (aap I.sz hb),λx c e z=>?_,λp hp z=>?_⟩
 ·obtain ⟨v,q⟩:=I.cell x c e;exact absurd (aat q.lt (by rw [z];exact hb)) (abq _)
 ·exact absurd (aat (Heap.lt_size (I.pin p hp).1) (by rw [z];exact hb)) (abq _)
structure Turn(P:Program)(w:World)(K:fI)(tg:Expr)(J:It)(fp:List Addr)(it:Addr)(tn:Nat->Heap->Prop):Prop where
 mem:it∈fp
 obj:∀i h,tn i h->∀b∈fp,∃o,h.get? b=some o/\∀v,o.data≠ .cell v
 keep:∀i h h',tn i h->(∀b∈fp,∀o,h.get? b=some o->h'.get? b=some o)->tn i h'
 item:∀(X:Cx),X.prog=P->X.w=w->X.K=K->X.calm=true->∀(i:Nat) (ζ:List (Addr×Obj)) (s:Shared) (σ:St) (H:Hp) (E:Value->Shared->Prop),Inv X ζ σ H s->(∀b∈fp,tR X ζ H b)->tn i s.heap->J.go i H->
  wpAny (model P w) X.A (pyNext (.ref it)) (λr s1=>∃u,r=some u/\
   wpAny (model P w) X.A (letOwnedTupleGo tg (.ref it) u) (λ_ s2=>∃x H',Inv X ζ σ H' s2/\aC x u/\J.S7 i H x H'/\tn (i+1) s2.heap/\∀b∈fp,H' b=none) E s1) E s
 done:∀(X:Cx),X.prog=P->X.w=w->X.K=K->X.calm=true->∀(i:Nat) (ζ:List (Addr×Obj)) (s:Shared) (σ:St) (H:Hp) (E:Value->Shared->Prop),Inv X ζ σ H s->(∀b∈fp,tR X ζ H b)->tn i s.heap->J.stop i H->
  wpAny (model P w) X.A (pyNext (.ref it)) (λr s1=>r=none/\Inv X ζ σ H s1) E s
 self:∀(A:Around) (i:Nat) (s:Shared) (Q:Value->Shared->Prop) (E:Value->Shared->Prop),tn i s.heap->Q (.ref it) s->wpAny (model P w) A (pyIter (.ref it)) Q E s
abbrev TI:=St->Hp->(It->Hp->Prop)->Prop
def Lk(X:Cx)(ζ:List (Addr×Obj))(σ:St)(tg:Expr)(R:It->Hp->Prop)(VR:Value)(s2:Shared):Prop:=
 ∃(it:Addr) (fp:List Addr) (tn:Nat->Heap->Prop) (J:It) (H':Hp),VR= .ref it/\Inv X ζ σ H' s2/\Turn X.prog X.w X.K tg J fp it tn/\tn 0 s2.heap/\(∀b∈fp,tR X ζ H' b)/\R J H'
def PI(X:Cx)(tg iter:Expr)(wi:TI):Prop:=
 ∀(ζ:List (Addr×Obj)) (s:Shared) (σ:St) (H:Hp) (R:It->Hp->Prop),Inv X ζ σ H s->wi σ H R->
  wpAny (model X.prog X.w) X.A (eval iter X.env) (λv s1=>wpAny (model X.prog X.w) X.A (pyIter v) (Lk X ζ σ tg R) X.xe s1) X.xe s
theorem vk {M : Model}{A : Around}{E : Value -> Shared -> Prop}{s : Shared}{tg : Expr}{it : Addr}{u : Value}{o : Obj}{n : String}{vs : Array Value}{Q : Unit -> Shared -> Prop}(ho : s.heap.get? it = some o) (hc : o.cls = .type n) (hd : o.data = .fields vs)
    (hn : ["enumerate", "zip", "dict_itemiterator", "dict_reverseitemiterator", "odict_iterator", "itertools.zip_longest", "itertools.pairwise"].contains n = false) (hQ : Q () s) : wpAny M A (letOwnedTupleGo tg (.ref it) u) Q E s := by
  unfold letOwnedTupleGo
  cases tg <;> first
    |exact wpAny_pure hQ
    | (cases u <;> first
        |exact wpAny_pure hQ
        | (refine wpAny_bind (wpAny_load ho ?_)
           rw [hc, hd];show wpAny M A (if (["enumerate", "zip", "dict_itemiterator", "dict_reverseitemiterator", "odict_iterator", "itertools.zip_longest", "itertools.pairwise"].contains n && vs[0]? == some (rawInt _)) = true then _ else _) Q E s;rw [if_neg (by intro h; rw [hn, Bool.false_and] at h; cases h)]
           exact wpAny_pure hQ))
def Vm(K:fI)(a:Addr):It:=
 ⟨λi H=>∃xs x,gu K H a xs/\xs[i]? =some x,λi H x H'=>H'=H/\∀xs,gu K H a xs->xs[i]? =some x,λi H=>∃xs,gu K H a xs/\xs.length<=i⟩
def Wm(K:fI)(a:Addr):It:=
 ⟨λi H=>∃xs x,m_ K H a xs/\xs[i]? =some x,λi H x H'=>H'=H/\∀xs,m_ K H a xs->xs[i]? =some x,λi H=>∃xs,m_ K H a xs/\xs.length<=i⟩
def Sx(lo:Int)(n:Nat):It:=⟨λi _=>i<n,λi H x H'=>H'=H/\x= .int (lo+i),λi _=>n<=i⟩
theorem Gb{P:Program}{w:World}{K:fI}{tg:Expr}(a it:Addr):Turn P w K tg (Vm K a) [it] it (λi h=>h.IsListIter it a i) where
 mem:=by simp
 obj:=λi h st b hb=>by
  have e:b=it:=by simpa using hb
  subst e;obtain ⟨o,e,c,d⟩:=st;exact ⟨o,e,λv z=>by rw [d] at z;cases z⟩
 keep:=λi h h' st k=>st.at λo e=>k it (by simp) o e
 item:=by intro X hP hw hK hc i ζ s σ H E I hf st hg;subst hP hw hK;obtain ⟨xs,x,hq,hx⟩:=hg;obtain ⟨its,rv,p,hz⟩:=I.list hq;obtain ⟨u,hu,ru⟩:=rv.get hx;obtain ⟨f0,f1,f2,f3,f4,f5⟩:=hf it (by simp);refine wpAny_pyNext_list_item st p.isList (x:=u) (by simpa using hu) λh' xT sb=>?_;have I1:Inv X ζ σ H {s with heap:=h'}:=I.turned (t':=s.toks) (λb o hb e=>(sb.2 b hb).trans e) f0 f1 f3 f4 f5;obtain ⟨o,e,c,d⟩:=id xT;exact ⟨u,rfl,vk (s:={s with heap:=h'}) e c d (by decide) ⟨x,H,I1,ru,⟨rfl,λys hy=>by rw [I.gF hy hq];exact hx⟩,xT,λb hb=>(hf b hb).1⟩⟩
 done:=by intro X hP hw hK hc i ζ s σ H E I hf st hg;subst hP hw hK;obtain ⟨xs,hq,hx⟩:=hg;obtain ⟨its,rv,p,hz⟩:=I.list hq;obtain ⟨f0,f1,f2,f3,f4,f5⟩:=hf it (by simp);have hl:=rv.length;exact wpAny_pyNext_list_end (I.ok.hd hc) st p.isList (by simp;omega) λh' eb=>⟨rfl,I.turned (t':=s.toks) (λb o hb e=>eb b o hb e) f0 f1 f3 f4 f5⟩
 self:=λ_ _ _ _ _ st h=>wpAny_pyIter_listiter st h
theorem Cn{P:Program}{w:World}{K:fI}{tg:Expr}(a it:Addr):Turn P w K tg (Wm K a) [it] it (λi h=>h.IsTupleIter it a i) where
 mem:=by simp
 obj:=λi h st b hb=>by
  have e:b=it:=by simpa using hb
  subst e;obtain ⟨o,e,c,d⟩:=st;exact ⟨o,e,λv z=>by rw [d] at z;cases z⟩
 keep:=λi h h' st k=>st.at λo e=>k it (by simp) o e
 item:=by intro X hP hw hK hc i ζ s σ H E I hf st hg;subst hP hw hK;obtain ⟨xs,x,hq,hx⟩:=hg;obtain ⟨its,rv,p,hz⟩:=I.tuple hq;obtain ⟨u,hu,ru⟩:=rv.get hx;obtain ⟨f0,f1,f2,f3,f4,f5⟩:=hf it (by simp);refine wpAny_pyNext_tuple_item st (show s.heap.IsTuple a its.toArray from p) (x:=u) (by simpa using hu) λh' xT sb=>?_;have I1:Inv X ζ σ H {s with heap:=h'}:=I.turned (t':=s.toks) (λb o hb e=>(sb.2 b hb).trans e) f0 f1 f3 f4 f5;obtain ⟨o,e,c,d⟩:=id xT;exact ⟨u,rfl,vk (s:={s with heap:=h'}) e c d (by decide) ⟨x,H,I1,ru,⟨rfl,λys hy=>by rw [I.uT hy hq];exact hx⟩,xT,λb hb=>(hf b hb).1⟩⟩
 done:=by intro X hP hw hK hc i ζ s σ H E I hf st hg;subst hP hw hK;obtain ⟨xs,hq,hx⟩:=hg;obtain ⟨its,rv,p,hz⟩:=I.tuple hq;obtain ⟨f0,f1,f2,f3,f4,f5⟩:=hf it (by simp);have hl:=rv.length;exact wpAny_pyNext_tuple_end (I.ok.hd hc) st (show s.heap.IsTuple a its.toArray from p) (by simp;omega) λh' eb=>⟨rfl,I.turned (t':=s.toks) (λb o hb e=>eb b o hb e) f0 f1 f3 f4 f5⟩
 self:=λ_ _ _ _ _ st h=>wpAny_pyIter_tupleiter st h
theorem Cj{P:Program}{w:World}{K:fI}{tg:Expr}(it:Addr)(lo:Int)(n:Nat):Turn P w K tg (Sx lo n) [it] it (λi h=>IsRangeIter h it (lo+(i:Nat)*1) ((n:Int)-(i:Nat)) 1) where
 mem:=by simp
 obj:=λi h st b hb=>by
  have e:b=it:=by simpa using hb
  subst e
  exact ⟨_,st,λv z=>by
   have z':Data.fields _=Data.cell v:=z
   cases z'⟩
 keep:=λi h h' st k=>k it (by simp) _ st
 item:=by intro X hP hw hK hc i ζ s σ H E I hf st hg;subst hP hw hK;obtain ⟨f0,f1,f2,f3,f4,f5⟩:=hf it (by simp);have W:=Walks.range (prog:=X.prog) (w:=X.w) (I.ok.hd hc) it lo 1 n;refine W.item i s _ _ hg st λv h' tk hv xT kk=>?_;obtain ⟨t,rfl⟩:=hv;have I1:Inv X ζ σ H {s with heap:=h',toks:=tk}:=I.turned (λb o hb e=>kk b o (by simpa using hb) e) f0 f1 f3 f4 f5;refine ⟨_,rfl,vk (s:={s with heap:=h',toks:=tk}) (n:="range_iterator") xT rfl rfl (by decide) ⟨.int (lo+i),H,I1,⟨t,?_⟩,⟨rfl,rfl⟩,xT,λb hb=>(hf b hb).1⟩⟩;rw [Int.mul_one]
 done:=by intro X hP hw hK hc i ζ s σ H E I hf st hg;subst hP hw hK;obtain ⟨f0,f1,f2,f3,f4,f5⟩:=hf it (by simp);exact wpAny_pyNext_range_end (I.ok.hd hc) st (by have:n<=i:=hg;omega) λh' eb=>⟨rfl,I.turned (t':=s.toks) (λb o hb e=>eb b o hb e) f0 f1 f3 f4 f5⟩
 self:=λ_ _ _ _ _ st h=>wpAny_pyIter_rangeiter st h
section
variable{X:Cx}{tg:Expr}
theorem Ao{ζ:List (Addr×Obj)}{σ:St}{H:Hp}{s:Shared}{R:It->Hp->Prop}{E:Value->Shared->Prop}{lo hi:Int}{t u v:Tok}{tk:Nat}(I:Inv X ζ σ H s)(h1: -(2^62)<=lo)(h2:lo<2^62)(h3: -(2^62)<=hi)(h4:hi<2^62)
  (q:R (Sx lo (hi-lo).toNat) H):wpAny (model X.prog X.w) X.A (pyIter (.ref s.heap.objs.size)) (Lk X ζ σ tg R) E {s with heap:=s.heap.push {cls:= .type "range",data:= .fields #[.int lo t,.int hi u,.int 1 v]},toks:=tk}:=by
 refine wpAny_pyIter_range (IsRange.new ..) (small_one h1 h2 h3 h4) ?_;have I1:Inv X ζ σ H {s with heap:=s.heap.push {cls:= .type "range",data:= .fields #[.int lo t,.int hi u,.int 1 v]},toks:=tk}:=I.kept λb o e=>Heap.get?_push_of_some _ e
 refine ⟨(s.heap.push {cls:= .type "range",data:= .fields #[.int lo t,.int hi u,.int 1 v]}).objs.size,[(s.heap.push {cls:= .type "range",data:= .fields #[.int lo t,.int hi u,.int 1 v]}).objs.size],_,_,H,rfl,
  I1.kept (t':=tk) λb o e=>Heap.get?_push_of_some _ e,Cj _ lo (hi-lo).toNat,?_,λb hb=>?_,q⟩
 ·have e1:lo+((0:Nat):Int)*1=lo:=by simp
  have e2:(((hi-lo).toNat:Nat):Int)-((0:Nat):Int)=Builtin.Range.rangeSize lo hi 1:=by rw [rangeSize_one];split <;> omega
  show IsRangeIter _ _ (lo+((0:Nat):Int)*1) ((((hi-lo).toNat:Nat):Int)-((0:Nat):Int)) 1;rw [e1,e2];exact Heap.get?_push_size _ rfl
 ·have e:b=(s.heap.push {cls:= .type "range",data:= .fields #[.int lo t,.int hi u,.int 1 v]}).objs.size:=by simpa using hb
  subst e;exact I1.BG (aai _) (I1.aY.fresh (aai _))
def UX(ta:TA):TI:=λσ H R=>ta σ H λvs H1=>∃j:Int,vs=[.int j]/\ -(2^62)<=j/\j<2^62/\R (Sx 0 j.toNat) H1
def T4(ta:TA):TI:=λσ H R=>ta σ H λvs H1=>∃i j:Int,vs=[.int i,.int j]/\(-(2^62)<=i/\i<2^62/\ -(2^62)<=j/\j<2^62)/\R (Sx i (j-i).toNat) H1
theorem FR{a:Expr}{ta:TA}{p pos:Pos}(hg:Gl X "range")(hm:X.mg "range"=none)(ha:PA X [a] ta)(hs:starEach [a] X.env=[(false,eval a X.env)]:=by rfl):PI X tg (.Call (.Name "range" p) [a] [] pos) (UX ta):=by
 intro ζ s σ H R I h;refine Call_ (mC I hg hm boot_range (PyProof.Rows.callWith_type1 (bA (ha pos ζ s σ H _ I h) λus s1 ⟨vs,H1,I1,r1,q1⟩=>?_) hs rfl));obtain ⟨j,e,q1,q2,q⟩:=q1;subst e;cases r1 with
 |cons r rr=>
  cases rr;obtain ⟨t,rfl⟩:=r;exact call_range_1 (Ao I1 (by omega) (by omega) q1 q2 (by simpa using q))
theorem FP{a b:Expr}{ta:TA}{p pos:Pos}(hg:Gl X "range")(hm:X.mg "range"=none)(ha:PA X [a,b] ta)(hs:starEach [a,b] X.env=[(false,eval a X.env),(false,eval b X.env)]:=by rfl)(Q6:starEach [b] X.env=[(false,eval b X.env)]:=by rfl):
  PI X tg (.Call (.Name "range" p) [a,b] [] pos) (T4 ta):=by
 intro ζ s σ H R I h;refine Call_ (mC I hg hm boot_range (PyProof.Rows.callWith_type1 (bA (ha pos ζ s σ H _ I h) λus s1 ⟨vs,H1,I1,r1,q1⟩=>?_) (by rw [hs,Q6]) (by rw [Q6];rfl)));obtain ⟨i,j,e,⟨q1,q2,q3,q4⟩,q⟩:=q1;subst e;cases r1 with
 |cons r rr=>
  cases rr with
  |cons r' rr=>
   cases rr;obtain ⟨t,rfl⟩:=r;obtain ⟨t',rfl⟩:=r';exact call_range_2 (Ao I1 q1 q2 q3 q4 q)
def Xl(wi:TI)(g:TG)(tb:TS):TS:=λD σ H=>wi σ H λJ H1=>∃W:Nat->Nat->St->Hp->Prop,(∃m,W 0 m σ H1)/\∀i m σ H,W i m σ H->
 (J.stop i H/\D.nx σ H)\/(J.go i H/\∃N:St->Hp->Prop,(∀σ' H',N σ' H'->∃m',m'<m/\W (i+1) m' σ' H')/\∀x H',J.S7 i H x H'->g x σ H' λσ2 H2=>tb {D with nx:=N,ct:=N,bk:=D.nx} σ2 H2)
def x4(fp:List Addr)(h:Heap):List (Addr×Obj):=fp.filterMap λb=>(h.get? b).map λo=>(b,o)
theorem fi{fp:List Addr}{h:Heap}{b:Addr}{o:Obj}(hb:b∈fp)(e:h.get? b=some o):(b,o)∈x4 fp h:=ab4.mpr ⟨b,hb,by rw [e];rfl⟩
theorem GW{fp:List Addr}{h:Heap}{p:Addr×Obj}(hp:p∈x4 fp h):p.1∈fp/\h.get? p.1=some p.2:=by
 obtain ⟨b,hb,e⟩:=ab4.mp hp;cases q:h.get? b with
 |none=>rw [q] at e;cases e
 |some o=>
  rw [q] at e;have e':(b,o)=p:=aav e;subst e';exact ⟨hb,q⟩
theorem Inv.pinned{ζ:List (Addr×Obj)}{σ:St}{H:Hp}{s:Shared}{fp:List Addr}(I:Inv X ζ σ H s)(hf:∀b∈fp,tR X ζ H b)(ho:∀b∈fp,∃o,s.heap.get? b=some o/\∀v,o.data≠ .cell v):Inv X (ζ++x4 fp s.heap) σ H s:=
 I.D_ λp hp=>(aaP.mp hp).elim (λz=>I.pin p (aaz _ z)) λz=>by obtain ⟨hb,e⟩:=GW z;obtain ⟨f0,f1,f2,_⟩:=hf p.1 hb;obtain ⟨o,e',d⟩:=ho p.1 hb;rw [e] at e';cases e';exact ⟨e,f0,f1,f2,d⟩
theorem Inv.kM{ζ pl:List (Addr×Obj)}{σ:St}{H:Hp}{s:Shared}(I:Inv X (ζ++pl) σ H s):Inv X ζ σ H s:=I.D_ λp hp=>I.pin p (aaz _ (List.mem_append_left _ hp))
theorem CA{iter:Expr}{body:List Stmt}{wi:TI}{g:TG}{tb:TS}{pos:Pos}(hp:PassesOwn (model X.prog X.w) X.A X.env X.xe)(hc:X.calm=true)(hi:PI X tg iter wi)(hg:PG X tg g)(hb:Hx X body tb)
  (hs:∀x,foldedSetIterable iter X.env x=pure x:=by intro _;rfl):PS X (.For tg iter body [] pos) (Xl wi g tb):=by
 intro ζ s σ H D I h;refine wpAny_For (bA (hi ζ s σ H _ I h) λv s1 h1=>bA h1 λVR s2 h2=>?_) hs;obtain ⟨it,fp,tn,J,H2,e,I2,T,st2,f2,W,⟨m0,w0⟩,turn⟩:=h2;subst e;have Q5:∀{H':Hp},(∀b∈fp,H' b=none)->∀b∈fp,tR X ζ H' b:=λhn b hb=>⟨hn b hb,(f2 b hb).2⟩;refine codeAny_forLoop_any (λn s'=>∃i σ' H',Inv X ζ σ' H' s'/\tn i s'.heap/\(∀b∈fp,H' b=none)/\W i n σ' H') ?_ m0 ⟨0,σ,H2,I2,st2,λb hb=>(f2 b hb).1,w0⟩;rintro n s3 ⟨i,σ3,H3,I3,st3,fr3,w3⟩;rcases turn i n σ3 H3 w3 with ⟨stop,qn⟩|⟨go,N,hN,step⟩
 ·refine wpAny_passesOwn hp (bA (T.done X rfl rfl rfl hc i ζ s3 σ3 H3 X.xe I3 (Q5 fr3) st3 stop) λr s4 ⟨hr,I4⟩=>?_);subst hr;exact wpAny_execs_nil ⟨σ3,H3,I4,qn⟩
 ·refine wpAny_passesOwn hp (bA (T.item X rfl rfl rfl hc i ζ s3 σ3 H3 X.xe I3 (Q5 fr3) st3 go) λr s4 ⟨u,hr,h4⟩=>?_);subst hr;refine wpAny_passesOwn hp (bA h4 λ_ s5 ⟨x,H5,I5,r5,y5,XY,Vq⟩=>?_);have I5':=I5.pinned (Q5 Vq) (T.obj _ _ XY);refine wpAny_passesOwn hp (bA (hg _ s5 σ3 H5 x u _ I5' r5 (step x H5 y5)) λ_ s6 ⟨σ6,H6,I6,q6⟩=>?_);refine wpAny_passesOwn hp (bA (hb _ s6 σ6 H6 _ I6 q6) λf s7 q7=>?_);have again:∀{σ7:St} {H7:Hp},Inv X (ζ++x4 fp s5.heap) σ7 H7 s7->N σ7 H7->∃m,m<n/\∃i σ' H',Inv X ζ σ' H' s7/\tn i s7.heap/\(∀b∈fp,H' b=none)/\W i m σ' H':=λ{σ7 H7} I7 n7=>by obtain ⟨m',hm,w7⟩:=hN σ7 H7 n7;refine ⟨m',hm,i+1,σ7,H7,I7.kM,T.keep _ _ _ XY λb hb o e=>(I7.pin (b,o) (aaz _ (aaz _ (fi hb e)))).1,λb hb=>?_,w7⟩;obtain ⟨o,e,d⟩:=T.obj _ _ XY b hb;exact (I7.pin (b,o) (aaz _ (aaz _ (fi hb e)))).2.1
  cases f with
  |next=>obtain ⟨σ7,H7,I7,n7⟩:=q7;exact again I7 n7
  |cont=>obtain ⟨σ7,H7,I7,n7⟩:=q7;exact again I7 n7
  |brk=>obtain ⟨σ7,H7,I7,q7⟩:=q7;exact ⟨σ7,H7,I7.kM,q7⟩
  |ret v=>obtain ⟨x7,σ7,H7,I7,r7,q7⟩:=q7;exact ⟨x7,σ7,H7,I7.kM,r7,q7⟩
end
abbrev R2:=V->V->Hp->VK->Prop
def jL(X:Cx)(f:Value->Value->Sem Value)(r:R2):Prop:=
 ∀(ζ:List (Addr×Obj)) (s:Shared) (σ:St) (H:Hp) (x y:V) (v u:Value) (Q:VK),Inv X ζ σ H s->aC x v->aC y u->r x y H Q->
  wpAny (model X.prog X.w) X.A (f v u) (EP X ζ σ Q) X.xe s
def Vx(X:Cx)(f:Value->Sem Value)(r:V->Hp->VK->Prop):Prop:=
 ∀(ζ:List (Addr×Obj)) (s:Shared) (σ:St) (H:Hp) (x:V) (v:Value) (Q:VK),Inv X ζ σ H s->aC x v->r x H Q->
  wpAny (model X.prog X.w) X.A (f v) (EP X ζ σ Q) X.xe s
def dw(X:Cx)(f:Value)(r:List V->Hp->VK->Prop):Prop:=
 ∀(ζ:List (Addr×Obj)) (s:Shared) (σ:St) (H:Hp) (xs:List V) (us:List Value) (Q:VK),Inv X ζ σ H s->ax xs us->r xs H Q->
  wpAny (model X.prog X.w) X.A (call f us) (EP X ζ σ Q) X.xe s
def Th(r:R2)(ta tb:TE):TE:=λσ H Q=>ta σ H λx H1=>tb σ H1 λy H2=>r x y H2 Q
def Z_(r:V->Hp->VK->Prop)(ta:TE):TE:=λσ H Q=>ta σ H λx H1=>r x H1 Q
def rI(C:Int->Int->Prop)(g:Int->Int->V):R2:=λx y H Q=>∃i j,x= .int i/\y= .int j/\C i j/\Q (g i j) H
def GV(g:Int->Int->V):R2:=λx y H Q=>∃i j,x= .int i/\y= .int j/\Q (g i j) H
def rU(g:Int->V):V->Hp->VK->Prop:=λx H Q=>∃i,x= .int i/\Q (g i) H
section
variable{X:Cx}{a b c:Expr}{ta tb tc:TE}{pos:Pos}
theorem PF(ha:PE X a ta)(hb:PE X b tb){ζ:List (Addr×Obj)}{s:Shared}{σ:St}{H:Hp}{R:V->V->Hp->Prop}(I:Inv X ζ σ H s)
  (h:ta σ H λx H1=>tb σ H1 λy H2=>R x y H2) {Q:Value->Shared->Prop} {f:Value->Value->Sem Value}
  (hf:∀v u s2 x y H2,Inv X ζ σ H2 s2->aC x v->aC y u->R x y H2->wpAny (model X.prog X.w) X.A (f v u) Q X.xe s2):
  wpAny (model X.prog X.w) X.A (eval a X.env) (λv s₁=>wpAny (model X.prog X.w) X.A (eval b X.env) (λu s₂=>wpAny (model X.prog X.w) X.A (f v u) Q X.xe s₂) X.xe s₁) X.xe s:=by
 refine bA (ha ζ s σ H _ I h) λv s1 ⟨x,H1,I1,r1,q1⟩=>?_;refine bA (hb ζ s1 σ H1 _ I1 q1) λu s2 ⟨y,H2,I2,r2,q2⟩=>?_;exact hf v u s2 x y H2 I2 r1 r2 q2
theorem So{op:Operator}{r:R2}(ho:jL X (binaryOp op) r)(ha:PE X a ta)(hb:PE X b tb):PE X (.BinOp a op b pos) (Th r ta tb):=by intro ζ s σ H Q I h;exact wpAny_BinOp (PF ha hb I h λv u s2 x y H2 I2 rx ry q=>ho ζ s2 σ H2 x y v u Q I2 rx ry q)
theorem Um{op:UnaryOp}{r:V->Hp->VK->Prop}(ho:Vx X (unaryOp op) r)(ha:PE X a ta):PE X (.UnaryOp op a pos) (Z_ r ta):=by intro ζ s σ H Q I h;exact UnaryOp_ (bA (ha ζ s σ H _ I h) λv s1 ⟨x,H1,I1,r1,q1⟩=>ho ζ s1 σ H1 x v Q I1 r1 q1)
theorem VB{f:Value->Value->Sem Value}{C:Int->Int->Prop}{g:Int->Int->Int}
  (rule:∀(i j:Int) (t u:Tok) (s:Shared) (Q:Value->Shared->Prop) (E:Value->Shared->Prop),C i j->Q (.int (g i j) s.toks) {s with toks:=s.toks+1}->wpAny (model X.prog X.w) X.A (f (.int i t) (.int j u)) Q E s):
  jL X f (rI C λi j=> .int (g i j)):=by
 intro ζ s σ H x y v u Q I rx ry h;obtain ⟨i,j,rfl,rfl,hc,q⟩:=h;obtain ⟨t,rfl⟩:=rx;obtain ⟨t',rfl⟩:=ry;exact rule i j t t' s _ _ hc ⟨.int (g i j),H,I.tok _,⟨_,rfl⟩,q⟩
theorem Tc{f:Value->Value->Sem Value}{g:Int->Int->Int}
  (rule:∀(i j:Int) (t u:Tok) (s:Shared) (Q:Value->Shared->Prop) (E:Value->Shared->Prop),Q (.int (g i j) s.toks) {s with toks:=s.toks+1}->wpAny (model X.prog X.w) X.A (f (.int i t) (.int j u)) Q E s):
  jL X f (GV λi j=> .int (g i j)):=by
 intro ζ s σ H x y v u Q I rx ry h;obtain ⟨i,j,rfl,rfl,q⟩:=h;obtain ⟨t,rfl⟩:=rx;obtain ⟨t',rfl⟩:=ry;exact rule i j t t' s _ _ ⟨.int (g i j),H,I.tok _,⟨_,rfl⟩,q⟩
theorem NA{f:Value->Value->Sem Value}{g:Int->Int->Bool}
  (rule:∀(i j:Int) (t u:Tok) (s:Shared) (Q:Value->Shared->Prop) (E:Value->Shared->Prop),Q (.bool (g i j)) s->wpAny (model X.prog X.w) X.A (f (.int i t) (.int j u)) Q E s):
  jL X f (GV λi j=> .bl (g i j)):=by
 intro ζ s σ H x y v u Q I rx ry h;obtain ⟨i,j,rfl,rfl,q⟩:=h;obtain ⟨t,rfl⟩:=rx;obtain ⟨t',rfl⟩:=ry;exact rule i j t t' s _ _ ⟨.bl (g i j),H,I,rfl,q⟩
def zm(i j:Int):Prop:=0<=j/\j<=1000000/\i.natAbs<2^64
theorem O7:jL X (binaryOp .Add) (GV λi j=> .int (i+j)):=Tc λ_ _ _ _ _ _ _ q=>add_int q
theorem Py:jL X (binaryOp .Sub) (GV λi j=> .int (i-j)):=Tc λ_ _ _ _ _ _ _ q=>sub_int q
theorem Qk:jL X (binaryOp .Mod) (rI (λ_ j=>0<j) λi j=> .int (i%j)):=VB λi j _ _ _ _ _ hc q=>by have h1:(0:Int)<j:=hc;exact mod_int' (by omega) (by rw [abC i (by omega)];exact q)
theorem OV:jL X (binaryOp .Pow) (rI zm λi j=> .int (i^j.toNat)):=VB λ_ _ _ _ _ _ _ hc q=>pow_int_small hc.1 hc.2.1 hc.2.2 q
theorem unI{f:Value->Sem Value}{g:Int->Int}
  (rule:∀(i:Int) (t:Tok) (s:Shared) (Q:Value->Shared->Prop) (E:Value->Shared->Prop),Q (.int (g i) s.toks) {s with toks:=s.toks+1}->wpAny (model X.prog X.w) X.A (f (.int i t)) Q E s):
  Vx X f (rU λi=> .int (g i)):=by
 intro ζ s σ H x v Q I rx h;obtain ⟨i,rfl,q⟩:=h;obtain ⟨t,rfl⟩:=rx;exact rule i t s _ _ ⟨.int (g i),H,I.tok _,⟨_,rfl⟩,q⟩
theorem PK:Vx X (unaryOp .USub) (rU λi=> .int (-i)):=unI λ_ _ _ _ _ q=>neg_int q
end
def UY:V->V->Bool
 |.bw,.bw=>true|.bw,.int _=>true|.int _,.bw=>true|.bw,.bl _=>true|.bl _,.bw=>true|.bw,.str _=>true|.str _,.bw=>true
 |.int _,.int _=>true|.bl _,.bl _=>true|.str _,.str _=>true|.Hs _, .Hs _=>true
 |.int _,.str _=>true|.str _,.int _=>true|.bl _,.str _=>true|.str _,.bl _=>true
 |_,_=>false
def rEq:R2:=λx y H Q=>UY x y=true/\Q (.bl (decide (x=y))) H
def ZO:R2:=λx y H Q=>UY x y=true/\Q (.bl (!decide (x=y))) H
theorem Ea{i j:Int}:decide (V.int i=V.int j)=(i==j):=by rw [Bool.eq_iff_iff];simp
theorem JJ{i j:Bool}:decide (V.bl i=V.bl j)=(i==j):=by rw [Bool.eq_iff_iff];simp
theorem EG{i j:Str}:decide (V.str i=V.str j)=(i==j):=by rw [Bool.eq_iff_iff];simp
theorem Ez{i j:Array UInt8}:decide (V.Hs i=V.Hs j)=(i.toList==j.toList):=by rw [Bool.eq_iff_iff];cases i;cases j;simp
section
variable{X:Cx}{a b c:Expr}{ta tb tc:TE}{pos:Pos}
theorem aK{ζ:List (Addr×Obj)}{σ:St}{H:Hp}{s:Shared}{Q:VK}{k k':Bool}(I:Inv X ζ σ H s)(q:Q (.bl k) H)(e:k=k'):EP X ζ σ Q (.bool k') s:=by subst e;exact ⟨.bl k,H,I,rfl,q⟩
theorem NW:jL X (compareOp .Eq) rEq:=by
 intro ζ s σ H x y v u Q I rx ry h;obtain ⟨hs,q⟩:=h;cases x with
 |bw=>
  cases rx;cases y with
  |bw=>cases ry;exact PySem.EqNone.eq_none_none (aK I q (by simp))
  |bl j=>cases ry;exact PySem.EqNone.eq_none_bool (aK I q (by simp))
  |int j=>obtain ⟨t',rfl⟩:=ry;exact PySem.EqNone.eq_none_int (aK I q (by simp))
  |str j=>obtain ⟨t',rfl⟩:=ry;exact PySem.EqNone.eq_none_str (aK I q (by simp))
  |_=>exact absurd (show false=true from hs) aaw
 |bl i=>
  cases rx;cases y with
  |bw=>cases ry;exact PySem.EqNone.eq_bool_none (aK I q (by simp))
  |bl j=>cases ry;exact eq_bool (aK I q JJ)
  |str j=>obtain ⟨t',rfl⟩:=ry;exact PySem.EqMixed.eq_bool_str (aK I q (by simp))
  |_=>exact absurd (show false=true from hs) aaw
 |int i=>
  obtain ⟨t,rfl⟩:=rx;cases y with
  |bw=>cases ry;exact PySem.EqNone.eq_int_none (aK I q (by simp))
  |int j=>obtain ⟨t',rfl⟩:=ry;exact eq_int (aK I q Ea)
  |str j=>obtain ⟨t',rfl⟩:=ry;exact PySem.EqMixed.eq_int_str (aK I q (by simp))
  |_=>exact absurd (show false=true from hs) aaw
 |str i=>
  obtain ⟨t,rfl⟩:=rx;cases y with
  |bw=>cases ry;exact PySem.EqNone.eq_str_none (aK I q (by simp))
  |bl j=>cases ry;exact PySem.EqMixed.eq_str_bool (aK I q (by simp))
  |int j=>obtain ⟨t',rfl⟩:=ry;exact PySem.EqMixed.eq_str_int (aK I q (by simp))
  |str j=>obtain ⟨t',rfl⟩:=ry;exact eq_str (aK I q EG)
  |_=>exact absurd (show false=true from hs) aaw
 |Hs i=>
  obtain ⟨t,rfl⟩:=rx;cases y with
  |Hs j=>obtain ⟨t',rfl⟩:=ry;exact PySem.W.eq_bytes (aK I q Ez)
  |_=>exact absurd (show false=true from hs) aaw
 |_=>cases y <;> exact absurd (show false=true from hs) aaw
theorem SY:jL X (compareOp .NotEq) ZO:=by
 intro ζ s σ H x y v u Q I rx ry h;obtain ⟨hs,q⟩:=h;cases x with
 |bw=>
  cases rx;cases y with
  |bw=>cases ry;exact PySem.EqNone.ne_none_none (aK I q (by simp))
  |bl j=>cases ry;exact PySem.EqNone.ne_none_bool (aK I q (by simp))
  |int j=>obtain ⟨t',rfl⟩:=ry;exact PySem.EqNone.ne_none_int (aK I q (by simp))
  |str j=>obtain ⟨t',rfl⟩:=ry;exact PySem.EqNone.ne_none_str (aK I q (by simp))
  |_=>exact absurd (show false=true from hs) aaw
 |bl i=>
  cases rx;cases y with
  |bw=>cases ry;exact PySem.EqNone.ne_bool_none (aK I q (by simp))
  |bl j=>cases ry;exact ne_bool (aK I q (congrArg not JJ))
  |str j=>obtain ⟨t',rfl⟩:=ry;exact PySem.EqMixed.ne_bool_str (aK I q (by simp))
  |_=>exact absurd (show false=true from hs) aaw
 |int i=>
  obtain ⟨t,rfl⟩:=rx;cases y with
  |bw=>cases ry;exact PySem.EqNone.ne_int_none (aK I q (by simp))
  |int j=>obtain ⟨t',rfl⟩:=ry;exact ne_int (aK I q (congrArg not Ea))
  |str j=>obtain ⟨t',rfl⟩:=ry;exact PySem.EqMixed.ne_int_str (aK I q (by simp))
  |_=>exact absurd (show false=true from hs) aaw
 |str i=>
  obtain ⟨t,rfl⟩:=rx;cases y with
  |bw=>cases ry;exact PySem.EqNone.ne_str_none (aK I q (by simp))
  |bl j=>cases ry;exact PySem.EqMixed.ne_str_bool (aK I q (by simp))
  |int j=>obtain ⟨t',rfl⟩:=ry;exact PySem.EqMixed.ne_str_int (aK I q (by simp))
  |str j=>obtain ⟨t',rfl⟩:=ry;exact ne_str (aK I q (congrArg not EG))
  |_=>exact absurd (show false=true from hs) aaw
 |Hs i=>
  obtain ⟨t,rfl⟩:=rx;cases y with
  |Hs j=>obtain ⟨t',rfl⟩:=ry;exact PySem.W.ne_bytes (aK I q (congrArg not Ez))
  |_=>exact absurd (show false=true from hs) aaw
 |_=>cases y <;> exact absurd (show false=true from hs) aaw
theorem OD:jL X (compareOp .Lt) (GV λi j=> .bl (decide (i<j))):=NA λ_ _ _ _ _ _ _ q=>lt_int q
theorem UD:jL X (compareOp .LtE) (GV λi j=> .bl (decide (i<=j))):=NA λ_ _ _ _ _ _ _ q=>le_int q
theorem TY:jL X (compareOp .Gt) (GV λi j=> .bl (decide (j<i))):=NA λ_ _ _ _ _ _ _ q=>gt_int q
theorem T7:jL X (compareOp .GtE) (GV λi j=> .bl (decide (j<=i))):=NA λ_ _ _ _ _ _ _ q=>ge_int q
theorem Qi:jL X (compareOp .Is) (λx y H Q=>y= .bw/\Q (.bl (decide (x= .bw))) H):=by
 intro ζ s σ H x y v u Q I rx ry h;obtain ⟨rfl,q⟩:=h;cases ry;refine is_none_gen (aK I q ?_)
 cases x <;> first
  |(cases rx;rfl)
  |(obtain ⟨t,rfl⟩:=rx;rfl)
theorem jL.or{f:Value->Value->Sem Value}{r r':R2}(h:jL X f r)(h':jL X f r'):jL X f (λx y H Q=>r x y H Q\/r' x y H Q):=by
 intro ζ s σ H x y v u Q I rx ry q;rcases q with q|q
 ·exact h ζ s σ H x y v u Q I rx ry q
 ·exact h' ζ s σ H x y v u Q I rx ry q
theorem jo(b:Expr){op:CmpOp}(h:op≠ .In:=by decide)(h2:op≠ .NotIn:=by decide):behindInMarks op b=false:=by
 have e1:(op==CmpOp.In)=false:=by cases op <;> first|rfl|exact absurd rfl h
 have e2:(op==CmpOp.NotIn)=false:=by cases op <;> first|rfl|exact absurd rfl h2
 cases b <;> simp [behindInMarks,e1,e2]
theorem Mp{op:CmpOp}{r:R2}(ho:jL X (compareOp op) r)(ha:PE X a ta)(hb:PE X b tb)(hm:behindInMarks op b=false):PE X (.Compare a [op] [b] pos) (Th r ta tb):=by intro ζ s σ H Q I h;exact wpAny_Compare1 (PF ha hb I h λv u s2 x y H2 I2 rx ry q=>ho ζ s2 σ H2 x y v u Q I2 rx ry q) hm
def T_(t:TE):TT:=λσ H Q=>t σ H λx H'=>∃k,x= .bl k/\Q k H'
theorem Nz{op:CmpOp}{r:R2}(ho:jL X (compareOp op) r)(ha:PE X a ta)(hb:PE X b tb)(hm:behindInMarks op b=false):PT X (.Compare a [op] [b] pos) (T_ (Th r ta tb)):=by
 intro ζ s σ H Q I h
 refine wpAny_isTrue_Compare1 (bA (ha ζ s σ H _ I h) λv s1 ⟨x,H1,I1,r1,q1⟩=>bA (hb ζ s1 σ H1 _ I1 q1) λu s2 ⟨y,H2,I2,r2,q2⟩=>
  bA (ho ζ s2 σ H2 x y v u _ I2 r1 r2 q2) λc s3 ⟨z,H3,I3,r3,k,e,q3⟩=>?_) hm
 subst e;cases r3;exact wpAny_truthy_bool ⟨H3,I3,q3⟩
theorem oy:(sizeLine:Nat)<2^63:=by rw [sizeLine_eq];decide
theorem B7:jL X (binaryOp .Add) (λx y H Q=>∃i j,x= .str i/\y= .str j/\i.length+j.length<=sizeLine/\Q (.str (i++j)) H):=by intro ζ s σ H x y v u Q I rx ry h;obtain ⟨i,j,rfl,rfl,hz,q⟩:=h;obtain ⟨t,rfl⟩:=rx;obtain ⟨t',rfl⟩:=ry;exact add_str (λt' tk=>⟨.str (i++j),H,I.tok _,⟨_,rfl⟩,q⟩) hz
theorem kX{x:V}{us:List Value}(r:ax [x] us):∃u,us=[u]/\aC x u:=by
 cases r with
 |cons r1 r2=>cases r2;exact ⟨_,rfl,r1⟩
theorem OK{x y:V}{us:List Value}(r:ax [x,y] us):∃u w',us=[u,w']/\aC x u/\aC y w':=by
 cases r with
 |cons r1 r2=>
  cases r2 with
  |cons r3 r4=>cases r4;exact ⟨_,_,rfl,r1,r3⟩
theorem KW:dw X (.builtin "abs") (λxs H Q=>∃i,xs=[.int i]/\Q (.int (if i<0 then -i else i)) H):=by intro ζ s σ H xs us Q I r h;obtain ⟨i,rfl,q⟩:=h;obtain ⟨u,rfl,t,rfl⟩:=kX r;exact call_abs_int λu tk=>⟨.int (if i<0 then -i else i),H,I.tok _,⟨_,rfl⟩,q⟩
theorem E_(hc:X.calm=true):dw X (.builtin "min") (λxs H Q=>∃i j,xs=[.int i,.int j]/\Q (.int (if j<i then j else i)) H):=by
 intro ζ s σ H xs us Q I r h;obtain ⟨i,j,rfl,q⟩:=h;obtain ⟨u,w',rfl,⟨t,rfl⟩,⟨t',rfl⟩⟩:=OK r;refine min_two_ints (I.ok.hd hc) λh' tk k=>⟨_,H,I.kept k,?_,q⟩;by_cases hj:j<i
 ·rw [if_pos hj,if_pos hj];exact ⟨_,rfl⟩
 ·rw [if_neg hj,if_neg hj];exact ⟨_,rfl⟩
theorem Gj:dw X (.type "int") (λxs H Q=>(∃i,xs=[.int i]/\Q (.int i) H)\/∃k,xs=[.bl k]/\Q (.int (if k then 1 else 0)) H):=by
 intro ζ s σ H xs us Q I r h;rcases h with ⟨i,rfl,q⟩|⟨k,rfl,q⟩
 ·obtain ⟨u,rfl,t,rfl⟩:=kX r;exact call_int_int ⟨.int i,H,I,⟨_,rfl⟩,q⟩
 ·obtain ⟨u,rfl,r1⟩:=kX r;cases r1;exact call_int_bool ⟨.int (if k then 1 else 0),H,I.tok _,⟨_,rfl⟩,q⟩
end
structure BN(h:Heap)(x dx C:Addr)(mA:Str->Option Value):Prop where
 obj:h.get? x=some (PySem.W.instObj C dx)
 ns:h.Ns1 dx mA
 ne:dx≠x
theorem GL{h:Heap}{dx:Addr}{mA:Str->Option Value}(n:h.Ns1 dx mA):∃od,h.get? dx=some od/\∀name,PySem.W.lookIn name od=some (mA name):=by
 obtain ⟨o,es,ep,ho,hd,hk,_,hm⟩:=n;refine ⟨o,ho,λname=>?_⟩;have e:=hm name;unfold nsFind findBy at e;rw [<-Array.find?_toList] at e;unfold PySem.W.lookIn;rw [hd];dsimp only;split
 ·rename_i y q;rw [q] at e;exact congrArg some e
 ·rename_i q;rw [q] at e;have a:es.toList.any (·.refKey)=false:=by rw [List.any_eq_false];intro y hy;obtain ⟨z,t,WW⟩:=hk y (Array.mem_toList_iff.mp hy);simp [DictEntry.refKey,WW]
  have a':¬es.toList.any (·.refKey)=true:=by rw [a];exact aaw
  rw [if_neg a'];exact congrArg some e
theorem BN.look{h:Heap}{x dx C:Addr}{mA:Str->Option Value}(I:BN h x dx C mA):∃od,PySem.W.InstAt h x (PySem.W.instObj C dx) C (some od)/\∀name,PySem.W.lookIn name od=some (mA name):=
 let ⟨od,ho,hl⟩:=GL I.ns
 ⟨od,⟨I.obj,rfl,rfl,ho⟩,hl⟩
section
variable{prog:Program}{w:World}{A:Around}{E:Value->Shared->Prop}{s:Shared}{K:fI}{x dx C f:Addr}{mA:Str->Option Value}{name:Str}{v:Value}
theorem qT{expr:Bool}{Q:Value->Shared->Prop}(X:K.In s.heap)(I:BN s.heap x dx C mA)(hg:PySem.W.plainGet K C name=true)(hh:PySem.W.hasDictIn K C=true)
  (ha:PySem.W.findIn K (.ref C) name=some none) (hv:mA name=some v) (hv':PySem.W.handedIn v=true) (h:Q v {s with toks:=s.toks+1}):
  wpAny (model prog w) A (getAttr (.ref x) name expr) Q E s:=by
 obtain ⟨od,J,hl⟩:=I.look;exact PySem.W.get_value X J (PySem.W.plainGet_of hg).1 (PySem.W.findObj_own hh ha rfl (by rw [hl,hv])) hv' h
theorem IC{pl:Sem Bool}{Q:Value×List Value->Shared->Prop}(X:K.In s.heap)(I:BN s.heap x dx C mA)(hg:PySem.W.plainGet K C name=true)
  (hf:PySem.W.findIn K (.ref C) name=some (some (.ref f))) (ht:PySem.W.isFn K (.ref f)=true) (hv:mA name=none) (h:Q (.ref f,[.ref x]) s):
  wpAny (model prog w) A (getMethod (.ref x) name pl) Q E s:=by
 obtain ⟨od,J,hl⟩:=I.look;exact PySem.W.method_fn X J (PySem.W.plainGet_of hg).1 (PySem.W.plainGet_of hg).2 hf (beq_iff_eq.mp ht) (by show (PySem.W.lookIn name od).map (·.isSome)=some false;rw [hl,hv];rfl) h
theorem Nq{ns:List Str}{Q:Unit->Shared->Prop}(X:K.In s.heap)(I:BN s.heap x dx C mA)
  (hs:PySem.W.findIn K (.ref C) "__setattr__"=some (some (.builtin "object.__setattr__"))) (hp:PySem.W.plainOver K C=true) (ht:PySem.W.takerIn K C name=some none) (hh:PySem.W.hasDictIn K C=true)
  (hw:PySem.Within mA ns) (hsz:ns.length<=sizeLine)
  (h:∀h',BN h' x dx C (λy=>if y=name then some v else mA y)->Heap.SameBut dx s.heap h'->Q () {s with heap:=h',toks:=s.toks+2}):
  wpAny (model prog w) A (setAttr (.ref x) name v) Q E s:=by
 obtain ⟨od,J,hl⟩:=I.look;refine PySem.W.set_plain X J hs (PySem.W.osa_open (s:={s with toks:=s.toks+1}) (r:=none) X J hp ht λb=>?_);obtain ⟨cd,hc,wD⟩:=PySem.W.any_some hh;have hx:s.heap.get? x=some ⟨.ref C,some dx,.plain, #[]⟩:=I.obj;refine wpAny_bind (wpAny_pure (wpAny_bind (wpAny_bind (wpAny_loadPart hx (wpAny_bind (PySem.W.Looks.here (s:={s with toks:=s.toks+1}) (PySem.W.looks_clsIn X hc) ?_))))));rw [wD];refine wpAny_pure (a:=some dx) (wpAny_bind (wpAny_pure (wpAny_bind ?_)));refine wpAny_nsSet1 (s:={s with toks:=s.toks+1}) I.ns λh' VJ Q6=>?_;obtain ⟨oD,esD,epD,hoD,hdD,hcD⟩:=VJ.count (PySem.Within.cons name v hw);refine wpAny_bind (wpAny_lookBehind hoD (by rw [hdD];exact pastItsLine_dict (aap hcD (by rw [aax];omega))) ?_);exact wpAny_pure (h _ ⟨(Q6.2 _ (Ne.symm I.ne)).trans I.obj,VJ,I.ne⟩ Q6)
theorem K6{R:Result->Shared->Prop}{vs:List Value}{kw:List (Str×Value)}(X:K.In s.heap)(hm:PySem.W.makesIn K C=true)
  (hi:PySem.W.findIn K (.ref C) "__init__"=some (some (.ref f))) (hf:PySem.W.typeIn K (.ref f)=some (.type "function"))
  (h:codeAny (model prog w) (A.under (.builtin "type.__call__" ⟨.ref C::vs,kw⟩)) (.call (.ref f) ⟨.ref (s.heap.objs.size+1)::vs,kw⟩) (PySem.W.InitBack (s.heap.objs.size+1) R)
   {s with heap:=(s.heap.push PySem.W.emptyDict).push (PySem.W.instObj C s.heap.objs.size)}):
  codeAny (model prog w) A (.call (.ref C) ⟨vs,kw⟩) R s:=by
 obtain ⟨hh,g,d,t,os⟩:=s;exact PySem.W.make_core (PySem.W.makes_of X hm) (PySem.W.looks_findIn X hi) (λself=>PySem.W.bind_fn X self hf) (.inl rfl) h
end
def jU(f:Str)(v:V):List (Str×V)->List (Str×V)
 |[]=>[(f,v)]
 |(g,x)::r=>if g=f then (g,v)::r else (g,x)::jU f v r
theorem qc(f g:Str)(v:V):∀fs:List (Str×V),(jU f v fs).lookup g=if g=f then some v else fs.lookup g
 |[]=>by
  show List.lookup g [(f,v)]=_;by_cases h:g=f
  ·have hb:(g==f)=true:=beq_iff_eq.mpr h;simp only [List.lookup,hb,if_pos h]
  ·have hb:(g==f)=false:=beq_eq_false_iff_ne.mpr h;simp only [List.lookup,hb,if_neg h]
 |(k,x)::r=>by
  have ih:=qc f g v r;rw [show jU f v ((k,x)::r)=(if k=f then (k,v)::r else (k,x)::jU f v r) from rfl];by_cases hk:k=f
  ·rw [if_pos hk];by_cases h:g=k
   ·have hb:(g==k)=true:=beq_iff_eq.mpr h;simp only [List.lookup,hb,if_pos (h.trans hk)]
   ·have hb:(g==k)=false:=beq_eq_false_iff_ne.mpr h;simp only [List.lookup,hb,if_neg (λe:g=f=>h (e.trans hk.symm))]
  ·rw [if_neg hk];by_cases h:g=k
   ·have hb:(g==k)=true:=beq_iff_eq.mpr h;simp only [List.lookup,hb,if_neg (λe:g=f=>hk (h.symm.trans e))]
   ·have hb:(g==k)=false:=beq_eq_false_iff_ne.mpr h;simp only [List.lookup,hb];exact ih
theorem pR(f:Str)(v:V):∀fs:List (Str×V),f∈(jU f v fs).map (·.1)/\∀g,g∈fs.map (·.1)->g∈(jU f v fs).map (·.1)
 |[]=>⟨by simp [jU],λg h=>by simp at h⟩
 |(k,x)::r=>by
  obtain ⟨i1,i2⟩:=pR f v r;rw [show jU f v ((k,x)::r)=(if k=f then (k,v)::r else (k,x)::jU f v r) from rfl];by_cases hk:k=f
  ·rw [if_pos hk];subst hk;exact ⟨by simp,λg h=>by simpa using h⟩
  ·rw [if_neg hk];refine ⟨?_,λg h=>?_⟩
   ·rw [aaA];exact aad _ i1
   ·rw [aaA] at h⊢;rcases aaC.mp h with e|e
    ·exact aaC.mpr (.inl e)
    ·exact aad _ (i2 g e)
theorem qd(f:Str)(v:V):∀fs:List (Str×V),(jU f v fs).length<=fs.length+1
 |[]=>by simp [jU]
 |(k,x)::r=>by
  have ih:=qd f v r;rw [show jU f v ((k,x)::r)=(if k=f then (k,v)::r else (k,x)::jU f v r) from rfl];by_cases hk:k=f
  ·rw [if_pos hk,aax,aax];omega
  ·rw [if_neg hk,aax,aax];omega
theorem j3.some_of{v:V}{o:Option Value}(r:j3 (some v) o):∃u,o=some u/\aC v u:=by
 cases o with
 |none=>exact (show False from r).elim
 |some u=>exact ⟨u,rfl,r⟩
theorem j3.none_of{o:Option Value}(r:j3 none o):o=none:=by
 cases o with
 |none=>rfl
 |some u=>exact (show False from r).elim
theorem GG{v:V}{u:Value}(r:aC v u):PySem.W.handedIn u=true:=by
 cases v with
 |bw=>cases (show u=Value.none from r);rfl
 |bl b=>cases (show u=Value.bool b from r);rfl
 |int i=>obtain ⟨t,e⟩:=(show∃t,u=Value.int i t from r);cases e;rfl
 |str x=>obtain ⟨t,e⟩:=(show∃t,u=Value.str x t from r);cases e;rfl
 |Hs b=>obtain ⟨t,e⟩:=(show∃t,u=Value.bytes b t from r);cases e;rfl
 |Pc b=>obtain ⟨t,e⟩:=(show∃t,u=Value.float b t from r);cases e;rfl
 |ref a=>cases (show u=Value.ref a from r);rfl
 |ty n=>cases (show u=Value.type n from r);rfl
section
variable{P:Program}{w:World}{H H':Hp}{h h':Heap}{a C dx:Addr}{fs Yp:List (Str×V)}
theorem qH(aY:lE P w H h)(e:H a=some (.ins C dx fs)):∃mA,BN h a dx C mA/\(∀f,j3 (fs.lookup f) (mA f))/\PySem.Within mA (fs.map (·.1))/\fs.length<=1000/\H dx=some (.own a):=by obtain ⟨d,z,ne,ob,mA,n,r,q⟩:=(show bT P w H h a (.ins C dx fs) from aY a _ e);exact ⟨mA,⟨ob,n,ne⟩,r,q,z,d⟩
end
structure DU(K:fI)(C:Addr):Prop where
 pg:PySem.W.plainGet K C Str.empty=true
 hd:PySem.W.hasDictIn K C=true
 po:PySem.W.plainOver K C=true
 sa:PySem.W.findIn K (.ref C) "__setattr__"=some (some (.builtin "object.__setattr__"))
theorem DU.get{K:fI}{C:Addr}(c:DU K C)(f:Str):PySem.W.plainGet K C f=true:=c.pg
def iH(K:fI)(C:Addr)(f:Str):Prop:=PySem.W.findIn K (.ref C) f=some none
theorem iH.UG{K:fI}{C:Addr}{f:Str}(n:iH K C f):PySem.W.takerIn K C f=some none:=by unfold PySem.W.takerIn;rw [show PySem.W.findIn K (.ref C) f=some none from n];rfl
structure NN(K:fI)(C:Addr)(m:Str)(f:Addr):Prop where
 at_:PySem.W.findIn K (.ref C) m=some (some (.ref f))
 fn:PySem.W.isFn K (.ref f)=true
 kp:PySem.W.keepIn K (.ref f)=true
section
variable{X:Cx}{ζ:List (Addr×Obj)}{σ:St}{H:Hp}{s:Shared}{a C dx:Addr}{fs:List (Str×V)}{f:Str}{v:V}{A:Around}{E:Value->Shared->Prop}
theorem C6{b:Bool}{Q:Value->Shared->Prop}(I:Inv X ζ σ H s)(e:H a=some (.ins C dx fs))(c:DU X.K C)(n:iH X.K C f)(l:fs.lookup f=some v)
  (h:∀u s',Inv X ζ σ H s'->aC v u->Q u s'):wpAny (model X.prog X.w) A (getAttr (.ref a) f b) Q E s:=by
 obtain ⟨mA,O,r,_,_,_⟩:=qH I.aY e;obtain ⟨u,hu,ru⟩:=j3.some_of (v:=v) (o:=mA f) (by rw [<-l];exact r f);exact qT I.qp O (c.get f) c.hd n hu (GG ru) (h u _ (I.tok _) ru)
theorem t_{m:Str}{g:Addr}{pl:Sem Bool}{Q:Value×List Value->Shared->Prop}(I:Inv X ζ σ H s)(e:H a=some (.ins C dx fs))(c:DU X.K C)(k:NN X.K C m g)(l:fs.lookup m=none)
  (h:Q (.ref g,[.ref a]) s):wpAny (model X.prog X.w) A (getMethod (.ref a) m pl) Q E s:=by
 obtain ⟨mA,O,r,_,_,_⟩:=qH I.aY e;have hn:mA m=none:=j3.none_of (by rw [<-l];exact r m);exact IC I.qp O (c.get m) k.at_ k.fn hn h
theorem BK{y:V}{u:Value}{Q:Unit->Shared->Prop}(I:Inv X ζ σ H s)(e:H a=some (.ins C dx fs))(c:DU X.K C)(n:iH X.K C f)(hl:fs.length<1000)(ry:aC y u)
  (h:∀s',Inv X ζ σ (upd H a (.ins C dx (jU f y fs))) s'->Q () s'):wpAny (model X.prog X.w) A (setAttr (.ref a) f u) Q E s:=by
 obtain ⟨mA,O,r,wi,_,ho⟩:=qH I.aY e;have hz:(fs.map (·.1)).length<=sizeLine:=by rw [aac,sizeLine_eq];omega
 refine Nq I.qp O c.sa c.po n.UG c.hd wi hz λh' O' sb=>h _ ?_;have hd:∃o,h'.get? dx=some o:=let ⟨o,_,_,e',_⟩:=O'.ns;⟨o,e'⟩
 refine I.write (x:=a) (e:=dx) (by rw [e];exact True.intro) (.inr ho) (λb q hb z=>(sb.2 b hb).trans z) hd ?_;refine ⟨by rw [Κ O.ne];exact ho,?_,O.ne,O'.obj,_,O'.ns,λg=>?_,λg hg=>?_⟩
 ·have:=qd f y fs;omega
 ·show j3 ((jU f y fs).lookup g) (if g=f then some u else mA g);rw [qc];by_cases q:g=f
  ·rw [if_pos q,if_pos q];exact ry
  ·rw [if_neg q,if_neg q];exact r g
 ·by_cases q:g=f
  ·rw [q];exact (pR f y fs).1
  ·refine (pR f y fs).2 g (wi g λz=>hg ?_);show (if g=f then some u else mA g)=none;rw [if_neg q];exact z
theorem Inv.made(I:Inv X ζ σ H s):Inv X ζ σ (upd (upd H s.heap.objs.size (.own (s.heap.objs.size+1))) (s.heap.objs.size+1) (.ins C s.heap.objs.size []))
  {s with heap:=(s.heap.push PySem.W.emptyDict).push (PySem.W.instObj C s.heap.objs.size)}:=by
 have e1:(s.heap.push PySem.W.emptyDict).get? s.heap.objs.size=some PySem.W.emptyDict:=Heap.get?_push_size s.heap rfl;have e2:((s.heap.push PySem.W.emptyDict).push (PySem.W.instObj C s.heap.objs.size)).get? (s.heap.objs.size+1)=some (PySem.W.instObj C s.heap.objs.size):=by have:=Heap.get?_push_size (s.heap.push PySem.W.emptyDict) (o:=PySem.W.instObj C s.heap.objs.size) rfl;rwa [Heap.size_push] at this
 have e3:(s.heap.push PySem.W.emptyDict).Ns s.heap.objs.size (λ_=>none):=⟨PySem.W.emptyDict, #[],_,e1,rfl,(λe he=>absurd he (by simp)),λ_=>rfl⟩;have I1:=I.laid (a:=s.heap.objs.size) (o:= .own (s.heap.objs.size+1)) (h':=s.heap.push PySem.W.emptyDict) (t':=s.toks) (λb u q=>Heap.get?_push_of_some _ q) (aai _) ⟨_,e1⟩;refine I1.laid (a:=s.heap.objs.size+1) (o:= .ins C s.heap.objs.size []) (t':=s.toks) (λb u q=>Heap.get?_push_of_some _ q) (Nat.le_of_eq (Heap.size_push _ _)) ?_;have ne:s.heap.objs.size≠s.heap.objs.size+1:=aaI (abc _);refine ⟨by rw [Κ ne,ao],abP _,ne,e2,λ_=>none,(Heap.Ns1.of_empty e3).at λo q=>Heap.get?_push_of_some _ q,λ_=>True.intro,λy hy=>absurd rfl hy⟩
theorem MV{prog:Program}{w:World}{env:Env}{e:Expr}{f:Str}{pos:Pos}{s:Shared}{Q:Value->Shared->Prop}(hb:attributeBase e f env (eval e env)=eval e env)
  (h:wpAny (model prog w) A (eval e env) (λo s₁=>wpAny (model prog w) A (getAttr o f true) Q E s₁) E s):wpAny (model prog w) A (eval (.Attribute e f pos) env) Q E s:=
 Attribute_any_ h (by rw [arm_eval_Attribute,hb])
end
def Zt(K:fI)(ta:TE)(f:Str):TE:=λσ H Q=>ta σ H λx H1=>∃a C dx fs v,x= .ref a/\H1 a=some (.ins C dx fs)/\DU K C/\iH K C f/\fs.lookup f=some v/\Q v H1
def Wj(K:fI)(ta tv:TE)(f:Str):TS:=λD σ H=>tv σ H λy H1=>ta σ H1 λx H2=>∃a C dx fs,x= .ref a/\H2 a=some (.ins C dx fs)/\DU K C/\iH K C f/\fs.length<1000/\
 D.nx σ (upd H2 a (.ins C dx (jU f y fs)))
section
variable{X:Cx}{o e value:Expr}{f:Str}{pos pos' uC:Pos}{ta tv:TE}
theorem QS(he:PE X e ta)(hb:attributeBase e f X.env (eval e X.env)=eval e X.env):PE X (.Attribute e f pos) (Zt X.K ta f):=by intro ζ s σ H Q I h;refine MV hb (bA (he ζ s σ H _ I h) λu s1 ⟨x,H1,I1,rx,a,C,dx,fs,v,ex,ea,c,n,l,q⟩=>?_);subst ex;obtain rfl:u=Value.ref a:=rx;exact C6 I1 ea c n l λu' s2 I2 ru=>⟨v,H1,I2,ru,q⟩
theorem Po(ha:PE X o ta)(hv:PE X value tv)(hs:swapsWith value (some (.Attribute o f pos')) pos.line X.env=pure false):PS X (.Assign [.Attribute o f pos'] value pos) (Wj X.K ta tv f):=by intro ζ s σ H D I h;refine plainObj_wpAny_Assign_Attribute (bA (hv ζ s σ H _ I h) λu s1 ⟨y,H1,I1,ry,q⟩=>bA (ha ζ s1 σ H1 _ I1 q) λov s2 ⟨x,H2,I2,rx,a,C,dx,fs,ex,ea,c,n,l,q2⟩=>?_) hs;subst ex;obtain rfl:ov=Value.ref a:=rx;exact BK I2 ea c n l ry λs3 I3=>⟨σ,_,I3,q2⟩
end
section
variable{X:Cx}{ζ:List (Addr×Obj)}{σ:St}{H:Hp}{s:Shared}{A:Around}{E:Value->Shared->Prop}{Q:Value->Shared->Prop}{c:Value}{b:Bool}
inductive lD(K:fI)(H:Hp):V->Value->Prop where
 |bw:lD K H .bw (.type "NoneType")
 |bl (x:Bool):lD K H (.bl x) (.type "bool")
 |int (i:Int):lD K H (.int i) (.type "int")
 |str (x:Str):lD K H (.str x) (.type "str")
 |Pc (x:UInt64):lD K H (.Pc x) (.type "float")
 |lst {a:Addr} {xs:List V} (e:H a=some (.lst xs)):lD K H (.ref a) (.type "list")
 |yL {a:Addr} {o:Obj} {xs:List V} (e:H a=some (.yL o (.lst xs))):lD K H (.ref a) (.type "list")
 |tup {a:Addr} {xs:List V} (e:H a=some (.tup xs)):lD K H (.ref a) (.type "tuple")
 |dK {a:Addr} {Ο:List (Key×V)} (e:H a=some (.dK Ο)):lD K H (.ref a) (.type "dict")
 |dT {a:Addr} {Ο:List (List Key×V)} (e:H a=some (.dT Ο)):lD K H (.ref a) (.type "dict")
 | ins {a C dx:Addr} {fs:List (Str×V)} (e:H a=some (.ins C dx fs)) (cl:DU K C) (ha:PySem.W.findIn K (.ref C) "__class__"=some (some (.builtin "object.__class__")))
   (hn:PySem.W.specialIn K (.builtin "object.__class__") "__get__"=some (some (.builtin "getset_descriptor.__get__"))) (htk:PySem.W.takesIn K (.builtin "object.__class__")=some true)
   (hm:PySem.W.mroIn K C (.type "object")=some true):lD K H (.ref a) (.ref C)
theorem Gf{x:V}{u t:Value}(I:Inv X ζ σ H s)(rx:aC x u)(ty:lD X.K H x t)(e:PySem.W.kitOne X.K t c=some b)(h:∀tk,Q (.bool b) {s with toks:=tk}):
  wpAny (model X.prog X.w) A (call (.builtin "isinstance") [u,c]) Q E s:=by
 cases ty with
 |bw=>cases (show u=Value.none from rx);exact PySem.W.kia_one PySem.W.kitx_none I.qp True.intro e (λz=>nomatch z) h
 |bl y=>cases (show u=Value.bool y from rx);exact PySem.W.kia_one PySem.W.kitx_bool I.qp True.intro e (λz=>nomatch z) h
 |int i=>obtain ⟨t,q⟩:=(show∃t,u=Value.int i t from rx);cases q;exact PySem.W.kia_one PySem.W.kitx_int I.qp True.intro e (λz=>nomatch z) h
 |str y=>obtain ⟨t,q⟩:=(show∃t,u=Value.str y t from rx);cases q;exact PySem.W.kia_one PySem.W.kitx_str I.qp True.intro e (λz=>nomatch z) h
 |Pc y=>obtain ⟨t,q⟩:=(show∃t,u=Value.float y t from rx);cases q;exact PySem.W.kia_one PySem.W.kitx_float I.qp True.intro e (λz=>nomatch z) h
 |@lst a xs ea=>
  cases (show u=Value.ref a from rx);obtain ⟨_,_,n,_,h1⟩:=(show bT X.prog X.w H s.heap a (.lst xs) from I.aY a _ ea);exact PySem.W.kia_one PySem.W.kitx_list I.qp ⟨_,h1,rfl⟩ e (λz=>nomatch z) h
 |@yL a ob xs ea=>
  cases (show u=Value.ref a from rx);obtain ⟨_,_,_,n,_,h1⟩:=(show bT X.prog X.w H s.heap a (.yL ob (.lst xs)) from I.aY a _ ea);exact PySem.W.kia_one PySem.W.kitx_list I.qp ⟨_,h1,rfl⟩ e (λz=>nomatch z) h
 |@tup a xs ea=>
  cases (show u=Value.ref a from rx);obtain ⟨_,_,_,p⟩:=(show bT X.prog X.w H s.heap a (.tup xs) from I.aY a _ ea);obtain ⟨o,h1,h2,_⟩:=p;exact PySem.W.kia_one PySem.W.kitx_tuple I.qp ⟨o,h1,h2⟩ e (λz=>nomatch z) h
 |@dK a Ο ea=>
  cases (show u=Value.ref a from rx);obtain ⟨_,_,vs,_,p⟩:=(show bT X.prog X.w H s.heap a (.dK Ο) from I.aY a _ ea);obtain ⟨o,es,ep,h1,h2,_⟩:=p;exact PySem.W.kia_one PySem.W.kitx_dict I.qp ⟨o,h1,h2.1⟩ e (λz=>nomatch z) h
 |@dT a Ο ea=>
  cases (show u=Value.ref a from rx);obtain ⟨_,_,xs,_,o,es,ep,h1,h2,_⟩:=(show bT X.prog X.w H s.heap a (.dT Ο) from I.aY a _ ea);exact PySem.W.kia_one PySem.W.kitx_dict I.qp ⟨o,h1,h2.1⟩ e (λz=>nomatch z) h
 |@ins a C dx fs ea cl ha hn htk hm=>
  cases (show u=Value.ref a from rx);obtain ⟨mA,O,_⟩:=qH I.aY ea;obtain ⟨od,J,_⟩:=O.look;exact PySem.W.kia_one (PySem.W.kitx_own (cl.get _) cl.hd ha hn htk hm) I.qp J e (λz=>nomatch z) h
end
structure bM(k:Nat)(A:Around):Prop where
 hd:A.handled=none
 dp:A.depth+3*k+5<recursionLimit
 un:A.units+16*k+200<cLine
theorem bM.mono{j k:Nat}{A:Around}(r:bM k A)(h:j<=k):bM j A:=⟨r.hd,by have:=r.dp;omega,by have:=r.un;omega⟩
theorem bM.deeper{k:Nat}{A:Around}(r:bM (k+1) A)(env:Env):bM k (A.deeper env):=
 ⟨r.hd,by have:=r.dp;show A.depth+1+3*k+5<_;omega,by have:=r.un;show A.units+3+16*k+200<_;omega⟩
theorem Bi{A:Around}{C:Addr}{us:List Value}{kw:List (Str×Value)}:(A.under (.builtin "type.__call__" ⟨.ref C::us,kw⟩)).depth=A.depth+1:=by
 first|rfl|simp [Around.under,Code.weight,Code.isCreation,Code.isGuard,Code.isCaller,Code.frames,Code.isFrame,guardIds]
theorem Dd{A:Around}{C:Addr}{us:List Value}{kw:List (Str×Value)}:(A.under (.builtin "type.__call__" ⟨.ref C::us,kw⟩)).units=A.units+1:=by
 first|rfl|simp [Around.under,Code.cUnits,Code.frames,Code.isFrame]
theorem bM.make{k:Nat}{A:Around}(r:bM (k+1) A)(C:Addr)(us:List Value)(kw:List (Str×Value)):bM k (A.under (.builtin "type.__call__" ⟨.ref C::us,kw⟩)):=
 ⟨r.hd,by have:=r.dp;rw [Bi];omega,by have:=r.un;rw [Dd];omega⟩
theorem bM.depth{k:Nat}{A:Around}(r:bM k A):A.depth<recursionLimit:=by have:=r.dp;omega
theorem bM.units{k:Nat}{A:Around}(r:bM k A):A.units+64<cLine:=by have:=r.un;omega
theorem bM.B9{k:Nat}{A:Around}(r:bM k A):A.units<cLine:=by have:=r.un;omega
def UM:TA:=λ_ H Q=>Q [] H
def Sg(ta:TE)(tr:TA):TA:=λσ H Q=>ta σ H λx H1=>tr σ H1 λxs H2=>Q (x::xs) H2
section
variable{X:Cx}{e:Expr}{es:List Expr}{te:TE}{t:TA}{pos:Pos}
theorem Ph:PA X [] UM:=λ_ _ _ _ H Q I h=>Calls.spliced_nil ⟨[],H,I,.nil,h⟩
theorem M_(ha:PE X e te)(hr:PA X es t)(hs:starEach (e::es) X.env=(false,eval e X.env)::starEach es X.env:=by rfl):PA X (e::es) (Sg te t):=by intro pos ζ s σ H Q I h;rw [hs];show wpAny _ _ (spliced ((false,eval e X.env)::backTo pos (starEach es X.env))) _ _ s;refine Calls.spliced_cons (bA (ha ζ s σ H _ I h) λu s1 ⟨x,H1,I1,r1,q1⟩=>?_);exact bA (hr pos ζ s1 σ H1 _ I1 q1) λus s2 ⟨xs,H2,I2,r2,q2⟩=>⟨x::xs,H2,I2,.cons r1 r2,q2⟩
def YX(t:TA):TE:=λσ H Q=>t σ H λxs H1=>xs.length<=sizeLine/\∀p,H1 p=none->Q (.ref p) (upd H1 p (.tup xs))
def Xb(t:TA):TE:=λσ H Q=>t σ H λxs H1=>xs.length<=sizeLine/\∀p,H1 p=none->Q (.ref p) (upd H1 p (.lst xs))
theorem Rf{x1}(h:PA X es t):PE X (.Tuple es x1 pos) (YX t):=by intro ζ s σ H Q I hq;refine wpAny_Tuple_spliced (bA (h pos ζ s σ H _ I hq) λus s1 ⟨xs,H1,I1,r,z,q⟩=>⟨by rw [<-r.length];exact z,?_⟩);have hf:H1 s1.heap.objs.size=none:=I1.aY.fresh (aai _);refine ⟨.ref s1.heap.objs.size,upd H1 s1.heap.objs.size (.tup xs),I1.laid (t':=s1.toks) (λb u e=>Heap.get?_push_of_some _ e) (aai _) ?_,rfl,q _ hf⟩;exact ⟨z,us,r,⟨_,Heap.get?_push_size _ rfl,rfl,_,rfl⟩⟩
theorem Kd(h:PA X es t):PE X (.List es pos) (Xb t):=by intro ζ s σ H Q I hq;refine wpAny_List_spliced (bA (h pos ζ s σ H _ I hq) λus s1 ⟨xs,H1,I1,r,z,q⟩=>⟨by rw [<-r.length];exact z,?_⟩);have hf:H1 s1.heap.objs.size=none:=I1.aY.fresh (aai _);refine ⟨.ref s1.heap.objs.size,upd H1 s1.heap.objs.size (.lst xs),I1.laid (t':=s1.toks) (λb u e=>Heap.get?_push_of_some _ e) (aai _) ?_,rfl,q _ hf⟩;exact ⟨z,us,0,r,Heap.get?_push_size _ rfl⟩
end
abbrev Sp:=List V->Hp->VK->XK->Prop
abbrev A_:=List Env->Hp->Shared->XK->Value->Shared->Prop
structure BF(P:Program)(w:World)(K:fI)(mg:Str->Option Value)(base:Heap)(A:Around)(outer:List Env)(s:Shared)(H:Hp):Prop where
 frames:A.frames=some outer
 mod:Mod K mg base
 bs:∀b o,base.get? b=some o->s.heap.get? b=some o/\H b=none
 lA:base.objs.size<=s.heap.objs.size
 ux:s.heap.FunFrames base outer
 S2:∀b∈qB outer,H b=none
 aY:lE P w H s.heap
 bare:AllBare s.gens
def CE(outer:List Env)(P:Program)(w:World)(H:Hp)(s:Shared)(Q:VK)(u:Value)(s':Shared):Prop:=
 ∃v H',s'.os=s.os/\AllBare s'.gens/\Un (qB outer) [] H H' s.heap s'.heap/\lE P w H' s'.heap/\aC v u/\Q v H'
def CR(CX:A_)(outer:List Env)(P:Program)(w:World)(H:Hp)(s:Shared)(Q:VK)(E:XK)(r:Result)(s':Shared):Prop:=
 match r with
 |.ok (.ret u)=>CE outer P w H s Q u s'
 |.ok _=>False
 |.error e=>CX outer H s E e s'
structure ah(P:Program)(w:World)(K:fI)(mg:Str->Option Value)(base:Heap)(CX:A_)(k:Nat)(f:Addr)(fd:FuncData)(ps:List Str)(sp:Sp):Prop where
 len:∀vs H Q E,sp vs H Q E->vs.length=ps.length
 run:∀(A:Around) (outer:List Env) (s:Shared) (H:Hp) (args:Args) (us:List Value) (vs:List V) (Q:VK) (E:XK),bM k A->BF P w K mg base A outer s H->BindsTo s fd args (ps.zip us)->ax vs us->sp vs H Q E->
  codeAny (model P w) A (.call (.ref f) args) (CR CX outer P w H s Q E) s
theorem BF.make{P:Program}{w:World}{K:fI}{mg:Str->Option Value}{base:Heap}{A:Around}{outer:List Env}{s:Shared}{H:Hp}(e:BF P w K mg base A outer s H)(C:Addr)(us:List Value)(kw:List (Str×Value)):
  BF P w K mg base (A.under (.builtin "type.__call__" ⟨.ref C::us,kw⟩)) outer s H:=⟨by first|exact e.frames|(simpa [Around.under,Code.envs,Code.isFrame,pushEnvs] using e.frames),e.mod,e.bs,e.lA,e.ux,e.S2,e.aY,e.bare⟩
section
variable{X:Cx}{ζ:List (Addr×Obj)}{σ:St}{H:Hp}{s s':Shared}
theorem Inv.Sn(I:Inv X ζ σ H s):BF X.prog X.w X.K X.mg X.base X.A X.stack s H:=
 ⟨I.ok.frames,I.ok.mod,I.bs,aap I.ok.lA I.sz,I.stack,I.x_,I.aY,I.bare⟩
theorem Inv.after{Q:VK}{u:Value}(I:Inv X ζ σ H s)(h:CE X.stack X.prog X.w H s Q u s'):EP X ζ σ Q u s':=by obtain ⟨v,H',os,bare,un,aY,r,q⟩:=h;obtain ⟨hh,g,d,t,VO⟩:=s';obtain rfl:VO=s.os:=os;exact ⟨v,H',I.call (h':=hh) (g':=g) (d':=d) (t':=t) (ch:=[]) un aY bare (λb z=>absurd z (by simp)),r,q⟩
end
def iu(K:fI)(fd:FuncData)(ps:List Str)(ds:List Value):Prop:=
 ∀(s:Shared) (us:List Value),K.In s.heap->(us++ds).length=ps.length->BindsTo s fd ⟨us,[]⟩ (ps.zip (us++ds))
theorem iu.all{K:fI}{fd:FuncData}{ps:List Str}(h:∀us:List Value,us.length=ps.length->bindArgs fd ⟨us,[]⟩=pure (ps.zip us)):iu K fd ps []:=λs us _ hl=>by rw [aaZ] at hl⊢;exact .of_eq (h us hl)
section
variable{X:Cx}{CX:A_}{k:Nat}{f C:Addr}{fd:FuncData}{ps:List Str}{sp:Sp}{ou:List V}{ds:List Value}{E:XK}{x m:Str}{p pos apos:Pos}{e o:Expr}{es:List Expr}{ta:TE}{t:TA}
structure Mk(K:fI)(C f:Addr):Prop where
 makes:PySem.W.makesIn K C=true
 init:PySem.W.findIn K (.ref C) "__init__"=some (some (.ref f))
 fn:PySem.W.isFn K (.ref f)=true
 kp:PySem.W.keepIn K (.ref C)=true
end
structure Δ(N P:List Str)(sc:Scope):Prop where
 kind:sc.kind= .function
 co:sc.isCoroutine=false
 gen:sc.isGenerator=false
 nd:N.Nodup
 pre:N.take P.length=P
 par:∀x∈P,sc.names.lookup x=some .local\/sc.names.lookup x=some .cell
 Pb:∀y∈sc.names,y.2≠ .free
theorem u9{kindOf:Str->Option NameKind}{x:Str}:∀{binds:List (Str×Value)}{m:Str->Option Value},(∀v,(x,v)∉binds)->bindL kindOf binds m x=m x
 |[],_,_=>rfl
 |(n,v)::r,m,h=>by
  unfold bindL;rw [u9 λw hw=>h w (aad _ hw)];split
  ·have:x≠n:=by rintro rfl;exact h v aae
   simp [this]
  ·rfl
theorem uO{kindOf:Str->Option NameKind}{x:Str}:∀{binds:List (Str×Value)}{m:Str->Option Value},(∀v,(x,v)∉binds)->bindC kindOf binds m x=m x
 |[],_,_=>rfl
 |(n,v)::r,m,h=>by
  unfold bindC;rw [uO λw hw=>h w (aad _ hw)];split
  ·rfl
  ·have:x≠n:=by rintro rfl;exact h v aae
   simp [this]
theorem uQ{kindOf:Str->Option NameKind}{x:Str}{v:Value}:∀{P:List Str}{vs:List Value}{i:Nat}{m:Str->Option Value},P.Nodup->P[i]? =some x->vs[i]? =some v->kindOf x=some .local->
  bindL kindOf (P.zip vs) m x=some v
 |[],_,_,_,_,h,_,_=>by simp at h
 |_::_,[],_,_,_,_,h,_=>by simp at h
 |p::P,w::vs,0,m,nd,h1,h2,hk=>by simp at h1 h2;subst h1;subst h2;show bindL kindOf ((p,w)::P.zip vs) m p=_;unfold bindL;rw [u9 λv hv=>(aby.mp nd).1 (abf hv).1,if_pos hk];simp
 |p::P,w::vs,i+1,m,nd,h1,h2,hk=>by show bindL kindOf ((p,w)::P.zip vs) m x=_;unfold bindL;exact uQ (i:=i) (List.nodup_cons.mp nd).2 (by simpa using h1) (by simpa using h2) hk
theorem va{kindOf:Str->Option NameKind}{x:Str}{v:Value}:∀{P:List Str}{vs:List Value}{i:Nat}{m:Str->Option Value},P.Nodup->P[i]? =some x->vs[i]? =some v->kindOf x≠some .local->
  bindC kindOf (P.zip vs) m x=some v
 |[],_,_,_,_,h,_,_=>by simp at h
 |_::_,[],_,_,_,_,h,_=>by simp at h
 |p::P,w::vs,0,m,nd,h1,h2,hk=>by simp at h1 h2;subst h1;subst h2;show bindC kindOf ((p,w)::P.zip vs) m p=_;unfold bindC;rw [uO λv hv=>(aby.mp nd).1 (abf hv).1,if_neg hk];simp
 |p::P,w::vs,i+1,m,nd,h1,h2,hk=>by show bindC kindOf ((p,w)::P.zip vs) m x=_;unfold bindC;exact va (i:=i) (List.nodup_cons.mp nd).2 (by simpa using h1) (by simpa using h2) hk
def start(N:List Str)(vs:List V):St:=vs.map some++List.replicate (N.length-vs.length) none
def uk(CX:A_)(P:Program)(w:World)(K:fI)(mg:Str->Option Value)(base:Heap)(N:List Str)(qual:Str)(scope:Scope)(f:Addr)(cd:Value)(A:Around)(outer:List Env)(s:Shared)(H:Hp)(E:XK):Cx where
 prog:=P
 w:=w
 K:=K
 mg:=mg
 base:=base
 A:=A.deeper (envOfC qual scope s.heap.objs.size f cd)
 N:=N
 s₀:=s
 H₀:=H
 env:=envOfC qual scope s.heap.objs.size f cd
 outer:=outer
 stack:=envOfC qual scope s.heap.objs.size f cd::outer
 ex:=[]
 calm:=true
 fn:=λ_=>true
 pn:=[]
 xe:=λe s'=>wpAny (model P w) (A.deeper (envOfC qual scope s.heap.objs.size f cd)) (leaving (envOfC qual scope s.heap.objs.size f cd) e) (λ_ Zr=>CX outer H s E e Zr) (λe' Zr=>CX outer H s E e' Zr) s'
theorem zT{sc:Scope}{n:Nat}{x:Str}(h:sc.names.lookup x=some .cell):∃c,(cellsFrom n sc.names []).lookup x=some c:=by have q:=PySem.W.cellsFrom_some sc.names n [] (.inl h);exact abu.mp q
theorem G6{CX:A_}{P:Program}{w:World}{K:fI}{mg:Str->Option Value}{base:Heap}{N ps:List Str}{qual:Str}{scope:Scope}{f:Addr}{cd:Value}{A:Around}{outer:List Env}{s s1:Shared}{H:Hp}{E:XK}{us:List Value}{vs:List V}
  (S:Δ N ps scope) (hd:A.handled=none) (e0:BF P w K mg base A outer s H) (hl:vs.length=ps.length) (r:ax vs us)
  (x:InCallC s s.heap.objs.size (bindL (envOfC qual scope s.heap.objs.size f cd).kindOf (ps.zip us) λ_=>none) (cellsFrom (s.heap.objs.size+1) scope.names []) (bindC (envOfC qual scope s.heap.objs.size f cd).kindOf (ps.zip us) λ_=>none) s1):
  Inv (uk CX P w K mg base N qual scope f cd A outer s H E) [] (start N vs) H s1:=by
 have gq:ps.length<=N.length:=by have:=congrArg List.length S.pre;rw [abN] at this;omega
 obtain ⟨h1,tk,rfl,hk⟩:=x.done;have Sh:∀b:Addr,b∉(uk CX P w K mg base N qual scope f cd A outer s H E).ex:=λb z=>absurd (show b∈([]:List Addr) from z) (by simp)
 refine ⟨⟨e0.mod,S.kind,rfl,rfl,aai _,λy z c h1 h2=>?_,λy hy=>?_,λy c _ h=>?_,λ_=>hd,Around.frames_deeper e0.frames,.inr ⟨rfl,rfl⟩,λb z=>absurd z (Sh b),e0.bs,e0.lA,λb _ _=>Sh b,λb z=>absurd z (Sh b),e0.ux,e0.S2⟩,
  rfl,e0.bare,Un.kept hk,⟨_,x.toInCall.ns,λi y v h1 h2 h3=>?_⟩,λy c h=>⟨_,x.cell y c h⟩,e0.aY.fresh (Nat.le_refl _),λy c h=>?_,λp hp=>absurd (show p∈([]:List (Addr×Obj)) from hp) (by simp),e0.aY.kept hk,?_⟩
 ·exact name_of_addr x.apart (PySem.mem_of_lookup h1) (PySem.mem_of_lookup h2)
 ·have hy:scope.names.lookup y=some .cell\/scope.names.lookup y=some .free:=hy;rcases hy with hy|hy
  ·exact zT hy
  ·exact absurd rfl (S.Pb _ (PySem.mem_of_lookup hy))
 ·exact Nat.le_of_lt (x.above y c (PySem.mem_of_lookup h))
 ·have hi:i<vs.length:=by
   unfold start at h2;by_cases hi:i<vs.length
   ·exact hi
   ·rw [List.getElem?_append_right (by simpa using hi)] at h2;rw [abK] at h2;split at h2 <;> cases h2
  have ha:vs[i]? =some v:=by
   unfold start at h2;rw [List.getElem?_append_left (by simpa using hi),List.getElem?_map] at h2;cases e:vs[i]? with
   |none=>rw [e] at h2;cases h2
   |some a=>rw [e] at h2;cases h2;rfl
  obtain ⟨u,hu,rv⟩:=r.get ha;have hp:ps[i]? =some y:=by rw [<-S.pre,ab0 (by omega)];exact h1
  have ndP:ps.Nodup:=by rw [<-S.pre];exact S.nd.sublist (List.take_sublist _ _)
  refine ⟨u,rv,?_⟩;rcases S.par y (aam hp) with k|k
  ·exact .inl ⟨k,uQ ndP hp hu k⟩
  ·obtain ⟨c,e⟩:=zT (n:=s.heap.objs.size+1) k;refine .inr ⟨.inl k,c,e,?_⟩;have q:=x.cell y c e;rw [va ndP hp hu (by show scope.names.lookup y≠_;rw [k];decide)] at q;exact q
 ·exact e0.aY.fresh (Nat.le_of_lt (x.above y c (PySem.mem_of_lookup h)))
 ·unfold start;show _=N.length;rw [aah,aac,aaS];omega
theorem N4{CX:A_}{P:Program}{w:World}{K:fI}{mg:Str->Option Value}{base:Heap}{k:Nat}{f:Addr}{name qual:Str}{params:Arguments}{body:List Stmt}{scope:Scope}{dV kV doc pm aT ct oc:Value}{an od:Option Addr}
  {Bc:Array (Option Value)} {N ps:List Str} {sp:Sp} (lk:K.lookup f=some ⟨oc,od,.func (PySem.W.fnOf name qual params body scope dV kV doc pm an aT ct),Bc⟩) (EO:PySem.W.codeIn K aT qual=true) (S:Δ N ps scope)
  (len:∀vs H Q E,sp vs H Q E->vs.length=ps.length)
  (rM:∀(A:Around) (outer:List Env) (s:Shared) (H:Hp) (vs:List V) (Q:VK) (E:XK),bM k (A.deeper (envOfC qual scope s.heap.objs.size f aT))->sp vs H Q E->
   ∃t,Hx (uk CX P w K mg base N qual scope f aT A outer s H E) body t/\t {nx:=λ_ H'=>Q .bw H',rt:=Q} (start N vs) H):
  ah P w K mg base CX (k+1) f (PySem.W.fnOf name qual params body scope dV kV doc pm an aT ct) ps sp:=by
 refine ⟨len,λA outer s H args us vs Q E hr e0 hb r NV=>?_⟩;have hl:=len _ _ _ _ NV;have KX:K.In s.heap:=e0.mod.S6.keeps λb o e=>(e0.bs b o e).1;have lim:s.heap.NoLimit:=e0.mod.nolimit.keeps λb o e=>(e0.bs b o e).1;have J3:∀y∈ps.zip us,scope.names.lookup y.1=some .local\/(scope.names.lookup y.1=some .cell/\((cellsFrom (s.heap.objs.size+1) scope.names []).lookup y.1).isSome=true):=λ⟨n,v⟩ hy=>by
  rcases S.par n (abf hy).1 with q|q
  ·exact .inl q
  ·exact .inr ⟨q,PySem.W.cellsFrom_some _ _ _ (.inl q)⟩
 refine codeAny_call_function hr.depth (KX _ _ lk) rfl S.co S.gen rfl (PySem.W.codeRec_of KX EO) (hb _ _ _ _ ?_);refine wpAny_newFunctionEnv_cells S.kind J3 λenv he s1 x=>?_;subst he;refine ⟨lim.keeps x.toInCall.keep,codeAny_func ?_⟩;obtain ⟨t,ht,hq⟩:=rM A outer s H vs Q E (hr.deeper _) NV;have I:Inv (uk CX P w K mg base N qual scope f aT A outer s H E) [] (start N vs) H s1:=G6 S hr.hd e0 hl r x;refine wpAny_mono (ht [] s1 (start N vs) H _ I hq) (λfl s' hs=>?_) λe s' hs=>hs
 have fin:∀{σ':St} {H':Hp} {v:V} {u:Value},Inv (uk CX P w K mg base N qual scope f aT A outer s H E) [] σ' H' s'->aC v u->Q v H'->CE outer P w H s Q u s':=
  λ{σ' H' v u} J rv q=>⟨v,H',J.os,J.bare,J.base,J.aY,rv,q⟩
 cases fl with
 |ret u=>
  obtain ⟨v,σ',H',J,rv,q⟩:=hs;exact fin J rv q
 |next=>
  obtain ⟨σ',H',J,q⟩:=hs;exact fin (v:=V.bw) (u:=Value.none) J rfl q
 |brk=>
  obtain ⟨_,_,_,q⟩:=hs;exact False.elim q
 |cont=>
  obtain ⟨_,_,_,q⟩:=hs;exact False.elim q
section
variable{X:Cx}{x:Str}{p pos:Pos}{e:Expr}{es:List Expr}{t:TA}{id T:String}{r:List V->Hp->VK->Prop}
def X6(r:List V->Hp->VK->Prop)(t:TA):TE:=λσ H Q=>t σ H λvs H1=>r vs H1 Q
theorem Iu(hc:dw X (.builtin id) r)(hg:Gl X x)(hm:X.mg x=none)(hv:bootBuiltins x=some (.builtin id))(ha:PA X (e::es) t)(hn:x≠"__name__":=by decide)(uJ:(x==("__debug__":Str))=false:=by decide)
  (he:starEach (e::es) X.env=(false,eval e X.env)::starEach es X.env:=by rfl) (gq:(backTo pos (starEach es X.env)).any (·.1)=false:=by rfl):PE X (.Call (.Name x p) (e::es) [] pos) (X6 r t):=by
 intro ζ s σ H Q I h;refine wpAny_Call_Name_kw (mC I hg hm hv ?_ hn uJ);exact PyProof.Rows.callWith_builtin1 (bA (ha pos ζ s σ H _ I h) λus s1 ⟨vs,H1,I1,r1,q1⟩=>hc ζ s1 σ H1 vs us Q I1 r1 q1) he gq
theorem Gg(hc:dw X (.type T) r)(hg:Gl X x)(hm:X.mg x=none)(hv:bootBuiltins x=some (.type T))(ha:PA X (e::es) t)(hn:x≠"__name__":=by decide)(uJ:(x==("__debug__":Str))=false:=by decide)
  (he:starEach (e::es) X.env=(false,eval e X.env)::starEach es X.env:=by rfl) (gq:(backTo pos (starEach es X.env)).any (·.1)=false:=by rfl):PE X (.Call (.Name x p) (e::es) [] pos) (X6 r t):=by
 intro ζ s σ H Q I h;refine wpAny_Call_Name_kw (mC I hg hm hv ?_ hn uJ);exact PyProof.Rows.callWith_type1 (bA (ha pos ζ s σ H _ I h) λus s1 ⟨vs,H1,I1,r1,q1⟩=>hc ζ s1 σ H1 vs us Q I1 r1 q1) he gq
end
end L2
namespace HT
open PySem PyProof.Rows
section
variable{prog:Program}{w:World}{A:Around}{E:Value->Shared->Prop}{s:Shared}
theorem LQ{t b:Addr}{vs ws:List Value}{Q:Value->Shared->Prop}(ht:IsTup s.heap t vs.toArray)(hb:IsTup s.heap b ws.toArray)(hv:vs≠[])
  (h1:ws=[]->Q (.ref t) s) (h2:ws≠[]->Q (.ref s.heap.objs.size) {s with heap:=s.heap.push {cls:= .type "tuple",data:= .seq (vs++ws).toArray}})
  (hsz:vs.length+ws.length<=sizeLine):wpAny (model prog w) A (binaryOp .Add (.ref t) (.ref b)) Q E s:=by
 obtain ⟨⟨cls,dd,data,sl⟩,ho,hc,n,hd⟩:=id ht;obtain ⟨⟨ack,VT,data2,VQ⟩,VA,Z3,n2,hd2⟩:=id hb;simp only at hc hd Z3 hd2;subst hc hd Z3 hd2;have e:vs.toArray++ws.toArray=(vs++ws).toArray:=by simp
 by_cases hw:ws=[]
 ·exact concat_meets ⟨_,ho,rfl⟩ ⟨_,VA,rfl⟩ noFill_tuple_add seq_tuple_add PySem.F.slot_tuple_add PySem.F.entry_tuple_add (PySem.F.args_tuple_add_2 _ _)
   (tuple_addW1 t b vs.toArray ws.toArray n n2 dd VT sl VQ (by simpa using hv) (by simp [hw])) ⟨ho,VA,h1 hw⟩
 ·refine concat_meets ⟨_,ho,rfl⟩ ⟨_,VA,rfl⟩ noFill_tuple_add seq_tuple_add PySem.F.slot_tuple_add PySem.F.entry_tuple_add (PySem.F.args_tuple_add_2 _ _)
   (tuple_addW2 t b vs.toArray ws.toArray n n2 dd VT sl VQ (by simpa using hv) (by simpa using hw) (by rw [List.size_toArray,List.size_toArray];exact hsz)) ⟨ho,VA,?_⟩
  rw [e];exact h2 hw
def fN(n d:Nat):Option Int->Nat
 |none=>d
 |some v=>if v<0 then (v+(n:Int)).toNat else min v.toNat n
theorem zp(n d:Nat):fN n d none=d:=rfl
theorem n9(n d k:Nat):fN n d (some (k:Int))=min k n:=by show (if (k:Int)<0 then ((k:Int)+(n:Int)).toNat else min (k:Int).toNat n)=min k n;rw [if_neg (by omega),abx]
theorem Rm(n d:Nat)(hd:d<=n)(o:Option Int):fN n d o<=n:=by
 cases o with
 |none=>exact hd
 |some v=>
  show (if v<0 then (v+(n:Int)).toNat else min v.toNat n)<=n;by_cases hv:v<0
  ·rw [if_pos hv];omega
  ·rw [if_neg hv];exact Nat.min_le_right _ _
theorem Ef(v:Int)(n d:Nat):(if v<0 then max (v+(n:Int)) 0 else min v (n:Int))=((fN n d (some v):Nat):Int):=by
 show (if v<0 then max (v+(n:Int)) 0 else min v (n:Int))=(((if v<0 then (v+(n:Int)).toNat else min v.toNat n):Nat):Int);by_cases hv:v<0
 ·simp only [if_pos hv];omega
 ·simp only [if_neg hv];omega
theorem CW(lo hi:Option Int)(n:Nat):Builtin.Slice.sliceAdjust lo hi 1 (n:Int)=(((fN n 0 lo:Nat):Int),((fN n n hi:Nat):Int)):=by
 have h1:¬((1:Int)<0):=by omega
 unfold Builtin.Slice.sliceAdjust;simp only [h1,if_false];refine Prod.ext ?_ ?_
 ·cases lo with
  |none=>rfl
  |some v=>exact Ef v n 0
 ·cases hi with
  |none=>rfl
  |some v=>exact Ef v n n
theorem BP(i j:Nat):Builtin.Slice.slicePlaces (i:Int) (j:Int) 1=j-i:=by
 unfold Builtin.Slice.slicePlaces;have h1:(1:Int) > 0:=by omega
 simp only [h1,if_true,Int.ediv_one];split <;> omega
theorem tS{v:Value}{o:Option Int}{Q:Option Int->Shared->Prop}(p:IsPart v o)(h:Q o s):wpAny (model prog w) A (Builtin.Slice.slicePartIndex v) Q E s:=by
 cases p with
 |none=>exact slicePart_none h
 |int i t=>exact slicePart_int h
theorem pH{sl:Addr}{vl vu:Value}{lo hi:Option Int}{n:Nat}{Q:Int×Int×Nat->Shared->Prop}(hs:s.heap.IsSliceOf sl vl vu .none)(pl:IsPart vl lo)(pu:IsPart vu hi)
  (h:Q (((fN n 0 lo:Nat):Int),1,fN n n hi-fN n 0 lo) s):wpAny (model prog w) A (Builtin.Slice.sliceApplied (.ref sl) (pure (n:Int))) Q E s:=by
 obtain ⟨os,Qz,VF,QM⟩:=id hs;unfold Builtin.Slice.sliceApplied Builtin.Slice.sliceFields;refine wpAny_bind (wpAny_bind (wpAny_field Qz QM (x:=vl) rfl (wpAny_bind (wpAny_field Qz QM (x:=vu) rfl (wpAny_bind (wpAny_field Qz QM (x:= .none) rfl (wpAny_pure ?_)))))));refine wpAny_bind (slicePart_none ?_);show wpAny _ _ (if ((1:Int)==0)=true then _ else _) _ _ s;rw [if_neg (by decide)];refine wpAny_bind (tS pl (wpAny_bind (tS pu (wpAny_bind (wpAny_pure ?_)))));show wpAny _ _ (match Builtin.Slice.sliceAdjust lo hi 1 (n:Int) with|(lo,hi)=>pure (lo,(1:Int),Builtin.Slice.slicePlaces lo hi 1)) _ _ s;rw [CW lo hi n];show wpAny _ _ (pure (((fN n 0 lo:Nat):Int),(1:Int),Builtin.Slice.slicePlaces ((fN n 0 lo:Nat):Int) ((fN n n hi:Nat):Int) 1)) _ _ s;rw [BP];exact wpAny_pure h
theorem HW(xs:Array Value)(i k:Nat):((List.range k).filterMap λ(m:Nat)=>xs[((i:Int)+(m:Int)*1).toNat]?).toArray=((xs.toList.drop i).take k).toArray:=by
 have e:(λ(m:Nat)=>xs[((i:Int)+(m:Int)*1).toNat]?)=λm=>xs[i+m]? :=by
  funext m
  have:((i:Int)+(m:Int)*1).toNat=i+m:=by omega
  rw [this]
 rw [e];have:=pick_run xs i k;rw [List.filterMap_map] at this;have e2:((λx=>xs[x]?) ∘ λx=>i+x)=λm=>xs[i+m]? :=rfl;rw [e2] at this;rw [this]
theorem nh{t sl:Addr}{items:Array Value}{vl vu:Value}{lo hi:Option Int}{Q:Value->Shared->Prop}(ht:IsTup s.heap t items)(hs:s.heap.IsSliceOf sl vl vu .none)(pl:IsPart vl lo)(pu:IsPart vu hi)
  (hw:¬(fN items.size 0 lo=0/\fN items.size items.size hi=items.size))
  (h:Q (.ref s.heap.objs.size) {s with heap:=s.heap.push {cls:= .type "tuple",data:= .seq ((items.toList.drop (fN items.size 0 lo)).take (fN items.size items.size hi-fN items.size 0 lo)).toArray}})
  (hsz:items.size<=sizeLine):wpAny (model prog w) A (getItem (.ref t) (.ref sl)) Q E s:=by
 have ET:sizeOk (.seq ((items.toList.drop (fN items.size 0 lo)).take (fN items.size items.size hi-fN items.size 0 lo)).toArray):=by show ((items.toList.drop (fN items.size 0 lo)).take (fN items.size items.size hi-fN items.size 0 lo)).toArray.size<=sizeLine;rw [aas,abN,abj,Array.length_toList];omega
 have hj:fN items.size items.size hi<=items.size:=Rm _ _ (aai _) hi;obtain ⟨os,Qz,VF,QM⟩:=id hs;have hTs:s.TypeIs (.ref sl) "slice":=⟨os,Qz,VF⟩;unfold getItem
 try with_reducible refine wpAny_holding ?_
 first|refine wpAny_bind (wpAny_pure ?_)|skip
 refine wpAny_bind (wpAny_sequenceKey ht.typeIs (by decide) ?_)
 refine wpAny_bind (wpAny_callSpecial?_slot (name:=Str.ofString "__getitem__") ht.typeIs PyProof.Rows.slot_tuple_getitem
  (wpAny_call_entry PyProof.Rows.slot_tuple_getitem ht.typeIs entry_tuple_getitem ?_ (args_tuple_getitem _ _)))
 show wpAny _ _ (Builtin.Tuple.tupleItemsOf (.ref t) >>= _) _ _ s;refine wpAny_bind (tupleItemsOf_ ht ?_);refine wpAny_bind (wpAny_typeOf hTs ?_);rw [if_pos (by decide)];refine wpAny_bind (pH hs pl pu ?_);have hno:¬((((fN items.size 0 lo:Nat):Int)==0&&(1:Int)==1&&(fN items.size items.size hi-fN items.size 0 lo)==items.size)=true):=by intro q;rw [aao,aao] at q;have q1:((fN items.size 0 lo:Nat):Int)=0:=eq_of_beq q.1.1;have q2:fN items.size items.size hi-fN items.size 0 lo=items.size:=eq_of_beq q.2;exact hw ⟨by omega,by omega⟩
 show wpAny _ _ (if (((fN items.size 0 lo:Nat):Int)==0&&(1:Int)==1&&(fN items.size items.size hi-fN items.size 0 lo)==items.size)=true then _ else _) _ _ s;rw [if_neg hno,HW]
 first
  |exact wpAny_bind (m:=Builtin.Tuple.tupleExact _) (wpAny_newObj_type (wpAny_pure ⟨_,rfl,wpAny_pure h⟩) ET)
  |exact wpAny_bind (m:=Builtin.Tuple.tupleExact _) (wpAny_newObj_type (wpAny_bind (wpAny_pure (wpAny_pure ⟨_,rfl,wpAny_pure h⟩))) ET)
  |exact wpAny_bind (wpAny_bind (m:=Builtin.Tuple.tupleExact _) (wpAny_newObj_type (wpAny_pure (wpAny_pure ⟨_,rfl,wpAny_pure h⟩)) ET))
  |exact wpAny_bind (wpAny_bind (m:=Builtin.Tuple.tupleExact _) (wpAny_newObj_type (wpAny_pure ⟨_,rfl,wpAny_pure h⟩) ET))
end
end HT
namespace L2
open PySem PySem.Spec PyProof.Rows
abbrev TO:=St->Hp->(Option Int->Hp->Prop)->Prop
def PO(X:Cx)(e:Option Expr)(t:TO):Prop:=
 ∀(ζ:List (Addr×Obj)) (s:Shared) (σ:St) (H:Hp) (Q:Option Int->Hp->Prop),Inv X ζ σ H s->t σ H Q->
  wpAny (model X.prog X.w) X.A (evalPart e X.env) (λu s'=>∃o H',Inv X ζ σ H' s'/\IsPart u o/\Q o H') X.xe s
def LU:TO:=λ_ H Q=>Q none H
def U'(t:TE):TO:=λσ H Q=>t σ H λx H1=>∃i,x= .int i/\Q (some i) H1
section
variable{X:Cx}{e:Expr}{te:TE}{lo hi:Option Expr}{tl th:TO}{pos p2:Pos}
theorem yx:PO X none LU:=by intro ζ s σ H Q I h;rw [evalPart_none];exact wpAny_pure ⟨none,H,I,.none,h⟩
theorem jy(h:PE X e te):PO X (some e) (U' te):=by intro ζ s σ H Q I hw;rw [evalPart_some];refine bA (h ζ s σ H _ I hw) λu s1 ⟨x,H1,I1,r1,q1⟩=>?_;obtain ⟨i,rfl,q⟩:=q1;obtain ⟨t,rfl⟩:=r1;exact ⟨some i,H1,I1,.int i t,q⟩
def VY(X:Cx)(r:V->Option Int->Option Int->Hp->VK->Prop):Prop:=
 ∀(ζ:List (Addr×Obj)) (s:Shared) (σ:St) (H:Hp) (x:V) (v vl vu:Value) (lo hi:Option Int) (sl:Addr) (Q:VK),Inv X ζ σ H s->aC x v->s.heap.IsSliceOf sl vl vu .none->IsPart vl lo->IsPart vu hi->r x lo hi H Q->
  ∃T id,typeLookup (.type T) "__getitem__"=pure (some (.builtin id))/\s.TypeIs v T/\wpAny (model X.prog X.w) X.A (getItem v (.ref sl)) (EP X ζ σ Q) X.xe s
def tSl(r:V->Option Int->Option Int->Hp->VK->Prop)(te:TE)(tl th:TO):TE:=λσ H Q=>te σ H λx H1=>tl σ H1 λl H2=>th σ H2 λu H3=>r x l u H3 Q
theorem nV{r:V->Option Int->Option Int->Hp->VK->Prop}(hr:VY X r)(he:PE X e te)(hl:PO X lo tl)(hu:PO X hi th):PE X (.Subscript e (.Slice lo hi none p2) pos) (tSl r te tl th):=by intro ζ s σ H Q I h;refine Subscript_ (bA (he ζ s σ H _ I h) λv s1 ⟨x,H1,I1,r1,q1⟩=>?_);refine wpAny_Slice (bA (hl ζ s1 σ H1 _ I1 q1) λvl s2 ⟨l,H2,I2,pl,q2⟩=>bA (hu ζ s2 σ H2 _ I2 q2) λvu s3 ⟨u,H3,I3,pu,q3⟩=>?_);rw [evalPart_none];refine wpAny_pure ?_;have I4:Inv X ζ σ H3 {s3 with heap:=s3.heap.push {cls:= .type "slice",data:= .fields #[vl,vu,.none]}}:=I3.kept (t':=s3.toks) λb ob q=>Heap.get?_push_of_some _ q;obtain ⟨T,id,hT,ht,hg⟩:=hr ζ {s3 with heap:=s3.heap.push {cls:= .type "slice",data:= .fields #[vl,vu,.none]}} σ H3 x v vl vu l u s3.heap.objs.size Q I4 r1 (Heap.IsSliceOf.new ..) pl pu q3;show wpAny (model X.prog X.w) X.A (subscriptTail e (.Slice lo hi none p2) v (.ref s3.heap.objs.size)) (EP X ζ σ Q) X.xe {s3 with heap:=s3.heap.push {cls:= .type "slice",data:= .fields #[vl,vu,.none]}};exact tail_any (ops:=[.ref s3.heap.objs.size,v]) ht hT hg (by with_unfolding_all rfl)
def qy(xs:List V)(lo hi:Option Int):List V:=(xs.drop (HT.fN xs.length 0 lo)).take (HT.fN xs.length xs.length hi-HT.fN xs.length 0 lo)
theorem ql(xs:List V)(lo hi:Option Int):(qy xs lo hi).length<=xs.length:=by unfold qy;rw [abN,abj];omega
def Y3(K:fI):V->Option Int->Option Int->Hp->VK->Prop:=λx lo hi H Q=>∃a xs,x= .ref a/\m_ K H a xs/\
 ¬(HT.fN xs.length 0 lo=0/\HT.fN xs.length xs.length hi=xs.length)/\∀p,H p=none->Q (.ref p) (upd H p (.tup (qy xs lo hi)))
theorem PR:VY X (Y3 X.K):=by
 intro ζ s σ H x v vl vu lo hi sl Q I rx hs pl pu h;obtain ⟨a,xs,rfl,hx,hw,q⟩:=h;cases rx;obtain ⟨its,r,ht,hz⟩:=I.tuple hx;have hlen:its.toArray.size=xs.length:=by rw [aas];exact r.length.symm
 refine ⟨"tuple",_,PyProof.Rows.slot_tuple_getitem.lookup,ht.typeIs,?_⟩;refine HT.nh ht hs pl pu (by rw [hlen];exact hw) ?_ (by rw [hlen];exact hz);rw [hlen];refine ⟨.ref s.heap.objs.size,_,I.laid (t':=s.toks) (o:= .tup (qy xs lo hi)) (λb ob q=>Heap.get?_push_of_some _ q) (aai _) ?_,rfl,q _ (I.aY.fresh (aai _))⟩;exact ⟨aap (ql xs lo hi) hz,_,(r.drop (HT.fN xs.length 0 lo)).take (HT.fN xs.length xs.length hi-HT.fN xs.length 0 lo),IsTup.new _ _⟩
def Ob(K:fI):R2:=λx y H Q=>∃a b xs ys,x= .ref a/\y= .ref b/\m_ K H a xs/\m_ K H b ys/\xs≠[]/\xs.length+ys.length<=sizeLine/\
 (ys=[]->Q (.ref a) H)/\(ys≠[]->∀p,H p=none->Q (.ref p) (upd H p (.tup (xs++ys))))
theorem ax.xm{xs:List V}{us:List Value}(r:ax xs us):us=[]↔xs=[]:=by
 cases r with
 |nil=>simp
 |cons _ _=>simp
theorem MT:jL X (binaryOp .Add) (Ob X.K):=by intro ζ s σ H x y v u Q I rx ry h;obtain ⟨a,b,xs,ys,rfl,rfl,ha,hb,hx,hz,q1,q2⟩:=h;cases rx;cases ry;obtain ⟨its,r1,p1,_⟩:=I.tuple ha;obtain ⟨HS,r2,p2,_⟩:=I.tuple hb;refine HT.LQ p1 p2 (λz=>hx (r1.xm.mp z)) (λz=>⟨.ref a,H,I,rfl,q1 (r2.xm.mp z)⟩) (λz=>?_) (by rw [<-r1.length,<-r2.length];exact hz);refine ⟨.ref s.heap.objs.size,_,I.laid (t':=s.toks) (o:= .tup (xs++ys)) (λb ob q=>Heap.get?_push_of_some _ q) (aai _) ?_,rfl,q2 (λw=>z (r2.xm.mpr w)) _ (I.aY.fresh (aai _))⟩;exact ⟨by rw [aah];exact hz,_,r1.append r2,IsTup.new _ _⟩
end
def Ih(n:Nat)(i:Int):Option Nat:=if 0<=i then (if i<n then some i.toNat else none) else if -(n:Int)<=i then some (i+n).toNat else none
def oJ{α:Type}(xs:List α)(i:Int):Option α:=(Ih xs.length i).bind λj=>xs[j]?
theorem Ei{n:Nat}{i:Int}{j:Nat}(h:Ih n i=some j):seqIndex? i n=some j/\j<n/\ -(n:Int)<=i/\i<n:=by
 unfold Ih at h;by_cases h0:0<=i
 ·rw [if_pos h0] at h;by_cases h1:i<n
  ·rw [if_pos h1] at h;have e:i.toNat=j:=aav h;exact ⟨by rw [seqIndex_of h0 h1,e],by omega,by omega,h1⟩
  ·rw [if_neg h1] at h;cases h
 ·rw [if_neg h0] at h;by_cases h1: -(n:Int)<=i
  ·rw [if_pos h1] at h;have e:(i+n).toNat=j:=aav h;exact ⟨by rw [seqIndex_neg (by omega) h1,e],by omega,h1,by omega⟩
  ·rw [if_neg h1] at h;cases h
theorem yd{α:Type}{xs:List α}{i:Int}{v:α}(h:oJ xs i=some v):∃j,seqIndex? i xs.length=some j/\xs[j]? =some v/\j<xs.length/\ -(xs.length:Int)<=i/\i<xs.length:=by
 unfold oJ at h;cases e:Ih xs.length i with
 |none=>rw [e] at h;cases h
 |some j=>
  rw [e] at h;obtain ⟨h1,h2,h3,h4⟩:=Ei e;exact ⟨j,h1,h,h2,h3,h4⟩
theorem Θ{α:Type}{xs:List α}{j:Nat}{v:α}(h:xs[j]? =some v):oJ xs (j:Int)=some v:=by
 have hj:j<xs.length:=(aaf.mp h).1;have e:Ih xs.length (j:Int)=some j:=by unfold Ih;rw [if_pos (by omega),if_pos (by omega)];simp
 unfold oJ;rw [e];exact h
def wc(b:Expr):Prop:=∀o i,subscripted b false o i=operate [o,i] (getItem o i)
def Lg(X:Cx)(r:R2):Prop:=
 ∀(value slice:Expr) (ζ:List (Addr×Obj)) (s:Shared) (σ:St) (H:Hp) (x y:V) (v u:Value) (Q:VK),Inv X ζ σ H s->aC x v->aC y u->r x y H Q->
  subscripted slice false v u=operate [v,u] (getItem v u)->wpAny (model X.prog X.w) X.A (subscriptTail value slice v u) (EP X ζ σ Q) X.xe s
def MtR(X:Cx)(id:String)(r:V->List V->Hp->VK->Prop):Prop:=
 ∀(ζ:List (Addr×Obj)) (s:Shared) (σ:St) (H:Hp) (x:V) (xs:List V) (v:Value) (us:List Value) (Q:VK),Inv X ζ σ H s->aC x v->ax xs us->r x xs H Q->
  wpAny (model X.prog X.w) X.A (call (.builtin id) (v::us)) (EP X ζ σ Q) X.xe s
section
variable{X:Cx}{a b:Expr}{ta tb:TE}{pos:Pos}
theorem Lg.or{r r':R2}(h:Lg X r)(h':Lg X r'):Lg X (λx y H Q=>r x y H Q\/r' x y H Q):=by
 intro value slice ζ s σ H x y v u Q I rx ry q hs;rcases q with q|q
 ·exact h value slice ζ s σ H x y v u Q I rx ry q hs
 ·exact h' value slice ζ s σ H x y v u Q I rx ry q hs
theorem SU{r:R2}(hr:Lg X r)(ha:PE X a ta)(hb:PE X b tb)(hs:wc b):PE X (.Subscript a b pos) (Th r ta tb):=by intro ζ s σ H Q I h;exact Subscript_ (PF ha hb I h λv u s2 x y H2 I2 rx ry q=>hr a b ζ s2 σ H2 x y v u Q I2 rx ry q (hs _ _))
def Ud(K:fI):R2:=λx y H Q=>∃p xs i v,x= .ref p/\y= .int i/\gu K H p xs/\oJ xs i=some v/\Q v H
def Tr(K:fI):R2:=λx y H Q=>∃p xs i v,x= .ref p/\y= .int i/\m_ K H p xs/\oJ xs i=some v/\Q v H
def TL:R2:=λx y H Q=>∃z i c,x= .str z/\y= .int i/\z.length<=sizeLine/\oJ z.cps.toList i=some c/\Q (.str ⟨#[c]⟩) H
theorem LG:Lg X (Ud X.K):=by
 intro value slice ζ s σ H x y v u Q I rx ry h hs;obtain ⟨p,xs,i,z,rfl,rfl,hq,he,q⟩:=h;cases rx;obtain ⟨t,rfl⟩:=ry;obtain ⟨its,r,pl,hz⟩:=I.list hq;obtain ⟨j,h1,h2,h3,h4,h5⟩:=yd he;obtain ⟨w,ew,Hb⟩:=r.get h2;have hl:=r.length;have hn:=oy;have fin:EP X ζ σ Q w s:=⟨z,H,I,Hb,q⟩;by_cases h0:0<=i
 ·have hj:i.toNat=j:=by rw [seqIndex_of h0 h5] at h1;exact aav h1
  exact item_listR pl.isList h0 (by omega) (by rw [hj];simpa using ew) fin hs
 ·have hj:(i+(its.toArray.size:Int)).toNat=j:=by rw [seqIndex_neg (by omega) h4] at h1;rw [aas,<-hl];exact aav h1
  exact subscriptTail_builtinR (x:=w) pl.isList.typeIs slot_list_getitem.lookup
   (wpAny_getItem_list_neg (Q:=λr s'=>r=w/\EP X ζ σ Q r s') pl.isList (by omega) (by rw [List.size_toArray] <;> omega) (by omega) (by rw [hj];simpa using ew) ⟨rfl,fin⟩) hs
theorem OP:Lg X (Tr X.K):=by
 intro value slice ζ s σ H x y v u Q I rx ry h hs;obtain ⟨p,xs,i,z,rfl,rfl,hq,he,q⟩:=h;cases rx;obtain ⟨t,rfl⟩:=ry;obtain ⟨its,r,pl,hz⟩:=I.tuple hq;obtain ⟨j,h1,h2,h3,h4,h5⟩:=yd he;obtain ⟨w,ew,Hb⟩:=r.get h2;have hl:=r.length;have hn:=oy;have fin:EP X ζ σ Q w s:=⟨z,H,I,Hb,q⟩
 exact subscriptTail_builtinR (x:=w) pl.typeIs slot_tuple_getitem.lookup
  (getItem_tuple (j:=j) (Q:=λr s'=>r=w/\EP X ζ σ Q r s') pl (by omega) (by omega) (by rw [List.size_toArray,<-hl];exact h1) (by simpa using ew) ⟨rfl,fin⟩) hs
theorem QA:Lg X TL:=by
 intro value slice ζ s σ H x y v u Q I rx ry h hs;obtain ⟨z,i,c,rfl,rfl,hz,he,q⟩:=h;obtain ⟨t,rfl⟩:=rx;obtain ⟨t',rfl⟩:=ry;obtain ⟨j,h1,h2,h3,h4,h5⟩:=yd he;have hl:z.cps.toList.length=z.length:=by simp [Str.length]
 rw [hl] at h1 h4 h5;have hn:=oy
 exact tail_any (typeIs_str s z t) slot_str_getitem.lookup (getItem_str (c:=c) (by
  have e1:decide (i< -(2^63:Int))=false:=decide_eq_false (by omega);have e2:decide (i ≥ 2^63)=false:=decide_eq_false (by omega)
  rw [e1,e2,Bool.or_false]) (by rw [h1];simpa using h2) ⟨.str ⟨#[c]⟩,H,I.tok _,⟨_,rfl⟩,q⟩) hs
def ZJ(K:fI):R2:=λx y H Q=>Ud K x y H Q\/Tr K x y H Q\/TL x y H Q
theorem P1:Lg X (ZJ X.K):=LG.or (OP.or QA)
theorem Df(its:List Value)(n j:Nat)(u:Value):Obj.mapSeq (·.setIfInBounds j u) {cls:= .type "list",data:= .seq its.toArray n}={cls:= .type "list",data:= .seq (its.set j u).toArray n}:=by simp [Obj.mapSeq]
theorem Inv.lst{ζ:List (Addr×Obj)}{σ:St}{H:Hp}{s:Shared}{p:Addr}{xs:List V}(I:Inv X ζ σ H s)(h:H p=some (.lst xs)):
  ∃(its:List Value) (n:Nat),ax xs its/\s.heap.get? p=some {cls:= .type "list",data:= .seq its.toArray n}/\xs.length<=sizeLine:=by
 obtain ⟨z,its,n,r,e⟩:=I.aY p _ h;exact ⟨its,n,r,e,z⟩
theorem Inv.OU{ζ:List (Addr×Obj)}{σ:St}{H:Hp}{s:Shared}{p:Addr}{xs ys:List V}{its its':List Value}{n n':Nat}{f:Obj->Obj}(I:Inv X ζ σ H s)(h:H p=some (.lst xs))
  (ho:s.heap.get? p=some {cls:= .type "list",data:= .seq its.toArray n}) (hf:f {cls:= .type "list",data:= .seq its.toArray n}={cls:= .type "list",data:= .seq its'.toArray n'}) (r:ax ys its') (hz:ys.length<=sizeLine) (t:Nat):
  Inv X ζ σ (upd H p (.lst ys)) {s with heap:=s.heap.update p f,toks:=t}:=by
 have e:(s.heap.update p f).get? p=some {cls:= .type "list",data:= .seq its'.toArray n'}:=by rw [Heap.get?_update_self f ho (by rw [hf] <;> rfl),hf]
 refine I.write (x:=p) (e:=p) (by rw [h];trivial) (.inl rfl) (λb u hb q=>(Heap.get?_update_other _ _ (Ne.symm hb)).trans q) ⟨_,e⟩ ?_;exact ⟨hz,its',n',r,e⟩
def NU:V->V->V->Hp->(Hp->Prop)->Prop:=λo i v H Q=>∃p xs k j,o= .ref p/\i= .int k/\H p=some (.lst xs)/\Ih xs.length k=some j/\Q (upd H p (.lst (xs.set j v)))
theorem Lc:Ul X NU:=by
 intro ζ s σ H o i v ov iv u Q I ro ri rv h;obtain ⟨p,xs,k,j,rfl,rfl,hp,hj,q⟩:=h;cases ro;obtain ⟨t,rfl⟩:=ri;obtain ⟨its,n,r,ho,hz⟩:=I.lst hp;obtain ⟨h1,h2,h3,h4⟩:=Ei hj;have hl:=r.length;have hn:=oy
 have I':Inv X ζ σ (upd H p (.lst (xs.set j v))) {s with heap:=s.heap.update p (Obj.mapSeq (·.setIfInBounds j u))}:=
  I.OU hp ho (Df its n j u) (r.set rv j) (by rw [aa4];exact hz) s.toks
 by_cases h0:0<=k
 ·have hk:k.toNat=j:=by rw [seqIndex_of h0 h4] at h1;exact aav h1
  exact PySem.W.ki_setAt ho h0 (by omega) (by rw [aas,<-hl];exact h4) (by rw [hk];exact ⟨_,I',q⟩)
 ·have hk:(k+(its.toArray.size:Int)).toNat=j:=by rw [seqIndex_neg (by omega) h3] at h1;rw [aas,<-hl];exact aav h1
  exact PySem.W.ki_setBack ho (by omega) (by rw [aas,<-hl];exact h3) (by omega) (by rw [hk];exact ⟨_,I',q⟩)
theorem xM(lo hi:Option Int)(n:Nat):(sliceBounds lo hi none n).1=((HT.fN n 0 lo:Nat):Int)/\(sliceBounds lo hi none n).2.1=((HT.fN n n hi:Nat):Int)/\(sliceBounds lo hi none n).2.2=1:=by
 refine ⟨?_,?_,rfl⟩
 ·cases lo with
  |none=>simp [sliceBounds,HT.fN]
  |some i=>
   simp only [sliceBounds,HT.fN,Option.getD_none,show (1:Int) > 0 by decide,if_true];by_cases h:i<0
   ·simp only [h,if_true] <;> omega
   ·simp only [h,if_false] <;> omega
 ·cases hi with
  |none=>simp [sliceBounds,HT.fN]
  |some i=>
   simp only [sliceBounds,HT.fN,Option.getD_none,show (1:Int) > 0 by decide,if_true];by_cases h:i<0
   ·simp only [h,if_true] <;> omega
   ·simp only [h,if_false] <;> omega
theorem uw(its:List Value)(lo hi:Option Int):slicePick its.toArray lo hi none=((its.drop (HT.fN its.length 0 lo)).take (HT.fN its.length its.length hi-HT.fN its.length 0 lo)).toArray:=by obtain ⟨h1,h2,h3⟩:=xM lo hi its.toArray.size;unfold slicePick;rw [h1,h2,h3];simp only [sliceRange_one,pick_run,List.size_toArray] <;> rfl
def Zl(K:fI):V->Option Int->Option Int->Hp->VK->Prop:=λx lo hi H Q=>∃a xs,x= .ref a/\gu K H a xs/\∀p,H p=none->Q (.ref p) (upd H p (.lst (qy xs lo hi)))
theorem xh:VY X (Zl X.K):=by intro ζ s σ H x v vl vu lo hi sl Q I rx hs pl pu h;obtain ⟨a,xs,rfl,hx,q⟩:=h;cases rx;obtain ⟨its,r,ht,hz⟩:=I.list hx;have hlen:=r.length;refine ⟨"list",_,slot_list_getitem.lookup,ht.isList.typeIs,?_⟩;refine wpAny_getItem_list_slice ht.isList hs pl pu .none (by simp) ?_ (by rw [List.size_toArray] <;> omega);rw [uw,<-hlen];refine ⟨.ref s.heap.objs.size,_,I.laid (t':=s.toks) (o:= .lst (qy xs lo hi)) (λb ob q=>Heap.get?_push_of_some _ q) (aai _) ?_,rfl,q _ (I.aY.fresh (aai _))⟩;exact ⟨aap (ql xs lo hi) hz,_,0,(r.drop (HT.fN xs.length 0 lo)).take (HT.fN xs.length xs.length hi-HT.fN xs.length 0 lo),Heap.get?_push_size _ rfl⟩
def eC:V->Bool
 |.bw=>true
 |.bl _=>true
 |.int _=>true
 |.str _=>true
 |_=>false
def uz:V->V->Bool
 |.bw,.bw=>true
 |.bl a,.bl b=>a==b
 |.bl a,.int b=>(if a then 1 else 0)==b
 |.int a,.bl b=>a==(if b then 1 else 0)
 |.int a,.int b=>a==b
 |.str a,.str b=>a==b
 |_,_=>false
theorem wX{A:Around}{s:Shared}{y x:V}{u v:Value}(ry:aC y u)(rx:aC x v)(fy:eC y=true)(fx:eC x=true):SeqAt.EqAt A s u v (uz y x):=by
 cases y with
 |bw=>
  cases ry;cases x with
  |bw=>cases rx;exact SeqAt.EqAt.same _
  |bl b=>cases rx;exact SeqAt.EqAt.none_bool b
  |int b=>obtain ⟨t,rfl⟩:=rx;exact SeqAt.EqAt.none_int b t
  |str b=>obtain ⟨t,rfl⟩:=rx;exact SeqAt.EqAt.none_str b t
  |_=>exact absurd (show false=true from fx) aaw
 |bl a=>
  cases ry;cases x with
  |bw=>cases rx;exact SeqAt.EqAt.bool_none a
  |bl b=>cases rx;exact SeqAt.EqAt.bool_bool a b
  |int b=>obtain ⟨t,rfl⟩:=rx;exact SeqAt.EqAt.bool_int a b t
  |str b=>obtain ⟨t,rfl⟩:=rx;exact SeqAt.EqAt.bool_str a b t
  |_=>exact absurd (show false=true from fx) aaw
 |int a=>
  obtain ⟨t',rfl⟩:=ry;cases x with
  |bw=>cases rx;exact SeqAt.EqAt.int_none a t'
  |bl b=>cases rx;exact SeqAt.EqAt.int_bool a t' b
  |int b=>obtain ⟨t,rfl⟩:=rx;exact SeqAt.EqAt.int_int a t' b t
  |str b=>obtain ⟨t,rfl⟩:=rx;exact SeqAt.EqAt.int_str a t' b t
  |_=>exact absurd (show false=true from fx) aaw
 |str a=>
  obtain ⟨t',rfl⟩:=ry;cases x with
  |bw=>cases rx;exact SeqAt.EqAt.str_none a t'
  |bl b=>cases rx;exact SeqAt.EqAt.str_bool a t' b
  |int b=>obtain ⟨t,rfl⟩:=rx;exact SeqAt.EqAt.str_int a t' b t
  |str b=>obtain ⟨t,rfl⟩:=rx;exact SeqAt.EqAt.str_str a t' b t
  |_=>exact absurd (show false=true from fx) aaw
 |_=>exact absurd (show false=true from fy) aaw
def Cf(x:V)(u:Value):Bool:=match u with
 |.none=>uz .bw x
 |.bool b=>uz (.bl b) x
 |.int i _=>uz (.int i) x
 |.str z _=>uz (.str z) x
 |_=>false
theorem Iv{x y:V}{u:Value}(r:aC y u)(f:eC y=true):Cf x u=uz y x:=by
 cases y with
 |bw=>cases r;rfl
 |bl b=>cases r;rfl
 |int i=>obtain ⟨t,rfl⟩:=r;rfl
 |str z=>obtain ⟨t,rfl⟩:=r;rfl
 |_=>exact absurd (show false=true from f) aaw
theorem nK{x:V}:∀{xs:List V}{us:List Value},ax xs us->xs.all eC=true->us.any (Cf x)=xs.any λy=>uz y x
 |_,_,.nil,_=>rfl
 |y::xs,u::us,.cons r t,f=>by rw [abL,aao] at f;rw [abM,abM,Iv r f.1,nK t f.2]
theorem ki{A:Around}{s:Shared}{x:V}{v:Value}(rx:aC x v)(fx:eC x=true):∀{xs:List V}{us:List Value},ax xs us->xs.all eC=true->∀u∈us,SeqAt.EqAt A s u v (Cf x u)
 |_,_,.nil,_=>λu hu=>by cases hu
 |y::xs,u::us,.cons r t,f=>λu' hu=>by
  rw [abL,aao] at f;rcases aaC.mp hu with rfl|hu
  ·rw [Iv r f.1];exact wX r rx f.1 fx
  ·exact ki rx fx t f.2 u' hu
def Q7(x:V)(xs:List V):Bool:=xs.any λy=>uz y x
def Vf(K:fI)(neg:Bool):R2:=λx y H Q=>∃p xs,y= .ref p/\(gu K H p xs\/m_ K H p xs)/\eC x=true/\xs.all eC=true/\Q (.bl (if neg then !Q7 x xs else Q7 x xs)) H
theorem Gn:jL X (compareOp .In) (Vf X.K false):=by
 intro ζ s σ H x y v u Q I rx ry h;obtain ⟨p,xs,rfl,hq,fx,fs,q⟩:=h;cases ry;rcases hq with hq|hq
 ·obtain ⟨its,r,pl,hz⟩:=I.list hq;refine SeqAt.in_listAt (Cf x) pl.isList (λw hw=>ki rx fx r fs w (by simpa using hw)) ⟨.bl _,H,I,rfl,?_⟩;rw [show its.toArray.any (Cf x)=its.any (Cf x) by simp,nK r fs];exact q
 ·obtain ⟨its,r,pl,hz⟩:=I.tuple hq;refine SeqAt.in_tupleAt (Cf x) pl (λw hw=>ki rx fx r fs w (by simpa using hw)) ⟨.bl _,H,I,rfl,?_⟩;rw [show its.toArray.any (Cf x)=its.any (Cf x) by simp,nK r fs];exact q
theorem xG:jL X (compareOp .NotIn) (Vf X.K true):=by
 intro ζ s σ H x y v u Q I rx ry h;obtain ⟨p,xs,rfl,hq,fx,fs,q⟩:=h;cases ry;rcases hq with hq|hq
 ·obtain ⟨its,r,pl,hz⟩:=I.list hq;refine SeqAt.notIn_listAt (Cf x) pl.isList (λw hw=>ki rx fx r fs w (by simpa using hw)) ⟨.bl _,H,I,rfl,?_⟩;rw [show its.toArray.any (Cf x)=its.any (Cf x) by simp,nK r fs];exact q
 ·obtain ⟨its,r,pl,hz⟩:=I.tuple hq;refine SeqAt.notIn_tupleAt (Cf x) pl (λw hw=>ki rx fx r fs w (by simpa using hw)) ⟨.bl _,H,I,rfl,?_⟩;rw [show its.toArray.any (Cf x)=its.any (Cf x) by simp,nK r fs];exact q
theorem wR:dw X (.builtin "len") (λxs H Q=>∃p ys,xs=[.ref p]/\(gu X.K H p ys\/m_ X.K H p ys)/\Q (.int ys.length) H):=by
 intro ζ s σ H xs us Q I r h;obtain ⟨p,ys,rfl,hq,q⟩:=h;obtain ⟨u,rfl,rx⟩:=kX r;cases rx;have hn:=oy;rcases hq with hq|hq
 ·obtain ⟨its,r',pl,hz⟩:=I.list hq;have hlen:=r'.length;exact Calls.call_len_list pl.isList (by simp only [List.size_toArray] <;> omega) ⟨.int ys.length,H,I.tok _,⟨s.toks+1,by rw [List.size_toArray,hlen]⟩,q⟩
 ·obtain ⟨its,r',pl,hz⟩:=I.tuple hq;have hlen:=r'.length;exact len_tuple pl (by simp only [List.size_toArray] <;> omega) ⟨.int ys.length,H,I.tok _,⟨s.toks+1,by rw [List.size_toArray,hlen]⟩,q⟩
theorem wM:dw X (.builtin "len") (λxs H Q=>∃z,xs=[.str z]/\z.length<=sizeLine/\Q (.int z.length) H):=by intro ζ s σ H xs us Q I r h;obtain ⟨z,rfl,hz,q⟩:=h;obtain ⟨u,rfl,t,rfl⟩:=kX r;have hn:=oy;exact len_str (by omega) ⟨.int z.length,H,I.tok _,⟨_,rfl⟩,q⟩
theorem dw.or{f:Value}{r r':List V->Hp->VK->Prop}(h:dw X f r)(h':dw X f r'):dw X f (λxs H Q=>r xs H Q\/r' xs H Q):=by
 intro ζ s σ H xs us Q I rs q;rcases q with q|q
 ·exact h ζ s σ H xs us Q I rs q
 ·exact h' ζ s σ H xs us Q I rs q
theorem yI:dw X (.type "list") (λxs H Q=>∃p ys,xs=[.ref p]/\(gu X.K H p ys\/m_ X.K H p ys)/\∀l,H l=none->Q (.ref l) (upd H l (.lst ys))):=by
 intro ζ s σ H xs us Q I r h;obtain ⟨p,ys,rfl,hq,q⟩:=h;obtain ⟨u,rfl,rx⟩:=kX r;cases rx
 have fin:∀(its:List Value),ax ys its->ys.length<=sizeLine->∀(h':Heap) (c':Nat),(∀b o',s.heap.get? b=some o'->h'.get? b=some o')->
   h'.get? s.heap.objs.size=some {cls:= .type "list",dict:=none,data:= .seq its.toArray c',slots:= #[]}->EP X ζ σ Q (.ref s.heap.objs.size) {s with heap:=h'}:=λits r' hz h' c' kp e=>
  ⟨.ref s.heap.objs.size,_,I.laid (t':=s.toks) kp (aai _) (show bT X.prog X.w _ h' _ (.lst ys) from ⟨hz,its,c',r',e⟩),rfl,q _ (I.aY.fresh (aai _))⟩
 rcases hq with hq|hq
 ·obtain ⟨its,r',pl,hz⟩:=I.list hq;have hlen:=r'.length;obtain ⟨o,ho,hc,n,hd⟩:=pl.isList;exact call_list_seq p (.inl rfl) ho hc hd (λh' c' kp e=>fin its r' hz h' c' kp e) (by simp only [List.size_toArray] <;> omega)
 ·obtain ⟨its,r',pl,hz⟩:=I.tuple hq;have hlen:=r'.length;obtain ⟨o,ho,hc,n,hd⟩:=pl;exact call_list_seq p (.inr rfl) ho hc hd (λh' c' kp e=>fin its r' hz h' c' kp e) (by simp only [List.size_toArray] <;> omega)
def ZE(K:fI)(T:String)(x:V)(H:Hp):Prop:=match x with
 |.str _=>T="str"
 |.int _=>T="int"
 | .ref p=>(T="list"/\∃xs,gu K H p xs)\/(T="tuple"/\∃o,K.lookup p=some o/\o.cls= .type "tuple"/\o.dict=none)\/
   (T="dict"/\((∃Ο,H p=some (.dK Ο))\/∃Ο,H p=some (.dT Ο)))\/(T="set"/\∃S n,H p=some (.set S n))
 |_=>False
theorem Qs{ζ:List (Addr×Obj)}{σ:St}{H:Hp}{s:Shared}{T:String}{x:V}{v:Value}(I:Inv X ζ σ H s)(r:aC x v)(ty:ZE X.K T x H):
  s.TypeIs v T/\∀a,v= .ref a->∃ob,s.heap.get? a=some ob/\ob.dict=none:=by
 cases x with
 |str z=>
  obtain ⟨t,rfl⟩:=r;cases (show T="str" from ty);exact ⟨typeIs_str s z t,λ_ e=>nomatch e⟩
 |int i=>
  obtain ⟨t,rfl⟩:=r;cases (show T="int" from ty);exact ⟨typeIs_int s i t,λ_ e=>nomatch e⟩
 |ref p=>
  cases r;rcases ty with ⟨rfl,xs,hq⟩|⟨rfl,o,hk,hc,hd⟩|⟨rfl,hk⟩|⟨rfl,S,n,hk⟩
  ·obtain ⟨its,_,pl,_⟩:=I.list hq;refine ⟨pl.isList.typeIs,λa e=>?_⟩;cases e;obtain ⟨o,n,e,c,hd,_⟩:=pl;exact ⟨o,e,hd⟩
  ·refine ⟨⟨o,I.qp p o hk,hc⟩,λa e=>?_⟩;cases e;exact ⟨o,I.qp _ o hk,hd⟩
  ·have z:∃o,s.heap.get? p=some o/\o.ExactDict:=by
    rcases hk with ⟨Ο,hk⟩|⟨Ο,hk⟩
    ·obtain ⟨_,_,_,_,o,_,_,e,ex,_⟩:=I.aY p _ hk;exact ⟨o,e,ex⟩
    ·obtain ⟨_,_,_,_,o,_,_,e,ex,_⟩:=I.aY p _ hk;exact ⟨o,e,ex⟩
   obtain ⟨o,e,ex⟩:=z;refine ⟨⟨o,e,ex.1⟩,λa e2=>?_⟩;cases e2;exact ⟨o,e,ex.2.1⟩
  ·obtain ⟨o,_,_,_,e,ex,_⟩:=I.aY p _ hk;refine ⟨⟨o,e,ex.1⟩,λa e2=>?_⟩;cases e2;exact ⟨o,e,ex.2.1⟩
 |_=>exact False.elim ty
def tBM(K:fI)(T:String)(r:V->List V->Hp->VK->Prop)(to:TE)(t:TA):TE:=λσ H Q=>to σ H λx H1=>ZE K T x H1/\t σ H1 λxs H2=>r x xs H2 Q
variable{o e:Expr}{es:List Expr}{to:TE}{t:TA}{name:Str}{apos cL:Pos}{T id:String}{r:V->List V->Hp->VK->Prop}
theorem Te(pa:PlainAttrs T)(slot:Slot T name id)(hty:typeOf (.builtin id)=pure (.type "method_descriptor"))(hm:MtR X id r)(ho:PE X o to)(ha:PA X (e::es) t)
  (IL:attributeBase o name X.env (eval o X.env)=eval o X.env:=by rfl)
  (Pe:((backTo cL (starEach (e::es) X.env)).all (λx=> !x.1)&&(backToKw cL (keywordEach [] X.env)).all (λx=>x.1.isSome)
   &&decide ((e::es).length+([]:List Keyword).length+(if ([]:List Keyword).isEmpty then 0 else 1)<30))=true:=by rfl)
  (K5:(apos.endLine==cL.line)=true:=by rfl) (hs:starEach (e::es) X.env=(false,eval e X.env)::starEach es X.env:=by rfl) (C8:(backTo cL (starEach es X.env)).any (·.1)=false:=by rfl):
  PE X (.Call (.Attribute o name apos) (e::es) [] cL) (tBM X.K T r to t):=by
 intro ζ s σ H Q I h;refine wpAny_Call_method_late IL Pe K5 rfl (bA (ho ζ s σ H _ I h) λv s1 ⟨x,H1,I1,r1,ty,q1⟩=>?_);obtain ⟨h1,h2⟩:=Qs I1 r1 ty;refine ⟨T,id,pa,slot,hty,h1,h2,?_⟩;have hA:=ha cL ζ s1 σ H1 _ I1 q1;rw [hs] at hA⊢;refine Calls.callWith_builtin (by show (false || (backTo cL (starEach es X.env)).any (·.1))=false;rw [C8] <;> rfl) (Calls.evalArgs_plain ?_);exact bA hA λus s2 ⟨vs,H2,I2,r2,q2⟩=>hm ζ s2 σ H2 x vs v us Q I2 r1 r2 q2
end
def MtM(X:Cx)(id:String)(r:V->List V->Hp->VK->Prop):Prop:=
 ∀(ζ:List (Addr×Obj)) (s:Shared) (σ:St) (H:Hp) (x:V) (xs:List V) (v:Value) (us:List Value) (Q:VK),Inv X ζ σ H s->aC x v->ax xs us->r x xs H Q->
  wpAny (model X.prog X.w) X.A (call (.builtin id) (v::us)) (EP X ζ σ Q) X.xe s
theorem ax.one:∀{x:V}{us:List Value},ax [x] us->∃u,us=[u]/\aC x u
 |_,_,.cons r .nil=>⟨_,rfl,r⟩
theorem ax.rep{xs:List V}{us:List Value}(h:ax xs us):∀k:Nat,ax (List.replicate k xs).flatten (List.replicate k us).flatten
 |0=> .nil
 |k+1=>by rw [aa5,aa5,abp,abp];exact ax.append h (ax.rep h k)
theorem v7(its:List Value):∀(k:Nat) (Ζ:List Value),
  List.foldl (λx1 x2=>x1++x2) Ζ.toArray (List.replicate k its.toArray)=(Ζ++(List.replicate k its).flatten).toArray
 |0,Ζ=>by simp
 |k+1,Ζ=>by
  have e:Ζ.toArray++its.toArray=(Ζ++its).toArray:=by simp
  have e2:(Ζ++its)++(List.replicate k its).flatten=Ζ++(List.replicate (k+1) its).flatten:=by rw [aa5,abp,aaJ]
  rw [<-e2,<-v7 its k (Ζ++its),<-e,aa5,aaW]
section
variable{X:Cx}{ζ:List (Addr×Obj)}{σ:St}{H:Hp}{s:Shared}{l b:Addr}{xs ys zs:List V}
theorem Inv.Zo{its its':List Value}{n:Nat}{f:Array Value->Array Value}{t':Nat}(I:Inv X ζ σ H s)(hH:H l=some (.lst xs))
  (e:s.heap.get? l=some {cls:= .type "list",data:= .seq its.toArray n}) (hf:f its.toArray=its'.toArray) (hv:ax ys its') (hz:ys.length<=sizeLine):
  Inv X ζ σ (upd H l (.lst ys)) {s with heap:=s.heap.update l (Obj.mapSeq f),toks:=t'}:=by
 have q:=PySem.IsL.update e f;rw [hf] at q;refine I.write (x:=l) (e:=l) (by rw [hH];exact trivial) (.inl rfl) (λb' u hb hu=>(Heap.get?_update_other s.heap (Obj.mapSeq f) (Ne.symm hb)).trans hu) ⟨_,q⟩ ?_;exact ⟨hz,its',_,hv,q⟩
theorem Inv.Pj{its:List Value}{t':Nat}(I:Inv X ζ σ H s)(hv:ax ys its)(hz:ys.length<=sizeLine):
  Inv X ζ σ (upd H s.heap.objs.size (.lst ys)) {s with heap:=s.heap.push {cls:= .type "list",data:= .seq its.toArray},toks:=t'}:=
 I.laid (λ_ _ q=>Heap.get?_push_of_some _ q) (aai _) ⟨hz,its,0,hv,Heap.get?_push_size _ rfl⟩
theorem Inv.fresh(I:Inv X ζ σ H s):H s.heap.objs.size=none:=I.aY.fresh (aai _)
theorem Inv.NK(I:Inv X ζ σ H s)(hH:H l=some (.lst xs)):xs.length<=sizeLine/\∃(its:List Value) (n:Nat),ax xs its/\xs.length=its.length/\s.heap.get? l=some {cls:= .type "list",data:= .seq its.toArray n}:=by obtain ⟨z,its,n,r,e⟩:=I.aY l _ hH;exact ⟨z,its,n,r,r.length,e⟩
theorem ID{n:Nat}(h:n<=sizeLine):Builtin.List.listTooLong n=false:=by unfold Builtin.List.listTooLong;exact decide_eq_false (by omega)
end
section
variable{X:Cx}
def ER:V->List V->Hp->VK->Prop:=λx vs H Q=>∃l xs y,x= .ref l/\vs=[y]/\H l=some (.lst xs)/\xs.length<sizeLine/\Q .bw (upd H l (.lst (xs++[y])))
theorem vE:MtM X "list.append" ER:=by intro ζ s σ H x vs v us Q I rx rv h;obtain ⟨l,xs,y,rfl,rfl,hH,hz,q⟩:=h;cases rx;obtain ⟨u,rfl,ru⟩:=rv.one;obtain ⟨z,its,n,r,hl,e⟩:=I.NK hH;refine call_meets F.slot_list_append ⟨_,e,rfl⟩ F.entry_list_append (F.args_list_append_2 _ _) (PySem.list_append l its.toArray n u (by rw [aas];omega)) ⟨e,?_⟩;refine ⟨.bw,_,I.Zo (its':=its++[u]) hH e (by simp) (r.append (.cons ru .nil)) ?_,rfl,q⟩;rw [aah,List.length_singleton];omega
def Qt:R2:=λx y H Q=>∃l b xs zs,x= .ref l/\y= .ref b/\H l=some (.lst xs)/\H b=some (.lst zs)/\xs.length+zs.length<=sizeLine/\∀p,H p=none->Q (.ref p) (upd H p (.lst (xs++zs)))
theorem Kl:jL X (binaryOp .Add) Qt:=by
 intro ζ s σ H x y v u Q I rx ry h;obtain ⟨l,b,xs,zs,rfl,rfl,hH,hB,hz,q⟩:=h;cases rx;cases ry;obtain ⟨z,its,n,r,hl,e⟩:=I.NK hH;obtain ⟨z2,HS,n2,r2,Fh,e2⟩:=I.NK hB;refine PySem.P.add_list e e2 ?_ (by rw [aas,aas];omega);have ea:its.toArray++HS.toArray=(its++HS).toArray:=by simp
 rw [ea];exact ⟨.ref _,_,I.Pj (t':=s.toks) (r.append r2) (by rw [aah];omega),rfl,q _ I.fresh⟩
def Pz:R2:=λx y H Q=>∃l k xs,x= .ref l/\y= .int k/\H l=some (.lst xs)/\ -(2^63)<=k/\k<2^63/\xs.length*k.toNat<=sizeLine/\
 ∀p,H p=none->Q (.ref p) (upd H p (.lst (List.replicate k.toNat xs).flatten))
theorem NO{α:Type}(xs:List α)(k:Nat):(List.replicate k xs).flatten.length=k*xs.length:=by
 induction k with
 |zero=>simp
 |succ k ih=>rw [aa5,abp,aah,ih,Nat.succ_mul,Nat.add_comm]
theorem Js:jL X (binaryOp .Mult) Pz:=by
 intro ζ s σ H x y v u Q I rx ry h;obtain ⟨l,k,xs,rfl,rfl,hH,h1,h2,hz,q⟩:=h;cases rx;obtain ⟨t,rfl⟩:=ry;obtain ⟨z,its,n,r,hl,e⟩:=I.NK hH;have hlen:its.toArray.size*k.toNat<=sizeLine:=by rw [aas,<-hl];exact hz
 have Yi:¬its.toArray.size*k.toNat > (2^63-1)/8:=by
  have:(sizeLine:Nat)<=(2^63-1)/8:=by decide
  omega
 have LH:¬(!Builtin.List.listFitsIndex k)=true:=by rw [fitsIndex_both h1 h2];exact aaw
 have SG:¬Builtin.List.listTooLong (its.toArray.size*k.toNat)=true:=by rw [ID hlen];exact aaw
 have WO:List.foldl (λx1 x2=>x1++x2) #[] (List.replicate (if its.toArray.isEmpty=true then 0 else k.toNat) its.toArray)=(List.replicate k.toNat its).flatten.toArray:=by
  have f0:∀m:Nat,List.foldl (λx1 x2=>x1++x2) #[] (List.replicate m its.toArray)=(List.replicate m its).flatten.toArray:=λm=>by have:=v7 its m [];rw [aaF] at this;exact this
  rw [f0];cases its with
  |nil=>simp
  |cons a r'=>rw [if_neg (by simp)]
 refine wpAny_binaryOp_repeat_ref (T:="list") (U:="int") (by decide) ⟨_,e,rfl⟩ (λs'=>typeIs_int s' k t) noFill_list_mul F.fills_int_mul F.slot_int_rmul repeat_list F.slot_int_index.lookup
  (call_meets F.slot_int_rmul (typeIs_int s k t) F.entry_int_rmul (F.args_int_rmul_2 _ _) (int___rmul___int_list k t l its.toArray n)
   ⟨e,rfl,⟨_,e,rfl⟩,call_meets F.slot_list_mul ⟨_,e,rfl⟩ F.entry_list_mul (F.args_list_mul_2 _ _) (AutoListH.list___mul___list_int_3 l its.toArray n k t LH Yi SG) ⟨e,?_⟩⟩)
 rw [WO];exact ⟨.ref _,_,I.Pj (t':=s.toks) (r.rep k.toNat) (by rw [NO,Nat.mul_comm];exact hz),rfl,q _ I.fresh⟩
end
end L2
namespace Att
open PySem PySem.W PySem.Calls PyProof.Rows
theorem qw{P:Params}{h:Heap}:∀(ns:List Int) (vs:List Value),WellAll P h vs (ns.map WData.int)->IntsAre vs ns:=by
 intro ns
 induction ns with
 |nil=>
  intro vs w;rw [List.map_nil] at w;cases w;exact .nil
 |cons n ns ih=>
  intro vs w;rw [aaA] at w;cases w with
  |cons a b=>
   cases a;exact .cons _ _ (ih _ b)
theorem Fs{l:OpenLaw}{n:Nat}(hn:l.most=some n){P:Params}{h:Heap}{args:List WData}{vals:List Value}
  (Nw:l.row.toRowW.claim.pre args=true) (V7:WellAll P h vals args):
  ∃a vs ns,vals=[Value.ref a]/\args=[WData.list (ns.map WData.int)]/\h.get? a=some {cls:= .type "list",data:= .seq vs.toArray}/\IntsAre vs ns/\ns.length<=n:=by
 have hsh:WShape.hasAll [] args [.list .int]=true:=(pre_splitW Nw).1;have hc:l.pre.holds [] {args:=args}=true:=(pre_splitW Nw).2;obtain ⟨d,r,rfl,h1,h2⟩:=hasAllW_cons hsh;obtain rfl:=hasAllW_nil h2;obtain ⟨xs,rfl,h3⟩:=hasW_list h1;obtain ⟨ns,rfl⟩:=items_int h3;have hlen:ns.length<=n:=by
  unfold OpenLaw.pre at hc;have h4:(WTm.not (.lt (.lit (.int (n:Int))) (.len (.arg 0)))).holds [] {args:=[.list (ns.map .int)]}=true:=by have h4:=(holds_andW hc).1;rw [hn] at h4;exact h4
  have h5:=condW_of h4 (w_not (w_lt w_lit (w_len_list (w_arg rfl))));rw [aac] at h5;refine Nat.le_of_not_lt λq=>?_;have q':(n:Int)<((ns.length:Nat):Int):=by omega
  first
   |(rw [decide_eq_true q'] at h5;exact absurd h5 (by decide))
   |(simp at h5;omega)
 cases V7 with
 |cons w1 w2=>
  cases w2;cases w1 with
  |list ho QV=>exact ⟨_,_,ns,rfl,rfl,ho,qw ns _ QV,hlen⟩
theorem GC(l:OpenLaw)(args:List WData):l.row.toRowW.claim.post args (.bool true) args=true:=
 postW_of (r:=l.row.toRowW) (X:=(true==true))
  (show WShape.has [] (.bool true) .bool=true by first|rfl|decide|simp [WShape.has,WShape.arms,WShape.armsAll])
  (show (WTm.eq .res (.lit (.bool true))).value [] {args:=args,res:=some (.bool true),after:=args}=some (.bool (true==true)) from w_eq_bool (w_res rfl) w_lit) rfl
theorem zh{l:OpenLaw}{n:Nat}{q:Program}{loose:List Str}{XP:(Str->Option Value)->Heap->Prop}{YP:World->Heap->Prop}{d:DefRec}
  (hn:l.most=some n) (RP:d.params.defaults=[])
  (call:∀(w:World) (s₀ s₁:Shared) (mg mb:Str->Option Value) (fa:Addr) (o:Obj) (pm cd doc:Value) (a:Addr) (vs:List Value) (ns:List Int),
   Ground q loose [] XP w s₀ mg mb s₁.heap->YP w s₁.heap->
   s₁.heap.get? fa=some o->o.data= .func (docDef d.name d.params d.body d.scope pm cd doc)->s₁.heap.CodeRec cd d.name->mg d.name=some (.ref fa)->
   s₁.heap.get? a=some {cls:= .type "list",data:= .seq vs.toArray}->IntsAre vs ns->ns.length<=n->s₁.gens= #[]->
   codeAny (model l.prog w) callerA (.call (.ref fa) ⟨[.ref a],[]⟩) (λr s'=>r= .ok (.ret (.bool true))/\OldK s₁.heap s'.heap/\s'.os=s₁.os/\AllBare s'.gens) s₁):
  WalkO q loose XP YP l.row.toRowW d [] (λf vs=>PySem.call f vs):=by
 intro w s₀ s₁ mg mb G Y fa o pm cd doc dV kV ho hd EO hD MI hg args vals as Nw agB hrd V7 hlo;obtain rfl:dV= .none:=Dflts.none hD RP;obtain rfl:kV= .none:=Dflts.noKw hD;obtain ⟨a,vs,ns,rfl,rfl,Qe,hints,hlen⟩:=Fs hn Nw V7;refine enter_call (codeAny_mono (call w s₀ s₁ mg mb fa o pm cd doc a vs ns G Y ho (fd_plain hd) EO MI Qe hints hlen hg) λr s' hq=>?_);obtain ⟨rfl,h2,h3,h4⟩:=hq;exact ⟨.inl ⟨.bool true,.bool true,[],rfl,λ_=>rfl,.bool true,GC l _,λ_=>⟨List.Pairwise.nil,λ_ hm=>(nomatch hm)⟩⟩,h2,h3,h4⟩
end Att
namespace L2
open PySem PySem.Spec PyProof.Rows
theorem ve:∀{vs:List Value}{ns:List Int},IntsAre vs ns->ax (ns.map V.int) vs
 |_,_,.nil=> .nil
 |_,_,.cons n t h=> .cons ⟨t,rfl⟩ (ve h)
def PM(H:Hp):Prop:=∀b,H b=none\/∃o xs,H b=some (.yL o (.lst xs))
theorem JV{P:Program}{w:World}{K:fI}{mg mb:Str->Option Value}{CX:A_}{k:Nat}{fa a:Addr}{fd:FuncData}{x:Str}{sp:Sp}{s₁:Shared}{vs:List Value}{ns:List Int}
  (KX:K.In s₁.heap) (hns:s₁.heap.Ns mainGlobals mg) (hb:s₁.heap.Ns builtinsNs mb) (hbb:∀x:Str,x≠"__name__"->mb x=bootBuiltins x) (Yk:s₁.heap.NoLimit) (hg:s₁.gens= #[])
  (ha:s₁.heap.get? a=some {cls:= .type "list",data:= .seq vs.toArray}) (hi:IntsAre vs ns) (hl:ns.length<=sizeLine) (hr:bM k callerA)
  (F:∀base:Heap,K.In base->base.Ns mainGlobals mg->ah P w K mg base CX k fa fd [x] sp) (UP:∀(s:Shared) (u:Value),BindsTo s fd ⟨[u],[]⟩ [(x,u)])
  (NV:∀H:Hp,PM H->gu K H a (ns.map V.int)->sp [.ref a] H (λv _=>v= .bl true) λ_ _ _=>False)
  (Wg:∀H e s',CX [] H s₁ (λ_ _ _=>False) e s'->False):
  codeAny (model P w) callerA (.call (.ref fa) ⟨[.ref a],[]⟩) (λr s'=>r= .ok (.ret (.bool true))/\OldK s₁.heap s'.heap/\s'.os=s₁.os/\AllBare s'.gens) s₁:=by
 have rv:=ve hi;have V':=hi.length
 have core:∀H:Hp,PM H->gu K H a (ns.map V.int)->lE P w H s₁.heap->(∀b,H b≠none->b=a)->(H a≠none->K.lookup a=none)->
   codeAny (model P w) callerA (.call (.ref fa) ⟨[.ref a],[]⟩) (λr s'=>r= .ok (.ret (.bool true))/\OldK s₁.heap s'.heap/\s'.os=s₁.os/\AllBare s'.gens) s₁:=by
  intro H hO hS aY hA hK;have Es:∀{b:Addr} {o:Obj},s₁.heap.get? b=some o->H b=none->(yv s₁.heap H).get? b=some o:=λe n=>JD e n;have Sh:∀{b:Addr} {o:Obj} {es:Array DictEntry} {ep:Nat},s₁.heap.get? b=some o->o.data= .dict es ep->H b=none:=λ{b o es ep} e d=>by
   cases q:H b with
   |none=>rfl
   |some u=>
    have e':b=a:=hA b (by rw [q];simp);subst e';rw [ha] at e;cases e;have d':Data.seq vs.toArray _=Data.dict es ep:=d;cases d'
  have Vw:∀{b:Addr} {m:Str->Option Value},s₁.heap.Ns b m->(yv s₁.heap H).Ns b m:=λ{b m} ⟨o,es,ep,e,d,r⟩=>⟨o,es,ep,Es e (Sh e d),d,r⟩
  have ZG:K.In (yv s₁.heap H):=λb o e=>Es (KX b o e) (by
   cases q:H b with
   |none=>rfl
   |some u=>
    have e':b=a:=hA b (by rw [q];simp);subst e'
    rw [hK (by rw [q];simp)] at e;cases e)
  have hM:Mod K mg (yv s₁.heap H):=⟨ZG,Vw hns,⟨mb,Vw hb,hbb⟩,let ⟨mc,h1,h2⟩:=Yk;⟨mc,Vw h1,h2⟩⟩;have e0:BF P w K mg (yv s₁.heap H) callerA [] s₁ H:=⟨rfl,hM,λb o e=>LX e,Nat.le_of_eq (GQ _ _),trivial,λb hb=>absurd (show b∈([]:List Addr) from hb) (by simp),aY,.of_eq hg⟩;refine codeAny_mono ((F _ ZG (Vw hns)).run callerA [] s₁ H ⟨[.ref a],[]⟩ [.ref a] [.ref a] _ _ hr e0 (UP s₁ (.ref a)) (.cons rfl .nil) (NV H hO hS)) λr s' h=>?_;cases r with
  |error e=>exact (Wg H e s' h).elim
  |ok fl=>
   cases fl with
   |next=>exact False.elim h
   |brk=>exact False.elim h
   |cont=>exact False.elim h
   |ret u=>
    obtain ⟨v,H',os,bare,un,WG,r',q⟩:=h;have q':v= .bl true:=q;subst q';obtain rfl:u=Value.bool true:=r';refine ⟨rfl,OldK.of_keep λb o e=>?_,os,bare⟩;cases q:H b with
    |none=>exact un.keep b o e q (by intro z;exact absurd (show b∈([]:List Addr) from z) (by simp)) (by simp)
    |some u=>
     rcases hO b with z|⟨ob,xs,z⟩
     ·rw [q] at z;cases z
     ·have z2:=un.oW b ob _ z;obtain ⟨e1,_⟩:=aY b _ z;obtain ⟨e2,_⟩:=WG b _ z2;rw [e] at e1;cases e1;exact e2
 cases hk:K.lookup a with
 |some o=>
  have e:=KX a o hk;rw [ha] at e;cases e;refine core (λ_=>none) (λ_=> .inl rfl) (.inr ⟨_,vs.toArray,_,hk,rfl,rfl,rfl,by rw [List.size_toArray,V'];exact hl,by simpa using rv⟩) (λb u z=>by have z':(none:Option HO)=some u:=z;cases z') (λb z=>absurd rfl z) λz=>absurd rfl z
 |none=>
  refine core (λb=>if b=a then some (.yL {cls:= .type "list",data:= .seq vs.toArray} (.lst (ns.map V.int))) else none) (λb=>?_) (.inl (.inr ⟨{cls:= .type "list",data:= .seq vs.toArray},if_pos rfl⟩)) (λb u z=>?_) (λb z=>?_) λ_=>hk
  ·by_cases hb:b=a
   ·exact .inr ⟨_,_,if_pos hb⟩
   ·exact .inl (if_neg hb)
  ·by_cases hb:b=a
   ·have z':=(if_pos hb).symm.trans z;cases z';subst hb;exact ⟨ha,by rw [aac];exact hl,vs,_,rv,ha⟩
   ·have z':=(if_neg hb).symm.trans z;cases z'
  ·by_cases hb:b=a
   ·exact hb
   ·exact absurd (if_neg hb) z
theorem yD{l:PySem.W.OpenLaw}{n k:Nat}{q:Program}{loose:List Str}{XP:(Str->Option Value)->Heap->Prop}{YP:World->Heap->Prop}{d:DefRec}{K:Params->fI}{CX:World->A_}{sp:World->Sp}{x:Str}
  (hn:l.most=some n) (VJ:n<=sizeLine) (RP:d.params.defaults=[]) (hr:bM k callerA)
  (hY:∀(w:World) (h:Heap),YP w h->(K w.params).In h)
  (F:∀(w:World) (mg:Str->Option Value) (fa:Addr) (h:Heap),(K w.params).In h->h.Ns mainGlobals mg->mg d.name=some (.ref fa)->
   ∃fd:FuncData,(∀(s:Shared) (u:Value),BindsTo s fd ⟨[u],[]⟩ [(x,u)])/\
    ∀base:Heap,(K w.params).In base->base.Ns mainGlobals mg->ah l.prog w (K w.params) mg base (CX w) k fa fd [x] (sp w))
  (NV:∀(w:World) (H:Hp) (a:Addr) (ns:List Int),ns.length<=n->PM H->gu (K w.params) H a (ns.map V.int)->sp w [.ref a] H (λv _=>v= .bl true) λ_ _ _=>False)
  (Wg:∀(w:World) (H:Hp) (s:Shared) (e:Value) (s':Shared),CX w [] H s (λ_ _ _=>False) e s'->False):
  PySem.W.WalkO q loose XP YP l.row.toRowW d [] (λf vs=>PySem.call f vs):=by
 refine Att.zh hn RP λw s₀ s₁ mg mb fa o pm cd doc a vs ns G Y ho hd EO MI Qe hints hlen hg=>?_;have KX:=hY w _ Y;obtain ⟨fd,hb,hF⟩:=F w mg fa _ KX G.T.g MI;exact JV KX G.T.g G.T.b G.T.builtins G.T.nolimit hg Qe hints (aap hlen VJ) hr hF hb (λH hO hS=>NV w H a ns hlen hO hS) λH e s'=>Wg w H s₁ e s'
end L2
/- THE YE Mv (shape;LID,My.* are Ue):
  My.Adr:a structure of Ly addresses Zu Wy U5 names (classes,FZ);My.Txt K t:a structure (Prop) of Ly equations qD K;
  My.B5:{K} {implicit addresses ..} (e1:nsIn K mainGlobals "law"=some (some (.ref f))) (e2:K.lookup f=some ⟨oc,od,.func (fnOf "law" "law" params body scope dV kV doc pm an aT ct),sl⟩) (e3:codeIn K aT "law"=true) .. :∃t,My.Txt K t
set_option maxRecDepth 100000 in
set_option maxHeartbeats 0 in
theorem PySem.Challenge.cw_LID_holds : PySem.Challenge.rw_LID.Holds := by
 w_on;o_law;k_head;(case hw=>w_witness2)
 k_fill
 refine L2.yD (l:=PySem.Challenge.rw_LID) (n:=63) (k:=40) (x:="script") (CX:=fun w=> ..) (sp:=fun _=>My.P2) rfl (by decide) rfl ⟨rfl,by decide,by decide⟩ (fun w h Y=>PySem.W.kIn_of Y) ?F ?S ?C
 case F=>
  intro w mg fa h KX G MI;have T:∃t,My.Txt (L2.Yh KX) t:=by
   dsimp only [L2.Yh]
   refine' My.B5 ?e1 ?e2 ?e3 ..
   (case e1=>PySem.W.k_is)
   (case e2=>PySem.W.k_is)
   ..
  obtain ⟨t,T⟩:=T;have e0:=MI.symm.trans (PySem.W.mg_of KX G T.law);cases e0;exact ⟨_,λs u=> .of_eq rfl,λbase kb nb=>My.B6 T kb nb⟩
 case S=>exact λw H a ns hl hO hS=> ..
 case C=>exact ..
(Ly tactic k_is has no namespace:write k_is) -/
namespace L2
open PySem PySem.Spec PyProof.Rows
def fZ(s:Stmt):Arguments:=match s with
 |.FunctionDef _ a _ _ _ _ _ _ _ _=>a
 |_=>{posonlyargs:=[],args:=[],vararg:=none,kwonlyargs:=[],kw_defaults:=[],kwarg:=none,defaults:=[]}
def dH(s:Stmt):List Stmt:=match s with
 |.FunctionDef _ _ b _ _ _ _ _ _ _=>b
 |_=>[]
def τ(s:Stmt):Scope:=match s with
 |.FunctionDef _ _ _ _ _ _ sc _ _ _=>sc
 |_=>{kind:= .function,names:=[],isGenerator:=false,isCoroutine:=false}
abbrev Vj:A_:=λ_ _ _ _ _ _=>False
abbrev E0:XK:=λ_ _ _=>False
structure cJ(K:fI)(x qual:Str)(st:Stmt)(f:Addr)(fd:FuncData):Prop where
 ex:∃(oc:Value) (od:Option Addr) (kV doc pm:Value) (an:Option Addr) (aT ct:Value) (Bc:Array (Option Value)),
  fd=PySem.W.fnOf x qual (fZ st) (dH st) (τ st) .none kV doc pm an aT ct/\K.lookup f=some ⟨oc,od,.func fd,Bc⟩/\PySem.W.codeIn K aT qual=true
 kp:PySem.W.keepIn K (.ref f)=true
section
variable{P:Program}{w:World}{K:fI}{mg:Str->Option Value}{base:Heap}
theorem cJ.binds{x qual:Str}{st:Stmt}{f:Addr}{fd:FuncData}{ps:List Str}(F:cJ K x qual st f fd)
  (h:∀(kV doc pm:Value) (an:Option Addr) (aT ct:Value) (us:List Value),us.length=ps.length->bindArgs (PySem.W.fnOf x qual (fZ st) (dH st) (τ st) .none kV doc pm an aT ct) ⟨us,[]⟩=pure (ps.zip us)):iu K fd ps []:=by
 obtain ⟨oc,od,kV,doc,pm,an,aT,ct,Bc,rfl,lk,EO⟩:=F.ex;exact .all (h kV doc pm an aT ct)
theorem Jo{x qual:Str}{st:Stmt}{f:Addr}{oc:Value}{od an:Option Addr}{Bc:Array (Option Value)}{kV doc pm aT ct:Value}(l:K.lookup f=some ⟨oc,od,.func (PySem.W.fnOf x qual (fZ st) (dH st) (τ st) .none kV doc pm an aT ct),Bc⟩)
  (c:PySem.W.codeIn K aT qual=true) (k:PySem.W.keepIn K (.ref f)=true):cJ K x qual st f (PySem.W.fnOf x qual (fZ st) (dH st) (τ st) .none kV doc pm an aT ct):=⟨⟨oc,od,kV,doc,pm,an,aT,ct,Bc,rfl,l,c⟩,k⟩
end
theorem EH{A:Around}{k:Nat}(hr:bM k A):A.units+1<cLine:=aaM (Nat.add_le_add_left (by decide:1<=64) _) hr.units
theorem GJ{A B:Prop}(h:B):if false=true then A else B:=by rw [if_neg aaw];exact h
theorem EX{A B:Prop}(h:A):if true=true then A else B:=by rw [if_pos rfl];exact h
def dI(H H':Hp):Prop:=∀b o,H b=some o->H' b=some o
theorem dI.refl(H:Hp):dI H H:=λ_ _ h=>h
theorem dI.trans{H H1 H2:Hp}(a:dI H H1)(b:dI H1 H2):dI H H2:=λc o h=>b c o (a c o h)
theorem dI.free{H H':Hp}(e:dI H H'){l:Addr}(h:H' l=Option.none):H l=Option.none:=by
 cases q:H l with
 |none=>rfl
 |some o=>
  rw [e l o q] at h;cases h
theorem dI.seq{K:fI}{H H':Hp}{a:Addr}{xs:List V}(e:dI H H')(h:gu K H a xs):gu K H' a xs:=by
 rcases h with (h|⟨o,h⟩)|h
 ·exact .inl (.inl (e _ _ h))
 ·exact .inl (.inr ⟨o,e _ _ h⟩)
 ·exact .inr h
section
variable{P:Program}{w:World}
def MB(B:Heap)(l:List Env)(x:Addr)(o:Obj)(fl:Value)(h:Heap):Prop:=
 B.StaysIn h/\B.get? x=none/\h.FunFrames B l/\∃(vs:Array Value) (T:Addr) (oT:Obj) (ts:Array Value),h.get? x=some {o with data:= .fields vs}/\vs[2]? =some .none/\vs[1]? =some (.ref T)/\
  B.get? T=none/\T≠x/\h.get? T=some oT/\oT.data= .fields ts/\ts[3]? =some fl
section
variable{M:Model}{A:Around}{E:Value->Shared->Prop}{s:Shared}{B:Heap}{env:Env}{outer l:List Env}{L x:Addr}{o:Obj}{vs:Array Value}{Q:Unit->Shared->Prop}
theorem sL{h h':Heap}{T:Addr}{oT:Obj}{ts:Array Value}(hT:h.get? T=some oT)(hd:oT.data= .fields ts)(k:∀b,b≠T->h'.get? b=h.get? b):h.UpToSlots h':=λb ob e hn=>
 ⟨ob.slots,(k b λz=>by rw [z,hT] at e;cases e;exact hn _ hd).trans e⟩
theorem vX{h h':Heap}(hl:h.FunFrames B l)(u:h.UpToSlots h'):h'.FunFrames B l:=hl.of_keeps λb ob e hn=>by obtain ⟨sl,q⟩:=u b ob e hn;exact ⟨_,q,rfl⟩
theorem Je{head:Value}{Vo:Bool}(Wd:A.frames=some (env::outer))(hf:env.frame=some L)(hB:B.StaysIn s.heap)(hn:B.get? x=none)(hl:s.heap.FunFrames B (env::outer))(hx:s.heap.get? x=some {o with data:= .fields vs})(h1:1<vs.size)(h2:vs[2]? =some .none)
  (h:∀h',MB B (env::outer) x o (rawInt L) h'->s.heap.UpToSlots h'->Q () {s with heap:=h'}):
  wpAny M A (do let a<-frameOf env;let pl<-entryPlaceOf L Vo;let n<-EntryCells.newEntry head a .none (rawInt L) .none pl;setField (.ref x) 1 n) Q E s:=by
 refine wpAny_bind (wpAny_frameOf_fun Wd hl hf λg1 S1=>wpAny_bind (wpAny_entryPlaceOf λpl gq=>?_));have nx:x∉(env::outer).filterMap (·.frame):=λz=>by obtain ⟨_,ob,e,d⟩:=hl.mem z;rw [hx] at e;cases e;exact d _ rfl
 have hx1:g1.get? x=some {o with data:= .fields vs}:=(S1.2.1 x nx).trans hx;unfold EntryCells.newEntry newFields;refine wpAny_bind (wpAny_newObj_type ?_ (gq.sizeOk5 _ _ _ _ _));have hx2:=Heap.get?_push_of_some (h:=g1) {cls:= .type "traceback",dict:=none,data:= .fields ([head,.ref L,.none,rawInt L,.none]++(if pl.isEmpty then List.replicate 6 Value.none else pl)).toArray} hx1;refine wpAny_setField hx2 rfl h1 (h _ ?_ ?_)
 ·have up1:∀b ob,b≠x->g1.get? b=some ob->((g1.push {cls:= .type "traceback",dict:=none,data:= .fields ([head,.ref L,.none,rawInt L,.none]++(if pl.isEmpty then List.replicate 6 Value.none else pl)).toArray}).update x (Obj.mapFields (·.setIfInBounds 1 (Value.ref g1.objs.size)))).get? b=some ob:=λb ob nb e=>
   (Heap.get?_update_other _ _ (Ne.symm nb)).trans (Heap.get?_push_of_some _ e)
  have neT:g1.objs.size≠x:=acf (Heap.lt_size hx1)
  refine ⟨λb ob e=>up1 b ob (λz=>by rw [z,hn] at e;cases e) ((S1.2.1 b λz=>by rw [(hl.mem z).1] at e;cases e).trans (hB b ob e)),hn,hl.of_keeps λb ob e d=>?_,vs.setIfInBounds 1 (.ref g1.objs.size),g1.objs.size,_,_,Heap.get?_update_self _ hx2 rfl,by rw [Array.getElem?_setIfInBounds_ne (by decide)];exact h2,by simp [h1],?_,neT,
   (Heap.get?_update_other _ _ (Ne.symm neT)).trans (Heap.get?_push_size g1 rfl),rfl,?_⟩
  ·obtain ⟨sl,q⟩:=S1.2.2 b ob e;exact ⟨_,up1 b _ (λz=>by rw [z,hx] at e;cases e;exact d _ rfl) q,rfl⟩
  ·cases q:B.get? g1.objs.size with
   |none=>rfl
   |some ob=>
    have:=Heap.lt_size (hB _ _ q);rw [<-S1.1] at this;exact absurd this (abq _)
  ·first
    |(simp;done)
    |(rcases gq with rfl|⟨_,_,_,_,_,_,_,rfl⟩ <;> simp)
 ·intro b ob e d;obtain ⟨sl,q⟩:=S1.2.2 b ob e;refine ⟨sl,?_⟩;rw [Heap.get?_update_other _ _ (λz:x=b=>by rw [<-z,hx] at e;cases e;exact d _ rfl)];exact Heap.get?_push_of_some _ q
theorem RT(Wd:A.frames=some (env::outer))(hf:env.frame=some L)(R:MB B (env::outer) x o .none s.heap)
  (h:∀h',MB B (env::outer) x o (rawInt L) h'->s.heap.UpToSlots h'->Q () {s with heap:=h'}):wpAny M A (noteFrame (.ref x) env) Q E s:=by
 obtain ⟨hB,hn,hl,vs,T,oT,ts,hx,h2,h1,nT,VN,hT,dT,h3⟩:=R;unfold noteFrame;simp only [hf];refine wpAny_bind (wpAny_field hx rfl h1 ?_);rw [if_pos (show (Value.ref T != Value.none)=true by simp)];refine wpAny_bind (wpAny_field hT dT h3 ?_);rw [if_neg (show¬((Value.none==rawInt L)=true) by simp [rawInt])];refine wpAny_bind (wpAny_setField hT dT (abT.mp h3).1 ?_);have Lj:∀b,b≠T->(s.heap.update T (Obj.mapFields (·.setIfInBounds 3 Value.none))).get? b=s.heap.get? b:=λb nb=>Heap.get?_update_other _ _ (Ne.symm nb);have u:=sL hT dT Lj;exact Je Wd hf (λb ob e=>(Lj b λz=>by rw [z,nT] at e;cases e).trans (hB b ob e)) hn (vX hl u) ((Lj x (Ne.symm VN)).trans hx) (abT.mp h1).1 h2 λh' F' u'=>h h' F' (u.trans u')
theorem LS{fl:Value}(R:MB B l x o fl s.heap)(h:∀h',MB B l x o .none h'->s.heap.UpToSlots h'->Q () {s with heap:=h'}):wpAny M A (setFlight (.ref x) none) Q E s:=by obtain ⟨hB,hn,hl,vs,T,oT,ts,hx,h2,h1,nT,VN,hT,dT,h3⟩:=R;unfold setFlight;refine wpAny_bind (wpAny_field hx rfl h1 ?_);rw [if_pos (show (Value.ref T != Value.none)=true by simp)];have z3:=(abT.mp h3).1;have Lj:∀b,b≠T->(s.heap.update T (Obj.mapFields (·.setIfInBounds 3 ((none:Option Addr).elim Value.none λf=>rawInt f)))).get? b=s.heap.get? b:=λb nb=>Heap.get?_update_other _ _ (Ne.symm nb);have u:=sL hT dT Lj;refine wpAny_setField hT dT z3 (h _ ⟨λb ob e=>(Lj b λz=>by rw [z,nT] at e;cases e).trans (hB b ob e),hn,vX hl u,vs,T,_,_,(Lj x (Ne.symm VN)).trans hx,h2,h1,nT,VN,Heap.get?_update_self _ hT (Obj.isFreed_of_fields (Obj.data_mapFields dT _)),Obj.data_mapFields dT _,by simp [z3]⟩ u)
theorem Qo{fl:Value}{h:Heap}(R:MB B (env::outer) x o fl h):MB B outer x o fl h:=by obtain ⟨hB,hn,⟨_,_,hl⟩,r⟩:=R;exact ⟨hB,hn,hl,r⟩
end
structure Vn(P:Program)(w:World)(l:List Env)(H H':Hp)(h h' B:Heap)(x:Addr)(o:Obj):Prop where
 un:Un (qB l) [] H H' h h'
 ok:lE P w H' B
 Sk:MB B l x o .none h'
 Ba:∀b u,h.get? b=some u->H b=none->b∉qB l->B.get? b=some u
 Sw:∀b u,h.get? b=some u->b∉qB l->∃u',B.get? b=some u'
variable{l:List Env}{H H':Hp}{h h' Vy B:Heap}{x:Addr}{o:Obj}
end
def bU(P:Program)(w:World):A_:=λouter H s E e s'=>
 ∃x o H' B,e= .ref x/\s'.os=s.os/\AllBare s'.gens/\Vn P w outer H H' s.heap s'.heap B x o/\E o.cls o.dict H'
section
variable{X:Cx}{ζ:List (Addr×Obj)}{σ:St}{H H':Hp}{s:Shared}{Vy B:Heap}{x:Addr}{ox:Obj}
theorem Vn.leave(I:Inv X ζ σ H s)(hex:X.ex=[])(PJ:∀b∈qB X.outer,b∈qB X.stack)(ok:lE X.prog X.w H' B)(f:MB B X.outer x ox .none Vy)(nx0:X.s₀.heap.get? x=none)
  (Ba:∀b o,b≠x->s.heap.get? b=some o->H b=none->b∉qB X.stack->B.get? b=some o)
  (Sw:∀b o,b≠x->s.heap.get? b=some o->b∉qB X.stack->∃o',B.get? b=some o')
  (sl:∀b o,s.heap.get? b=some o->b∈qB X.stack->∃sl,Vy.get? b=some {o with slots:=sl})
  (free:∀b o,s.heap.get? b=some o->H b=none->H' b=none)
  (qv:∀b xs,H b=some (.tup xs)->H' b=some (.tup xs)) (oW:∀b o u,H b=some (.yL o u)->H' b=some (.yL o u))
  (qx:∀b ps,H b=some (.NH ps)->∃more,H' b=some (.NH (ps++more))):Vn X.prog X.w X.outer X.H₀ H' X.s₀.heap Vy B x ox:=by
 have nX:∀b o,X.s₀.heap.get? b=some o->b≠x:=λb o e z=>by rw [z,nx0] at e;cases e
 have k4:∀b:Addr,b∉X.ex:=λb z=>by rw [hex] at z;cases z
 have nS:∀b o,X.s₀.heap.get? b=some o->b∉qB X.outer->b∉qB X.stack:=λb o e hb z=>
  (aaC.mp (I.xg b z)).elim (λq=>aaI (aat (Heap.lt_size e) I.ok.above) q) hb
 refine ⟨⟨λb o e n hb _=>?_,λb o e n hb _=>?_,λb o e n _=>?_,λb o e _=>?_,λb xs e=>qv b xs (I.base.qv b xs e),λb o u e=>oW b o u (I.base.oW b o u e),λb ps e=>?_⟩,ok,f,λb o e n hb=>?_,λb o e hb=>?_⟩
 ·exact f.1 b o (Ba b o (nX b o e) (I.base.keep b o e n hb (k4 b)) (I.base.free b o e n (k4 b)) (nS b o e hb))
 ·obtain ⟨s1,e1⟩:=I.base.slot b o e n hb (k4 b);obtain ⟨s2,e2⟩:=sl b _ e1 (PJ b hb);exact ⟨s2,e2⟩
 ·obtain ⟨o',e1⟩:=I.base.there b o e (k4 b);exact free b o' e1 (I.base.free b o e n (k4 b))
 ·obtain ⟨o',e1⟩:=I.base.there b o e (k4 b);by_cases hb:b∈qB X.stack
  ·obtain ⟨s2,e2⟩:=sl b _ e1 hb;exact ⟨_,e2⟩
  ·obtain ⟨o2,q⟩:=Sw b o' (nX b o e) e1 hb;exact ⟨o2,f.1 _ _ q⟩
 ·obtain ⟨m1,e1⟩:=I.base.qx b ps e;obtain ⟨m2,e2⟩:=qx b _ e1;exact ⟨m1++m2,by rw [e2,Array.append_assoc]⟩
 ·exact Ba b o (nX b o e) (I.base.keep b o e n hb (k4 b)) (I.base.free b o e n (k4 b)) (nS b o e hb)
 ·obtain ⟨o',e1⟩:=I.base.there b o e (k4 b);exact Sw b o' (nX b o e) e1 (nS b o e hb)
end
def cW(CX:A_)(X:Cx)(R:St->XK):Prop:=∀(ζ:List (Addr×Obj)) (σ:St) (H:Hp) (s:Shared) (e:Value) (s':Shared),Inv X ζ σ H s->CX X.stack H s (R σ) e s'->X.xe e s'
section
variable{P:Program}{w:World}{K:fI}{mg:Str->Option Value}{base:Heap}{N:List Str}{qual:Str}{scope:Scope}{f:Addr}{cd:Value}{A:Around}{outer:List Env}{s₀:Shared}{H₀:Hp}{E:XK}
theorem L6{env:Env}{outer:List Env}:∀b∈qB outer,b∈qB (env::outer):=λb hb=>by obtain ⟨en,he,hf⟩:=ab4.mp hb;exact ab4.mpr ⟨en,aad _ he,hf⟩
theorem ξ:cW (bU P w) (uk (bU P w) P w K mg base N qual scope f cd A outer s₀ H₀ E) (λ_=>E):=by
 intro ζ σ H s e s' I hx;obtain ⟨x,o,H',B,rfl,os,bare,F,hE⟩:=hx;show wpAny _ _ (do noteFrame (.ref x) _;setFlight (.ref x) none) _ _ s';refine wpAny_bind (RT (B:=B) I.ok.frames rfl F.Sk λh4 f4 u4=>LS f4 λh5 f5 u5=>?_);refine ⟨x,o,H',B,rfl,os.trans I.os,bare,Vn.leave I rfl L6 F.ok (Qo f5) ?_ (λb o _=>F.Ba b o) (λb o _=>F.Sw b o) (λb o q hb=>?_) (λb o q n=>F.un.free b o q n (by simp)) F.un.qv F.un.oW F.un.qx,hE⟩
 ·show s₀.heap.get? x=none;cases q:s₀.heap.get? x with
  |none=>rfl
  |some u=>
   obtain ⟨u',e1⟩:=I.base.there x u q (λz=>nomatch z);by_cases hb:x∈qB (uk (bU P w) P w K mg base N qual scope f cd A outer s₀ H₀ E).stack
   ·obtain ⟨vs,_,_,_,hxx,_⟩:=F.Sk.2.2.2;obtain ⟨_,o',FK,hd⟩:=F.Sk.2.2.1.mem hb;rw [hxx] at FK;cases FK;exact absurd rfl (hd _)
   ·obtain ⟨u2,e2⟩:=F.Sw x u' e1 hb;rw [F.Sk.2.1] at e2;cases e2
 ·obtain ⟨sl,e1⟩:=F.un.slot b o q (I.x_ b hb) hb (by simp);obtain ⟨_,o',FK,hd⟩:=F.Sk.2.2.1.mem hb;rw [e1] at FK;cases FK;obtain ⟨VQ,e2⟩:=(u4.trans u5) b _ e1 hd;exact ⟨VQ,e2⟩
end
def QQ(sp:Sp)(ou:List V)(R:St->XK)(t:TA):TE:=λσ H Q=>t σ H λvs H1=>sp (vs++ou) H1 Q (R σ)
section
variable{X:Cx}{CX:A_}{k:Nat}{f:Addr}{fd:FuncData}{ps:List Str}{sp:Sp}{ou:List V}{ds:List Value}{R:St->XK}{x:Str}{p pos:Pos}{e:Expr}{es:List Expr}{t:TA}
theorem xp{ζ:List (Addr×Obj)}{σ:St}{H:Hp}{s:Shared}{Q:VK}{us:List Value}{vs:List V}(F:ah X.prog X.w X.K X.mg X.base CX k f fd ps sp)(hr:bM k X.A)(hb:iu X.K fd ps ds)(hd:ax ou ds)(hx:cW CX X R)
  (I:Inv X ζ σ H s) (r:ax vs us) (h:sp (vs++ou) H Q (R σ)):wpAny (model X.prog X.w) X.A (call (.ref f) us) (EP X ζ σ Q) X.xe s:=by
 have r2:ax (vs++ou) (us++ds):=r.append hd;have hl:(us++ds).length=ps.length:=by rw [<-r2.length];exact F.len _ _ _ _ h
 refine wpAny_call (codeAny_mono (F.run X.A X.stack s H ⟨us,[]⟩ (us++ds) (vs++ou) Q (R σ) hr I.Sn (hb s us I.qp hl) r2 h) λr s' hq=>?_);cases r with
 |error e=>exact hx ζ σ H s e s' I hq
 |ok fl=>
  cases fl with
  |ret u=>exact I.after hq
  |next=>exact False.elim hq
  |brk=>exact False.elim hq
  |cont=>exact False.elim hq
theorem z7(F:ah X.prog X.w X.K X.mg X.base CX k f fd ps sp)(hr:bM k X.A)(hg:Gl X x)(hm:X.mg x=some (.ref f))(hk:PySem.W.keepIn X.K (.ref f)=true)(hb:iu X.K fd ps ds)(hd:ax ou ds)(hx:cW CX X R)
  (ha:PA X (e::es) t) (uJ:(x==("__debug__":Str))=false:=by decide) (he:starEach (e::es) X.env=(false,eval e X.env)::starEach es X.env:=by rfl) (gq:(backTo pos (starEach es X.env)).any (·.1)=false:=by rfl):
  PE X (.Call (.Name x p) (e::es) [] pos) (QQ sp ou R t):=by
 intro ζ s σ H Q I h;refine wpAny_Call_Name_kw (qS I hg hm ?_ uJ);refine PySem.W.callWith_K (h₀:=X.base) I.ok.mod.S6 hk (bA (ha pos ζ s σ H _ I h) λus s1 ⟨vs,H1,I1,r,q⟩=>⟨I1.qp,?_⟩) he gq;exact xp F hr hb hd hx I1 r q
end
def lU(env:Env):List (Str×NameKind)->List (Str×Addr)->List (Str×Addr)
 |[],Ζ=>Ζ
 |p::r,Ζ=>lU env r (if p.2== .free then (p.1,(env.cells.lookup p.1).getD 0)::Ζ else Ζ)
theorem sU{scope:Scope}{env:Env}(h:∀p∈scope.names,p.2= .free->(env.cells.lookup p.1).isSome=true):closureFor scope env=pure (lU env scope.names []):=by
 have key:∀(l:List (Str×NameKind)) (Ζ:List (Str×Addr)),(∀p∈l,p.2= .free->(env.cells.lookup p.1).isSome=true)->
   (forIn l Ζ (λ(p:Str×NameKind) (r:List (Str×Addr))=>(if p.2== .free then (do let c<-cellOf env p.1;pure (ForInStep.yield ((p.1,c)::r))) else pure (ForInStep.yield r):Sem (ForInStep (List (Str×Addr))))))=(pure (lU env l Ζ):Sem (List (Str×Addr))):=by
  intro l
  induction l with
  |nil=>intro Ζ _;rfl
  |cons p r ih=>
   intro Ζ hp;rw [List.forIn_cons];have ih':=λa=>ih a λq hq=>hp q (aad _ hq);obtain ⟨n,k⟩:=p;by_cases hk:k= .free
   ·subst hk;have hs:=hp (n,.free) aae rfl;cases hl:env.cells.lookup n with
    |none=>rw [show env.cells.lookup (n,NameKind.free).1=none from hl] at hs;cases hs
    |some c=>
     have e1:lU env ((n,.free)::r) Ζ=lU env r ((n,c)::Ζ):=by show lU env r (if (NameKind.free==NameKind.free)=true then (n,(env.cells.lookup n).getD 0)::Ζ else Ζ)=_;rw [if_pos (by decide),hl];rfl
     have e2:cellOf env n=pure c:=by unfold cellOf;rw [hl]
     rw [e1];have e3:(NameKind.free==NameKind.free)=true:=by decide
     simp only [e3,if_true,e2,pure_bind];exact ih' _
   ·have hb:(k==NameKind.free)=false:=by simpa using hk
    have e1:lU env ((n,k)::r) Ζ=lU env r Ζ:=by show lU env r (if (k==NameKind.free)=true then (n,(env.cells.lookup n).getD 0)::Ζ else Ζ)=_;rw [hb,if_neg (by decide)]
    rw [e1];simp only [hb,Bool.false_eq_true,if_false,pure_bind];exact ih' _
 have:=key scope.names [] h;unfold closureFor
 first
  |exact this
  |(simp only [bind_pure];exact this)
  |(rw [bind_pure];exact this)
theorem vH{env:Env}{y:Str}{c:Addr}:∀(l:List (Str×NameKind)) (Ζ:List (Str×Addr)),(∀p∈l,p.2= .free->(env.cells.lookup p.1).isSome=true)->
  (Ζ.lookup y=some c->env.cells.lookup y=some c)->(lU env l Ζ).lookup y=some c->env.cells.lookup y=some c
 |[],Ζ,_,ha,h=>ha h
 |(n,k)::r,Ζ,hp,ha,h=>by
  refine vH r _ (λq hq=>hp q (aad _ hq)) (λe=>?_) h;split at e
  ·rename_i hk;rw [abd] at e;cases q:(y==n) with
   |true=>
    rw [q] at e;have e':(env.cells.lookup n).getD 0=c:=aav e;have hn:y=n:=by simpa using q
    subst hn;have hs:=hp (y,k) List.mem_cons_self (by simpa using hk);cases z:env.cells.lookup y with
    |none=>rw [show env.cells.lookup (y,k).1=none from z] at hs;cases hs
    |some d=>rw [z] at e';rw [<-e'];rfl
   |false=>rw [q] at e;exact ha e
  ·exact ha e
theorem rA{env:Env}{y:Str}:∀(l:List (Str×NameKind)) (Ζ:List (Str×Addr)),((y,NameKind.free)∈l\/(Ζ.lookup y).isSome=true)->((lU env l Ζ).lookup y).isSome=true
 |[],Ζ,h=>by
  rcases h with h|h
  ·cases h
  ·exact h
 |(n,k)::r,Ζ,h=>by
  refine rA r _ ?_;by_cases hy:y=n
  ·subst hy;by_cases hk:k= .free
   ·subst hk;right;show (List.lookup y (if (NameKind.free==NameKind.free)=true then (y,(env.cells.lookup y).getD 0)::Ζ else Ζ)).isSome=true;rw [if_pos (by decide),abd,beq_self_eq_true];rfl
   ·rcases h with h|h
    ·rcases aaC.mp h with z|z
     ·exact absurd (Prod.mk.inj z).2.symm hk
     ·exact .inl z
    ·right;rw [if_neg (by simpa using hk)];exact h
  ·rcases h with h|h
   ·rcases aaC.mp h with z|z
    ·exact absurd (Prod.mk.inj z).1 hy
    ·exact .inl z
   ·right;split
    ·rw [List.lookup_cons,show (y==n)=false by simpa using hy];exact h
    ·exact h
def Cx.comp(X:Cx)(Nc:List Str)(scope:Scope)(C:Addr)(s:Shared)(H:Hp)(fp:List Addr):Cx:={X with
 N:=Nc
 s₀:=s
 H₀:=H
 env:=compEnvC scope (lU X.env scope.names []) C X.env
 outer:=X.stack
 ex:=fp
 fn:=λ_=>false
 pn:=[]
 xe:=λ_ _=>False}
theorem Δ.of{N P:List Str}{sc:Scope}(h:(sc.kind,sc.isCoroutine,sc.isGenerator)=(.function,false,false))(h2:N.Nodup/\N.take P.length=P/\(∀x∈P,sc.names.lookup x=some .local\/sc.names.lookup x=some .cell)/\(∀y∈sc.names,y.2≠ .free):=by decide+kernel):Δ N P sc:=by obtain ⟨a,b,c,d⟩:=h2;exact ⟨congrArg (·.1) h,congrArg (·.2.1) h,congrArg (·.2.2) h,a,b,c,d⟩
structure ay(X:Cx)(scope:Scope)(xs ys:List Str)(ae:List Nat):Prop where
 kind:scope.kind= .function
 IJ:∀p∈scope.names,p.2≠ .cell
 names:∀p∈scope.names,p.2= .local->scope.names.lookup p.1=some .local
 own:∀x∈xs,scope.names.lookup x=some .local
 free:∀p∈scope.names,p.2= .free->X.env.scope.names.lookup p.1=some .cell
 nd:(xs++ys).Nodup
 cap:∀q∈ys.zip ae,X.N[q.2]? =some q.1/\X.env.scope.names.lookup q.1=some .cell/\scope.names.lookup q.1=some .free
 len:ys.length=ae.length
theorem ay.of{X:Cx}{scope:Scope}{xs ys:List Str}{ae:List Nat}{N ps:List Str}{sc:Scope}(_:Δ N ps sc)(hN:X.N=N)(hs:X.env.scope=sc)(k:scope.kind= .function)(h:(∀p∈scope.names,p.2≠ .cell)/\(∀p∈scope.names,p.2= .local->scope.names.lookup p.1=some .local)/\(∀x∈xs,scope.names.lookup x=some .local)/\(∀p∈scope.names,p.2= .free->sc.names.lookup p.1=some .cell)/\(xs++ys).Nodup/\(∀q∈ys.zip ae,N[q.2]? =some q.1/\sc.names.lookup q.1=some .cell/\scope.names.lookup q.1=some .free)/\ys.length=ae.length:=by decide+kernel):ay X scope xs ys ae:=by subst hN hs;obtain ⟨a,b,c,d,e,f,g⟩:=h;exact ⟨k,a,b,c,d,e,f,g⟩
theorem Kw{env:Env}{y:Str}:∀{l:List (Str×NameKind)},(∀p∈l,p.2≠ .cell)->
  ((l.map λ(n,k)=>if (k==NameKind.free&&env.scope.kind== .function&&env.kindOf n==some .cell) then (n,NameKind.cell) else (n,k)).lookup y=some .cell\/
   (l.map λ(n,k)=>if (k==NameKind.free&&env.scope.kind== .function&&env.kindOf n==some .cell) then (n,NameKind.cell) else (n,k)).lookup y=some .free)->(y,NameKind.free)∈l
 |[],_,h=>by rcases h with h|h <;> cases h
 |(n,k)::r,hc,h=>by
  have ih:= @Kw env y r (λp hp=>hc p (aad _ hp));rw [aaA] at h;by_cases q:(k==NameKind.free&&env.scope.kind== .function&&env.kindOf n==some .cell)=true
  ·have hk:k= .free:=by rw [aao,aao] at q;simpa using q.1.1
   subst hk;by_cases hy:y=n
   ·subst hy;exact aae
   ·refine aad _ (ih ?_);have hb:(y==n)=false:=by simpa using hy
    simp only [q,if_true,List.lookup_cons,hb] at h;exact h
  ·by_cases hy:y=n
   ·subst hy;have hb:(y==y)=true:=by simp
    simp only [q,Bool.false_eq_true,if_false,List.lookup_cons,hb] at h;rcases h with h|h
    ·exact absurd (aav h) (hc (y,k) aae)
    ·rw [<-aav h];exact aae
   ·refine aad _ (ih ?_);have hb:(y==n)=false:=by simpa using hy
    simp only [q,Bool.false_eq_true,if_false,List.lookup_cons,hb] at h;exact h
theorem z6{env:Env}{y:Str}(hk:env.scope.kind= .function)(hy:env.kindOf y=some .cell):∀{l:List (Str×NameKind)},l.lookup y=some .free->
  (l.map λ(n,k)=>if (k==NameKind.free&&env.scope.kind== .function&&env.kindOf n==some .cell) then (n,NameKind.cell) else (n,k)).lookup y=some .cell
 |[],h=>by cases h
 |(n,k)::r,h=>by
  have ih:= @z6 env y hk hy r;rw [aaA];rw [abd] at h;by_cases e:y=n
  ·subst e;have hb:(y==y)=true:=by simp
   rw [hb] at h;have:k= .free:=aav h;subst this;have q:(NameKind.free==NameKind.free&&env.scope.kind== .function&&env.kindOf y==some .cell)=true:=by rw [hk,hy];rfl
   simp only [q,if_true,List.lookup_cons,hb]
  ·have hb:(y==n)=false:=by simpa using e
   rw [hb] at h;by_cases q:(k==NameKind.free&&env.scope.kind== .function&&env.kindOf n==some .cell)=true
   ·simp only [q,if_true,List.lookup_cons,hb];exact ih h
   ·simp only [q,Bool.false_eq_true,if_false,List.lookup_cons,hb];exact ih h
theorem ay.has{X:Cx}{scope:Scope}{xs ys:List Str}{ae:List Nat}(S:ay X scope xs ys ae)(ok:X.Ok):∀p∈scope.names,p.2= .free->(X.env.cells.lookup p.1).isSome=true:=λp hp hf=>by obtain ⟨c,e⟩:=ok.has p.1 (.inl (S.free p hp hf));rw [e];rfl
theorem Ik{α β:Type}:∀{xs:List α}{ys:List β}{j:Nat}{x:α}{y:β},xs[j]? =some x->ys[j]? =some y->(x,y)∈xs.zip ys
 |x::xs,y::ys,0,_,_,h1,h2=>by cases h1;cases h2;exact aae
 |x::xs,y::ys,j+1,_,_,h1,h2=>aad _ (Ik (xs:=xs) (ys:=ys) (j:=j) h1 h2)
 |[],_,_,_,_,h1,_=>by simp at h1
 |_::_,[],_,_,_,_,h2=>by simp at h2
def oC(ae:List Nat)(σ:St):St:=ae.map λi=>(σ[i]?).join
def v8(n:Nat)(gg:TG):Prop:=∀v (os cs:St) H (Q:St->Hp->Prop),os.length=n->gg v (os++cs) H Q->gg v (os++cs) H λσ' H'=>(∃VO:St,VO.length=n/\σ'=VO++cs)/\Q σ' H'
def CD(J:It)(n:Nat)(gg:TG)(tc:TT)(te:TE)(cs:St)(Q:VK)(H1:Hp)(D:Addr):Prop:=
 ∃ W:Nat->Nat->List V->Hp->Prop,(∃m,W 0 m [] (upd H1 D (.lst [])))/\∀i m ys H2,W i m ys H2->H2 D=some (.lst ys)/\
  ((J.stop i H2/\Q (.ref D) H2)\/(J.go i H2/\∀x H3,J.S7 i H2 x H3->∀os:St,os.length=n->gg x (os++cs) H3 λσ' H3'=>tc σ' H3' λb H4=>match b with
   |true=>te σ' H4 λy H5=>H5 D=some (.lst ys)/\ys.length<sizeLine/\∃m',m'<m/\W (i+1) m' (ys++[y]) (upd H5 D (.lst (ys++[y])))
   |false=>∃m',m'<m/\W (i+1) m' ys H4))
def HB(wi:TI)(n:Nat)(gg:TG)(tc:TT)(te:TE)(ae:List Nat):TE:=λσ H Q=>wi σ H λJ H1=>∀D,H1 D=none->CD J n gg tc te (oC ae σ) Q H1 D
def YA(cs:List Expr)(env:Env):Sem Bool:=match cs with
 |[]=>pure true
 |c::_=>isTrue c env (eval c env)
def Vi(X:Cx)(cs:List Expr)(t:TT):Prop:=
 (cs=[]\/∃c,cs=[c])/\∀(ζ:List (Addr×Obj)) (s:Shared) (σ:St) (H:Hp) (Q:Bool->Hp->Prop),Inv X ζ σ H s->t σ H Q->wpAny (model X.prog X.w) X.A (YA cs X.env) (TP X ζ σ Q) X.xe s
theorem uK{elt target iter:Expr}{cs:List Expr}{scope:Scope}{pos:Pos}{it Ζ:Value}{env:Env}(h:cs=[]\/∃c,cs=[c]):
  compTurn (.ListComp elt [⟨target,iter,cs,0⟩] scope pos) 0 it Ζ env=(standAt iter.pos >>= λ_=>pyNext it >>= λr=>match r with
   |none=>pure (.done .next)
   |some v=>letOwnedTupleGo target it v >>= λ_=>assign target env v >>= λ_=>YA cs env >>= λok=>
    (if ok=true then (eval elt env >>= λx=>call (.builtin "list.append") [Ζ,x] >>= λ_=>pure ()) >>= λ_=>again (.compLoop (.ListComp elt [⟨target,iter,cs,0⟩] scope pos) 0 it Ζ env)
     else again (.compLoop (.ListComp elt [⟨target,iter,cs,0⟩] scope pos) 0 it Ζ env))):=by
 rcases h with rfl|⟨c,rfl⟩ <;> (unfold compTurn YA;dsimp only [List.getElem?_cons_zero,List.getElem?_cons_succ,List.getElem?_nil];simp only [List.forIn_cons,List.forIn_nil,bind_assoc,pure_bind,if_true];rfl)
section
variable{X:Cx}{elt iter tg:Expr}{cs:List Expr}{xs:List Str}{scope:Scope}{pos:Pos}{wi:TI}{gg:TG}{tc:TT}{te:TE}{ys:List Str}{ae:List Nat}
theorem vZ(S:ay X scope xs ys ae)(hc:X.calm=true)(hg:∀C s H fp,PG (Cx.comp X (xs++ys) scope C s H fp) tg gg)(hk:v8 xs.length gg)(ht:∀C s H fp,Vi (Cx.comp X (xs++ys) scope C s H fp) cs tc)(he:∀C s H fp,PE (Cx.comp X (xs++ys) scope C s H fp) elt te)
  {ζ:List (Addr×Obj)} {σ:St} {H2:Hp} {s2:Shared} {it:Addr} {fp:List Addr} {tn:Nat->Heap->Prop} {J:It} {Q:V->Hp->Prop} {PQ:Value->Addr->Result->Shared->Prop} (I:Inv X ζ σ H2 s2) (T:Turn X.prog X.w X.K tg J fp it tn) (t0:tn 0 s2.heap) (f2:∀b∈fp,tR X ζ H2 b)
  (h:∀D,H2 D=none->CD J xs.length gg tc te (oC ae σ) Q H2 D)
  (hPQ:∀D C s' H',Inv X ζ σ H' s'->Q (.ref D) H'->(∃m,s'.heap.Ns C m)->H' C=none->X.s₀.heap.objs.size<=C->C≠X.env.locals->(∀z c,X.env.cells.lookup z=some c->c≠C)->(∀p∈X.pn++ζ,p.1≠C)->PQ (.ref D) C (.ok .next) s'):
  wpAny (model X.prog X.w) X.A (newList []) (λΖ s3=>wpAny (model X.prog X.w) X.A (newFunctionEnv scope X.env.globals (lU X.env scope.names []) [] X.env.qual none .none (some X.env)) (λR9 s4=>
   codeAny (model X.prog X.w) X.A (.compStart (.ListComp elt [⟨tg,iter,cs,0⟩] scope pos) 0 (.ref it) Ζ {R9 with scope:=relabel scope X.env}) (PQ Ζ R9.locals) s4) X.xe s3) X.xe s2:=by
 have hD:H2 s2.heap.objs.size=none:=I.fresh;obtain ⟨W,⟨m0,w0⟩,step⟩:=h _ hD;refine wpAny_newObj_type ?_;have I3:Inv X ζ σ (upd H2 s2.heap.objs.size (.lst [])) {s2 with heap:=s2.heap.push {cls:= .type "list",data:= .seq ([]:List Value).toArray}}:=Inv.Pj (t':=s2.toks) I (ys:=[]) (its:=[]) .nil (abP _);generalize hH3:upd H2 s2.heap.objs.size (.lst [])=H3 at I3 w0;generalize hs3:({s2 with heap:=s2.heap.push {cls:= .type "list",data:= .seq ([]:List Value).toArray}}:Shared)=s3 at I3;have V9:∀b∈fp,H3 b=none:=λb hb=>by obtain ⟨o,e,_⟩:=T.obj _ _ t0 b hb;rw [<-hH3,Κ (aaI (Heap.lt_size e))];exact (f2 b hb).1
 have t3:tn 0 s3.heap:=T.keep _ _ _ t0 λb hb o e=>by rw [<-hs3];exact Heap.get?_push_of_some _ e
 refine wpAny_newFunctionEnv S.IJ (λy hy=>nomatch hy) (λh4 ns4 sb4=>?_) S.kind;have hC:H3 s3.heap.objs.size=none:=I3.fresh
 have kp:∀b o,s3.heap.get? b=some o->h4.get? b=some o:=λb o e=>
  (sb4.2 b (aaI (Heap.lt_size e))).trans (Heap.get?_push_of_some _ e)
 generalize YQ:({s3 with heap:=h4,toks:=s3.toks+([]:List (Str×Value)).length}:Shared)=s4;have e4:s4.heap=h4:=by rw [<-YQ]
 have Mo:∀z c,X.env.cells.lookup z=some c->c≠s3.heap.objs.size:=λz c e q=>by obtain ⟨v,w⟩:=I3.cell z c e;exact abq _ (q▸w.lt)
 have vL:∀z c,(lU X.env scope.names []).lookup z=some c->X.env.cells.lookup z=some c:=λz c e=>vH scope.names [] (S.has I.ok) (λq=>nomatch q) e;have Lne:s3.heap.objs.size≠X.env.locals:=acf I3.lt;have ok:(Cx.comp X (xs++ys) scope s3.heap.objs.size s3 H3 fp).Ok:=by
  refine ⟨I3.ok.mod,S.kind,I3.ok.glob,I3.ok.blt,aai _,λz z' c e1 e2=>I3.ok.inj z z' c (vL z c e1) (vL z' c e2),λz hz=>?_,λz c hz=>(by cases hz),I3.ok.hd,I3.ok.frames,.inl rfl,λb hb=>⟨?_,λz c e=>?_⟩,I3.bs,?_,λb o e hb=>?_,λb hb hf=>?_,I3.stack,I3.x_⟩
  ·have:=rA (env:=X.env) scope.names [] (.inl (Kw S.IJ hz));exact abu.mp this
  ·obtain ⟨o,e,_⟩:=T.obj _ _ t3 b hb;exact aaI (Heap.lt_size e)
  ·exact (f2 b hb).2.2.2.2.1 z c (vL z c e)
  ·exact aap I3.ok.lA I3.sz
  ·obtain ⟨_,_,_,hy,_⟩:=f2 b hb;have e0:=(I3.ok.bs b o e).1;rcases hy with hy|hy
   ·exact I3.ok.Rk b o e hy
   ·exact absurd (aat (Heap.lt_size e0) hy) (abq _)
  ·obtain ⟨_,hl,hfs,_⟩:=f2 b hb;exact (aaC.mp (I3.xg b hf)).elim hl hfs
 have hlen:((List.replicate xs.length (none:Option V))++oC ae σ).length=(xs++ys).length:=by rw [aah,aah,aaS,S.len];unfold oC;rw [aac]
 have I4:Inv X ζ σ H3 s4:=by rw [<-YQ];exact I3.kept kp
 have Ic:Inv (Cx.comp X (xs++ys) scope s3.heap.objs.size s3 H3 fp) [] ((List.replicate xs.length (none:Option V))++oC ae σ) H3 s4:=by
  refine ⟨ok,by rw [<-YQ];rfl,I4.bare,Un.kept (by rw [e4];exact kp),⟨_,by rw [e4];exact ns4,λi z v e1 e2 e3=>?_⟩,λz c e=>I4.cell z c (vL z c e),hC,λz c e=>I4.pZ z c (vL z c e),(λp hp=>nomatch hp),I4.aY,hlen⟩;have e1:(xs++ys)[i]? =some z:=e1;by_cases hi:i<xs.length
  ·rw [aaq (by rw [aaS];exact hi),abK,if_pos hi] at e2;cases e2
  ·obtain ⟨j,rfl⟩:∃j,i=xs.length+j:=⟨i-xs.length,by omega⟩;have e1:ys[j]? =some z:=by rw [aan (by omega),abg] at e1;exact e1
   have e2:(oC ae σ)[j]? =some (some v):=by rw [aan (by rw [aaS];omega),aaS,abg] at e2;exact e2
   unfold oC at e2;rw [aal] at e2;cases hi:ae[j]? with
   |none=>rw [hi] at e2;cases e2
   |some i=>
    rw [hi] at e2;have e2:(σ[i]?).join=some v:=aav e2;have e2:σ[i]? =some (some v):=by
     cases q:σ[i]? with
     |none=>rw [q] at e2;cases e2
     |some o=>rw [q] at e2;exact congrArg some e2
    obtain ⟨c1,c2,c3⟩:=S.cap (z,i) (Ik e1 hi);have c4:=z6 (env:=X.env) I.ok.kind c2 c3;have c3:(z,NameKind.free)∈scope.names:=PySem.mem_of_lookup c3;obtain ⟨m,hn,hl⟩:=I4.loc;obtain ⟨u,r,lk⟩:=hl i z v c1 e2 (.inr (.inl c2));refine ⟨u,r,.inr ⟨.inl c4,?_⟩⟩;rcases lk with ⟨k,_⟩|⟨_,c,zG,z'⟩
    ·exact absurd ((show X.env.scope.names.lookup z=some .local from k).symm.trans c2) (by decide)
    ·obtain ⟨d,hd⟩:=abu.mp (rA (env:=X.env) scope.names [] (.inl c3));have:=vL z d hd;rw [zG] at this;cases this;exact ⟨c,hd,z'⟩
 have loop:codeAny (model X.prog X.w) X.A (.compLoop (.ListComp elt [⟨tg,iter,cs,0⟩] scope pos) 0 (.ref it) (.ref s2.heap.objs.size) (compEnvC scope (lU X.env scope.names []) s3.heap.objs.size X.env)) (PQ (.ref s2.heap.objs.size) s3.heap.objs.size) s4:=by
  have Xd:∀{H':Hp},(∀b∈fp,H' b=none)->∀b∈fp,tR (Cx.comp X (xs++ys) scope s3.heap.objs.size s3 H3 fp) [] H' b:=λhn b hb=>
   ⟨hn b hb,(ok.Z' b hb).1,ok.Rp b hb,.inl hb,(ok.Z' b hb).2,(λp hp=>nomatch hp)⟩
  refine codeAny_loop rfl (λn s'=>∃(i:Nat) (zs:List V) (os:St) (H':Hp),os.length=xs.length/\Inv (Cx.comp X (xs++ys) scope s3.heap.objs.size s3 H3 fp) [] (os++oC ae σ) H' s'/\tn i s'.heap/\(∀b∈fp,H' b=none)/\W i n zs H') (λn s5 z=>?_) m0 ⟨0,[],List.replicate xs.length none,H3,by rw [aaS],Ic,T.keep _ _ _ t3 (λb hb o e=>by rw [e4];exact kp b o e),V9,w0⟩;obtain ⟨i,zs,os,H5,l5,I5,t5,Vq,w5⟩:=z;show wpAny _ _ ((compTurn _ 0 (.ref it) _ _).onRaise _) _ _ s5;refine wpAny_noted ?_;rw [uK (ht s3.heap.objs.size s3 H3 fp).1];refine wpAny_bind (wpAny_standAt (wpAny_bind ?_));obtain ⟨JB,stop|go⟩:=step i n zs H5 w5
  ·obtain ⟨stop,q⟩:=stop;refine bA (T.done (Cx.comp X (xs++ys) scope s3.heap.objs.size s3 H3 fp) rfl rfl rfl hc i [] s5 _ H5 _ I5 (Xd Vq) t5 stop) λr s6 ⟨hr,I6⟩=>?_;subst hr;refine wpAny_pure (hPQ _ _ s6 H5 ?_ q ?_ I6.free ?_ Lne Mo λp hp z=>?_)
   ·refine I3.U1 I6.os I6.base I6.aY I6.bare λb hb=>?_;obtain ⟨_,g1,_,g3,g4,g5⟩:=f2 b hb;exact ⟨g3,g1,g4,g5⟩
   ·obtain ⟨m,hn,_⟩:=I6.loc;exact ⟨m,hn⟩
   ·exact I3.sz
   ·exact aaI (Heap.lt_size (I3.pin p hp).1) z
  ·obtain ⟨go,turn⟩:=go;refine bA (T.item (Cx.comp X (xs++ys) scope s3.heap.objs.size s3 H3 fp) rfl rfl rfl hc i [] s5 _ H5 _ I5 (Xd Vq) t5 go) λr s6 ⟨u,hr,h6⟩=>?_;subst hr;refine wpAny_bind (bA h6 λ_ s7 ⟨y,H7,I7,r7,y7,t7,fr7⟩=>?_);have I7':=I7.pinned (Xd fr7) (T.obj _ _ t7);refine wpAny_bind (wpAny_mono (hg _ _ _ _ _ s7 _ H7 y u _ I7' r7 (hk y os _ H7 _ l5 (turn y _ y7 os l5))) (λ_ s8 z8=>?_) λ_ _ f=>f.elim);obtain ⟨σ8,H8,I8,⟨os8,l8,e8⟩,q8⟩:=z8;subst e8;refine wpAny_bind (wpAny_mono ((ht _ _ _ _).2 _ s8 _ _ _ I8 q8) (λb s9 z9=>?_) λ_ _ f=>f.elim);obtain ⟨H9,I9,q9⟩:=z9;cases b with
   |false=>
    obtain ⟨m9,hm9,w9⟩:=q9;refine wpAny_pure ⟨rfl,m9,hm9,i+1,zs,os8,_,l8,I9.kM,T.keep _ _ _ t7 λb hb o e=>(I9.pin (b,o) (aaz _ (aaz _ (fi hb e)))).1,λb hb=>?_,w9⟩;obtain ⟨o,e,_⟩:=T.obj _ _ t7 b hb;exact (I9.pin (b,o) (aaz _ (aaz _ (fi hb e)))).2.1
   |true=>
    refine wpAny_bind (wpAny_bind (wpAny_mono (he _ _ _ _ _ s9 _ _ _ I9 q9) (λu10 s10 z10=>?_) λ_ _ f=>f.elim));obtain ⟨v10,H10,I10,r10,WY,l10,m10,YJ,w10⟩:=z10;refine wpAny_bind (wpAny_mono (vE (X:=Cx.comp X (xs++ys) scope s3.heap.objs.size s3 H3 fp) _ s10 _ H10 (.ref s2.heap.objs.size) [v10] _ [u10] (λ_ H'=>H'=upd H10 s2.heap.objs.size (.lst (zs++[v10]))) I10 rfl (.cons r10 .nil) ⟨_,zs,v10,rfl,rfl,WY,l10,rfl⟩) (λ_ s11 z11=>?_) λ_ _ f=>f.elim);obtain ⟨_,H11,Wk,_,e11⟩:=z11;subst e11;refine wpAny_pure (wpAny_pure ⟨rfl,m10,YJ,i+1,zs++[v10],os8,_,l8,Wk.kM,T.keep _ _ _ t7 λb hb o e=>(Wk.pin (b,o) (aaz _ (aaz _ (fi hb e)))).1,λb hb=>?_,w10⟩);obtain ⟨o,e,_⟩:=T.obj _ _ t7 b hb;exact (Wk.pin (b,o) (aaz _ (aaz _ (fi hb e)))).2.1
 exact codeAny_compStart_list loop (T.self X.A 0 _ _ _ (T.keep _ _ _ t3 (λb hb o e=>by rw [e4];exact kp b o e)) loop)
theorem Iw(S:ay X scope xs ys ae)(hc:X.calm=true)(hi:PI X tg iter wi)(hg:∀C s H fp,PG (Cx.comp X (xs++ys) scope C s H fp) tg gg)(hk:v8 xs.length gg)(ht:∀C s H fp,Vi (Cx.comp X (xs++ys) scope C s H fp) cs tc)(he:∀C s H fp,PE (Cx.comp X (xs++ys) scope C s H fp) elt te)(hs:∀x,foldedSetIterable iter X.env x=pure x:=by intro _;rfl):
  PE X (.ListComp elt [⟨tg,iter,cs,0⟩] scope pos) (HB wi xs.length gg tc te ae):=by
 intro ζ s σ H Q I h;rw [eval_ListComp];refine wpAny_comprehension_free (use:=none) rfl hs (sU (S.has I.ok)) S.kind S.names (bA (hi ζ s σ H _ I h) λv s1 h1=>bA h1 λVR s2 h2=>?_);obtain ⟨it,fp,tn,J,H2,rfl,I2,T,t0,f2,q⟩:=h2;refine vZ S hc hg hk ht he (Q:=Q) I2 T t0 f2 q λD C s' H' I' q' n' hC hz hL OY hp=>?_;obtain ⟨m,n'⟩:=n';exact ⟨m,n',λh' sb=>⟨.ref D,H',I'.turned (it:=C) (t':=s'.toks) (λb o hb e=>(sb.2 b hb).trans e) hC hL (.inr hz) OY hp,rfl,q'⟩⟩
theorem yO{i:Nat}{y:Str}{py tZ:Pos}(hN:X.N.Nodup)(QR:X.N[i]? =some y)(hy:Loc X.env.scope y)(S:ay X scope xs ys ae)(hc:X.calm=true)(hi:PI X tg iter wi)(hg:∀C s H fp,PG (Cx.comp X (xs++ys) scope C s H fp) tg gg)(hk:v8 xs.length gg)(ht:∀C s H fp,Vi (Cx.comp X (xs++ys) scope C s H fp) cs tc)(he:∀C s H fp,PE (Cx.comp X (xs++ys) scope C s H fp) elt te)
  (O8:swapsWith (.ListComp elt [⟨tg,iter,cs,0⟩] scope pos) (some (.Name y py)) tZ.line X.env=pure true) (hs:∀x,foldedSetIterable iter X.env x=pure x)
  (hf:X.fn y=true\/X.env.scope.names.lookup y=some .local):
  PS X (.Assign [.Name y py] (.ListComp elt [⟨tg,iter,cs,0⟩] scope pos) tZ) (λD σ H=>HB wi xs.length gg tc te ae σ H λv H1=>D.nx (σ.set i (some v)) H1):=by
 intro ζ s σ H D I h;rw [exec_Assign_Name_used _ _ _ _ O8];refine wpAny_bind (wpAny_standAt (wpAny_bind ?_));show wpAny _ _ (do let _<-comprehension (.ListComp elt [⟨tg,iter,cs,0⟩] scope pos) scope X.env _ (newList []) false (eval iter X.env) (some (assign (.Name y py) X.env))) _ _ s;refine wpAny_bind (wpAny_mono (wpAny_comprehension_free (use:=some (assign (.Name y py) X.env)) (Q:=λ_ s'=>SP X ζ D .next s') rfl hs (sU (S.has I.ok)) S.kind S.names (bA (hi ζ s σ H _ I h) λv s1 h1=>bA h1 λVR s2 h2=>?_)) (λ_ s' hq=>wpAny_pure (wpAny_pure hq)) λ_ _ e=>e);obtain ⟨it,fp,tn,J,H2,rfl,I2,T,t0,f2,q⟩:=h2;refine vZ S hc hg hk ht he (Q:=λv H1=>D.nx (σ.set i (some v)) H1) I2 T t0 f2 q λDl C s' H' I' q' n' hC hz hL OY hp=>?_;obtain ⟨m,n'⟩:=n';show wpAny _ _ (assign (.Name y py) X.env (.ref Dl)) _ _ s';refine wpAny_assign_Name (uY I' hN QR hy (v:= .ref Dl) rfl (λs3 I3 Ys=>?_) hf);obtain ⟨a,Ys,ha⟩:=Ys;have hCa:C≠a:=by
  rcases ha with rfl|ha
  ·exact hL
  ·exact (OY _ _ ha).symm
 exact ⟨m,n'.sameBut Ys hCa,λh' sb=>⟨_,H',I3.turned (it:=C) (t':=s3.toks) (λb o hb e=>(sb.2 b hb).trans e) hC hL (.inr hz) OY hp,q'⟩⟩
end
section
variable{P:Program}{w:World}{K:fI}{mg:Str->Option Value}{base:Heap}
theorem cJ.okX{x qual:Str}{st:Stmt}{f:Addr}{fd:FuncData}{N ps:List Str}{k:Nat}{sp:Sp}(F:cJ K x qual st f fd)(S:Δ N ps (τ st))(len:∀vs H Q E,sp vs H Q E->vs.length=ps.length)
  (rM:∀(aT:Value) (A:Around) (outer:List Env) (s:Shared) (H:Hp) (vs:List V) (Q:VK) (E:XK),bM k (A.deeper (envOfC qual (τ st) s.heap.objs.size f aT))->sp vs H Q E->
   ∃t,Hx (uk (bU P w) P w K mg base N qual (τ st) f aT A outer s H E) (dH st) t/\t {nx:=λ_ H'=>Q .bw H',rt:=Q} (start N vs) H):ah P w K mg base (bU P w) (k+1) f fd ps sp:=by
 obtain ⟨oc,od,kV,doc,pm,an,aT,ct,Bc,rfl,lk,EO⟩:=F.ex;exact N4 lk EO S len λA outer s H vs Q E hr NV=>rM aT A outer s H vs Q E hr NV
end
theorem fB{X:Cx}{P:Program}{w:World}:cW (bU P w) X (λ_=>E0):=by intro ζ σ H s e s' _ hx;obtain ⟨_,_,_,_,_,_,_,_,hE⟩:=hx;exact hE.elim
theorem log2_lt{n:Nat}{k:Nat}(h:n<2^k)(hk:0<k):n.log2<k:=by
 by_cases h0:n=0
 ·rw [h0,show Nat.log2 0=0 from rfl];exact hk
 ·exact (Nat.log2_lt h0).mpr h
def iL(i:Int):Prop:=i.natAbs<2^8000
theorem FD{i j:Int}(hi:iL i)(hj:iL j):IntMulOk i j:=by
 have b:∀{i:Int},iL i->Builtin.Int.intBits i<=8000:=λ{i} h=>by
  unfold Builtin.Int.intBits;split
  ·exact abP _
  ·have:=log2_lt (k:=8000) h (by decide);omega
 have b1:=b hi;have b2:=b hj;have h3:Builtin.Int.intTooBig (Builtin.Int.intBits i+Builtin.Int.intBits j)=false:=by
  unfold Builtin.Int.intTooBig;refine decide_eq_false ?_;have:(bitsLine:Int)=134217728:=by decide
  omega
 unfold IntMulOk;rw [h3,Bool.and_false];exact aaw
section
variable{X:Cx}
theorem LD:jL X (binaryOp .Mult) (rI (λi j=>iL i/\iL j) λi j=> .int (i*j)):=VB λ_ _ _ _ _ _ _ hc q=>mul_int q (FD hc.1 hc.2)
theorem y3:jL X (binaryOp .FloorDiv) (rI (λ_ j=>j≠0/\iL j) λi j=> .int (i.fdiv j)):=VB λ_ _ _ _ _ _ _ hc q=>
 floordiv_int hc.1 q (.inl (PyProof.noPylong_of_log2 (aat (log2_lt (k:=8000) hc.2 (by decide)) (by decide))))
end
def Nk:V->Option Value
 |.ty T=>some (.type T)
 |.ref C=>some (.ref C)
 |_=>none
theorem Mm{c:V}{u t:Value}(r:aC c u)(h:Nk c=some t):u=t:=by
 cases c with
 |ty T=>cases r;exact aav h
 |ref C=>cases r;exact aav h
 |_=>cases h
section
variable{X:Cx}
theorem Ag:dw X (.builtin "isinstance") (λxs H Q=>∃x c t t' b,xs=[x,c]/\lD X.K H x t/\Nk c=some t'/\PySem.W.kitOne X.K t t'=some b/\Q (.bl b) H):=by intro ζ s σ H xs us Q I r h;obtain ⟨x,c,t,t',b,rfl,ty,hc,hk,q⟩:=h;obtain ⟨u,u',rfl,r1,r2⟩:=OK r;cases Mm r2 hc;exact Gf I r1 ty hk λtk=>⟨.bl b,H,I.tok tk,rfl,q⟩
end
def nR:List V->List V->Bool
 |[],[]=>true
 |x::xs,y::ys=>uz x y&&nR xs ys
 |_,_=>false
theorem mU:∀(xs ys:List V) (e:Nat->Bool),(∀j x y,xs[j]? =some x->ys[j]? =some y->e j=uz x y)->((List.range (min xs.length ys.length)).all e&&xs.length==ys.length)=nR xs ys
 |[],[],e,_=>rfl
 |[],_::_,e,_=>by simp [nR]
 |_::_,[],e,_=>by simp [nR]
 |x::xs,y::ys,e,h=>by
  have ih:=mU xs ys (λj=>e (j+1)) λj x y h1 h2=>h (j+1) x y h1 h2;have h0:e 0=uz x y:=h 0 x y rfl rfl;show _=(uz x y&&nR xs ys);rw [<-ih,<-h0];have e1:min (x::xs).length (y::ys).length=min xs.length ys.length+1:=by simp only [List.length_cons];omega
  rw [e1,abA,abL,List.all_map];have e2:((x::xs).length==(y::ys).length)=(xs.length==ys.length):=by simp only [List.length_cons];rw [Bool.eq_iff_iff];simp
  rw [e2,Bool.and_assoc];rfl
def R7(K:fI):R2:=λx y H Q=>∃a b xs ys,x= .ref a/\y= .ref b/\m_ K H a xs/\m_ K H b ys/\xs.all eC=true/\ys.all eC=true/\Q (.bl (nR xs ys)) H
def U4(K:fI):R2:=λx y H Q=>∃a b xs ys,x= .ref a/\y= .ref b/\m_ K H a xs/\m_ K H b ys/\xs.all eC=true/\ys.all eC=true/\Q (.bl (!nR xs ys)) H
theorem nO:∀{xs:List V}{j:Nat}{x:V},xs.all eC=true->xs[j]? =some x->eC x=true
 |_::_,0,_,h,e=>by rw [abL,aao] at h;cases e;exact h.1
 |_::_,j+1,_,h,e=>by rw [abL,aao] at h;exact nO h.2 e
section
variable{X:Cx}
theorem QL(hu:X.A.units<cLine):jL X (compareOp .NotEq) (U4 X.K):=by
 intro ζ s σ H x y v u Q I rx ry h;obtain ⟨a,b,xs,ys,rfl,rfl,h1,h2,f1,f2,q⟩:=h;cases rx;cases ry;obtain ⟨i1,v1,t1,_⟩:=I.tuple h1;obtain ⟨i2,v2,t2,_⟩:=I.tuple h2;have l1:=v1.length;have l2:=v2.length;refine SeqAt.RcNeAt.tuples (e:=λj=>match xs[j]?,ys[j]? with|some x,some y=>uz x y|_,_=>true) (show s.heap.IsTuple a i1.toArray from t1) (show s.heap.IsTuple b i2.toArray from t2) hu (λj h1 h2=>?_) _ _ _ _ ?_
 ·have b1:j<i1.length:=by simpa using h1
  have b2:j<i2.length:=by simpa using h2
  have e1:xs[j]? =some (xs[j]'(by omega)):=aaa _;have e2:ys[j]? =some (ys[j]'(by omega)):=aaa _;obtain ⟨u1,g1,r1⟩:=v1.get e1;obtain ⟨u2,g2,r2⟩:=v2.get e2;rw [aaa b1] at g1;rw [aaa b2] at g2;have w1:i1.toArray[j]=u1:=by simpa using Option.some.inj g1
  have w2:i2.toArray[j]=u2:=by simpa using Option.some.inj g2
  rw [w1,w2];simp only [e1,e2];exact wX r1 r2 (nO f1 e1) (nO f2 e2)
 ·rw [List.size_toArray,List.size_toArray,<-l1,<-l2,mU xs ys _ (λj x y h1 h2=>by simp only [h1,h2])];exact ⟨.bl (!nR xs ys),H,I,rfl,q⟩
theorem KR(hu:X.A.units<cLine):jL X (compareOp .Eq) (R7 X.K):=by
 intro ζ s σ H x y v u Q I rx ry h;obtain ⟨a,b,xs,ys,rfl,rfl,h1,h2,f1,f2,q⟩:=h;cases rx;cases ry;obtain ⟨i1,v1,t1,_⟩:=I.tuple h1;obtain ⟨i2,v2,t2,_⟩:=I.tuple h2;have l1:=v1.length;have l2:=v2.length;refine SeqAt.eq_tupleAt (e:=λj=>match xs[j]?,ys[j]? with|some x,some y=>uz x y|_,_=>true) (show s.heap.IsTuple a i1.toArray from t1) (show s.heap.IsTuple b i2.toArray from t2) hu (λj h1 h2=>?_) ?_
 ·have b1:j<i1.length:=by simpa using h1
  have b2:j<i2.length:=by simpa using h2
  have e1:xs[j]? =some (xs[j]'(by omega)):=aaa _;have e2:ys[j]? =some (ys[j]'(by omega)):=aaa _;obtain ⟨u1,g1,r1⟩:=v1.get e1;obtain ⟨u2,g2,r2⟩:=v2.get e2;rw [aaa b1] at g1;rw [aaa b2] at g2;have w1:i1.toArray[j]=u1:=by simpa using Option.some.inj g1
  have w2:i2.toArray[j]=u2:=by simpa using Option.some.inj g2
  rw [w1,w2];simp only [e1,e2];exact wX r1 r2 (nO f1 e1) (nO f2 e2)
 ·rw [List.size_toArray,List.size_toArray,<-l1,<-l2,mU xs ys _ (λj x y h1 h2=>by simp only [h1,h2])];exact ⟨.bl (nR xs ys),H,I,rfl,q⟩
end
theorem Hl(bs:List Bool):(List.range bs.length).any (λi=>bs.getD i false)=bs.any id:=by
 induction bs with
 |nil=>rfl
 |cons b bs ih=>
  rw [aax,abA,abM,List.any_map,abM,<-ih];rfl
theorem xa:∀{bs:List Bool}{us:List Value},ax (bs.map V.bl) us->us=bs.map Value.bool
 |[],_,r=>by cases r;rfl
 |b::bs,_,r=>by
  cases r with
  |cons h t=>
   cases h;rw [xa t];rfl
theorem zF{prog:Program}{w:World}{A:Around}{bs:List Bool}:TruthOf prog w A (λi v=>(bs.map Value.bool).toArray[i]? =some v) (λi=>bs.getD i false):=by
 intro i v s Q E h q;have h':(bs.map Value.bool)[i]? =some v:=by simpa using h
 rw [aal] at h';cases e:bs[i]? with
 |none=>rw [e] at h';cases h'
 |some b=>
  rw [e] at h';cases h';have q':Q b s:=by
   have eb:bs.getD i false=b:=by rw [aab,e];rfl
   exact eb▸q
  exact wpAny_truthy_bool q'
def U8(K:fI):List V->Hp->VK->Prop:=λxs H Q=>∃(p:Addr) (bs:List Bool),xs=[.ref p]/\gu K H p (bs.map V.bl)/\Q (.bl (bs.any id)) H
section
variable{X:Cx}
theorem Ke (hc : X.calm = true) : dw X (.builtin "any") (U8 X.K) := by
  intro ζ s σ H xs us Q I r h;obtain ⟨p, bs, rfl, hq, q⟩ := h;obtain ⟨u, rfl, r1⟩ := kX r;cases r1;obtain ⟨its, rv, pl, hz⟩ := I.list hq;have PY := xa rv;subst PY;refine call_any_walk (wpAny_pyIter_list pl.isList ?_);have lp : p<s.heap.objs.size := by obtain ⟨o, e, _⟩ := pl.isList; exact Heap.lt_size e
  refine ⟨s.heap.objs.size, _, _, _, _, _, λi => bs.getD i false, rfl, Walks.list (show X.A.in1.handled = none from I.ok.hd hc) s.heap.objs.size p (aaI lp) (bs.map Value.bool).toArray, ⟨⟨_, Heap.get?_push_size _ rfl, rfl, rfl⟩, pl.isList.at λo e => Heap.get?_push_of_some _ e⟩, zF, λh' tk hk =>?_⟩;refine ⟨.bl (bs.any id), H, I.kept λb o e => hk b o (λz => by have : b = s.heap.objs.size := (by simpa using z); exact Nat.lt_irrefl _ (this ▸ Heap.lt_size e)) (Heap.get?_push_of_some _ e),?_, q⟩;rw [aas, aac, Hl];rfl
end
end L2
namespace PySem
open Sem (wp)
end PySem
namespace PySem.W
open PySem PySem.Builtin PySem.Builtin.ObjectAttr
end PySem.W
namespace PySem
open Sem (wp)
end PySem
namespace L2
open PySem PySem.Spec PyProof.Rows
def xO(a C:Addr)(od:Option Addr):HO:= .ext λh=>∃ob vs,h.get? a=some ob/\ob.cls= .ref C/\ob.dict=od/\ob.data= .fields vs
inductive Dt where
 |bw
 |bl (b:Bool)
 |int (i:Int)
 |str (x:Str)
 |tup (xs:List Dt)
 |lst (xs:List Dt)
 |obj (C:Addr) (ns:List Str) (xs:List Dt)
 |loc (k:Nat)
 |ref (a:Addr)
 |ty (n:String)
 |kj (ns:List Int)
 |kt (xs:List Dt)
 |exc (C:Addr) (ns:List Str) (xs:List Dt)
 |Sl (x C:Addr) (od:Option Addr) (ns:List Str) (xs:List Dt)
inductive MO where
 |lst (xs:List Dt)
 |ins (C:Addr) (ns:List Str) (xs:List Dt)
 |fF (ks:List Key) (xs:List Dt)
 |raw (u:Addr->HO)
abbrev Ms:=List MO
abbrev En:=List (Option Dt)
mutual
def Den(K:fI)(G:Hp)(L:List Addr):Dt->V->Prop
 |.bw,v=>v= .bw
 |.bl b,v=>v= .bl b
 |.int i,v=>v= .int i
 |.str x,v=>v= .str x
 |.tup ds,v=>∃a vs,v= .ref a/\G a=some (.tup vs)/\Χ K G L ds vs
 |.lst ds,v=>∃a vs,v= .ref a/\G a=some (.lst vs)/\Χ K G L ds vs
 |.obj C ns ds,v=>∃a dx vs,v= .ref a/\G a=some (.ins C dx (ns.zip vs))/\ns.length=ds.length/\Χ K G L ds vs
 |.loc k,v=>∃a,v= .ref a/\L[k]? =some a
 |.ref a,v=>v= .ref a
 |.ty n,v=>v= .ty n
 |.kj ns,v=>∃a,v= .ref a/\gu K G a (ns.map V.int)
 |.kt ds,v=>∃a vs,v= .ref a/\m_ K G a vs/\Χ K G L ds vs
 |.exc C ns ds,v=>∃a od vs,v= .ref a/\G a=some (xO a C od)/\((ns=[]/\od=none)\/∃dx,od=some dx/\G dx=some (.xd (ns.zip vs)))/\ns.length=ds.length/\Χ K G L ds vs
 |.Sl x _ od ns ds,v=>∃vs,v= .ref x/\((ns=[]/\od=none)\/∃dx,od=some dx/\G dx=some (.xd (ns.zip vs)))/\ns.length=ds.length/\Χ K G L ds vs
def Χ(K:fI)(G:Hp)(L:List Addr):List Dt->List V->Prop
 |[],vs=>vs=[]
 |d::ds,vs=>∃v r,vs=v::r/\Den K G L d v/\Χ K G L ds r
end
def Pre(L L':List Addr):Prop:=∃t,L'=L++t
theorem Pre.refl(L:List Addr):Pre L L:=⟨[],by simp⟩
theorem Pre.trans{a b c:List Addr}(h:Pre a b)(h':Pre b c):Pre a c:=by obtain ⟨t,rfl⟩:=h;obtain ⟨u,rfl⟩:=h';exact ⟨t++u,by simp⟩
theorem Pre.get{a b:List Addr}(h:Pre a b){k:Nat}{x:Addr}(e:a[k]? =some x):b[k]? =some x:=by obtain ⟨t,rfl⟩:=h;have hk:k<a.length:=(aaf.mp e).1;rw [aaq hk];exact e
theorem dI.rd{H H':Hp}{a:Addr}{u:HO}(e:dI H H')(h:Rd H a u):Rd H' a u:=by
 rcases h with h|⟨o,h⟩
 ·exact .inl (e _ _ h)
 ·exact .inr ⟨o,e _ _ h⟩
theorem dI.Si{K:fI}{H H':Hp}{a:Addr}{xs:List V}(e:dI H H')(h:m_ K H a xs):m_ K H' a xs:=by
 rcases h with h|h
 ·exact .inl (e.rd h)
 ·exact .inr h
section
variable{K:fI}{G G':Hp}{L L':List Addr}
mutual
theorem Den.mono(g:dI G G')(l:Pre L L'):∀(d:Dt) (v:V),Den K G L d v->Den K G' L' d v
 |.bw,_,h=>h
 |.bl _,_,h=>h
 |.int _,_,h=>h
 |.str _,_,h=>h
 |.tup ds,_,⟨a,vs,e,h1,h2⟩=>⟨a,vs,e,g _ _ h1,Χ.mono g l ds vs h2⟩
 |.lst ds,_,⟨a,vs,e,h1,h2⟩=>⟨a,vs,e,g _ _ h1,Χ.mono g l ds vs h2⟩
 |.obj C ns ds,_,⟨a,dx,vs,e,h1,hn,h2⟩=>⟨a,dx,vs,e,g _ _ h1,hn,Χ.mono g l ds vs h2⟩
 |.loc k,_,⟨a,e,h1⟩=>⟨a,e,l.get h1⟩
 |.ref _,_,h=>h
 |.ty _,_,h=>h
 |.kj _,_,⟨a,e,h1⟩=>⟨a,e,g.seq h1⟩
 |.kt ds,_,⟨a,vs,e,h1,h2⟩=>⟨a,vs,e,g.Si h1,Χ.mono g l ds vs h2⟩
 |.exc _ _ ds,_,⟨a,od,vs,e,h1,h2,h3,h4⟩=>⟨a,od,vs,e,g _ _ h1,h2.imp (λz=>z) (λ⟨dx,z1,z2⟩=>⟨dx,z1,g _ _ z2⟩),h3,Χ.mono g l ds vs h4⟩
 |.Sl _ _ _ _ ds,_,⟨vs,e,h2,h3,h4⟩=>⟨vs,e,h2.imp (λz=>z) (λ⟨dx,z1,z2⟩=>⟨dx,z1,g _ _ z2⟩),h3,Χ.mono g l ds vs h4⟩
theorem Χ.mono(g:dI G G')(l:Pre L L'):∀(ds:List Dt) (vs:List V),Χ K G L ds vs->Χ K G' L' ds vs
 |[],_,h=>h
 |d::ds,_,⟨v,r,e,h1,h2⟩=>⟨v,r,e,Den.mono g l d v h1,Χ.mono g l ds r h2⟩
end
theorem Χ.pair:∀{ds:List Dt}{vs:List V},Χ K G L ds vs->Paired (Den K G L) ds vs
 |[],_,h=>by have h:_=_:=h;subst h;exact .nil
 |d::ds,_,⟨v,r,e,h1,h2⟩=>by subst e;exact .cons h1 (Χ.pair h2)
theorem Χ.of:∀{ds:List Dt}{vs:List V},Paired (Den K G L) ds vs->Χ K G L ds vs
 |_,_,.nil=>rfl
 |_,_,.cons h t=>⟨_,_,rfl,h,Χ.of t⟩
end
section
variable{α β:Type}{F:α->β->Prop}
theorem DM:∀{xs:List α}{us:List β}{i:Nat}{x:α},Paired F xs us->xs[i]? =some x->∃u,us[i]? =some u/\F x u
 |_,_,_,_,.nil,e=>by simp at e
 |_,_,0,_,.cons r _,e=>by simp at e;subst e;exact ⟨_,rfl,r⟩
 |_,_,i+1,x,.cons _ t,e=>by obtain ⟨u,h1,h2⟩:=DM (i:=i) (x:=x) t (by simpa using e);exact ⟨u,by simpa using h1,h2⟩
theorem Ej{x:α}{u:β}(r:F x u):∀{xs:List α}{us:List β}(i:Nat),Paired F xs us->Paired F (xs.set i x) (us.set i u)
 |_,_,_,.nil=> .nil
 |_,_,0,.cons _ t=> .cons r t
 |_,_,i+1,.cons q t=> .cons q (Ej r i t)
theorem wW:∀{xs ys:List α}{us ws:List β},Paired F xs us->Paired F ys ws->Paired F (xs++ys) (us++ws)
 |_,_,_,_,.nil,s=>s
 |_,_,_,_,.cons r t,s=> .cons r (wW t s)
theorem sO:∀{xs:List α}{us:List β}(n:Nat),Paired F xs us->Paired F (xs.take n) (us.take n)
 |_,_,0,_=> .nil
 |_,_,_+1,.nil=> .nil
 |_,_,n+1,.cons r t=> .cons r (sO n t)
theorem nF:∀{xs:List α}{us:List β}(n:Nat),Paired F xs us->Paired F (xs.drop n) (us.drop n)
 |_,_,0,r=>r
 |_,_,_+1,.nil=> .nil
 |_,_,n+1,.cons _ t=>nF n t
theorem xU{xs:List α}{us:List β}(h:Paired F xs us):∀k:Nat,Paired F (List.replicate k xs).flatten (List.replicate k us).flatten
 |0=> .nil
 |k+1=>by rw [aa5,aa5,abp,abp];exact wW h (xU h k)
end
section
variable{K:fI}{G:Hp}{L:List Addr}
theorem Χ.length{ds:List Dt}{vs:List V}(h:Χ K G L ds vs):ds.length=vs.length:=Paired.length h.pair
theorem Χ.get{ds:List Dt}{vs:List V}{i:Nat}{d:Dt}(h:Χ K G L ds vs)(e:ds[i]? =some d):∃v,vs[i]? =some v/\Den K G L d v:=DM h.pair e
theorem Χ.app{ds es:List Dt}{vs us:List V}(h:Χ K G L ds vs)(h':Χ K G L es us):Χ K G L (ds++es) (vs++us):= .of (wW h.pair h'.pair)
theorem iR:∀{ns:List Int},Χ K G L (ns.map Dt.int) (ns.map V.int)
 |[]=>rfl
 |n::ns=>⟨_,_,rfl,rfl,iR⟩
theorem bo{d:Dt}{vs:List V}(h:Χ K G L [d] vs):∃v,vs=[v]/\Den K G L d v:=by obtain ⟨v,r,rfl,h1,h2⟩:=h;have h2:r=[]:=h2;subst h2;exact ⟨v,rfl,h1⟩
theorem gP{d e:Dt}{vs:List V}(h:Χ K G L [d,e] vs):∃v u,vs=[v,u]/\Den K G L d v/\Den K G L e u:=by obtain ⟨v,r,rfl,h1,h2⟩:=h;obtain ⟨u,rfl,h3⟩:=bo h2;exact ⟨v,u,rfl,h1,h3⟩
end
def Hu(K:fI)(G:Hp)(L:List Addr)(H:Hp)(a:Addr):MO->Prop
 |.lst ds=>∃vs,H a=some (.lst vs)/\Χ K G L ds vs
 |.ins C ns ds=>∃dx vs,H a=some (.ins C dx (ns.zip vs))/\ns.length=ds.length/\Χ K G L ds vs
 |.fF ks ds=>∃vs,H a=some (.dK (ks.zip vs))/\ks.length=ds.length/\Χ K G L ds vs
 |.raw u=>H a=some (u a)
structure Rl(K:fI)(G:Hp)(L:List Addr)(M:Ms)(H:Hp):Prop where
 sub:dI G H
 len:L.length=M.length
 nd:L.Nodup
 gD:∀(k:Nat) (a:Addr) (m:MO),L[k]? =some a->M[k]? =some m->G a=none/\Hu K G L H a m
structure Ex(G:Hp)(L:List Addr)(H:Hp)(G':Hp)(L':List Addr)(H':Hp):Prop where
 g:dI G G'
 l:Pre L L'
 fr:∀b,G b=none->H b≠none->G' b=none
 out:∀b o,H b=some o->b∉L->H' b=some o
 new:∀b∈L',b∈L\/H b=none
 DC:∀b,H b≠none->H' b≠none
theorem Ex.refl(G:Hp)(L:List Addr)(H:Hp):Ex G L H G L H:=⟨.refl _,.refl _,λ_ h _=>h,λ_ _ h _=>h,λ_ h=> .inl h,λ_ h=>h⟩
theorem Ex.trans{G:Hp}{L:List Addr}{H G1:Hp}{L1:List Addr}{H1 G2:Hp}{L2:List Addr}{H2:Hp}(a:Ex G L H G1 L1 H1)(b:Ex G1 L1 H1 G2 L2 H2):Ex G L H G2 L2 H2 where
 g:=a.g.trans b.g
 l:=a.l.trans b.l
 fr:=λx h1 h2=>b.fr x (a.fr x h1 h2) (a.DC x h2)
 out:=λx o h1 h2=>b.out x o (a.out x o h1 h2) λz=>(a.new x z).elim h2 λq=>by rw [h1] at q;cases q
 new:=λx h=>by
  rcases b.new x h with z|z
  ·exact a.new x z
  ·right;cases q:H x with
   |none=>rfl
   |some o=>exact absurd z (a.DC x (by rw [q];simp))
 DC:=λx h=>b.DC x (a.DC x h)
theorem Hu.there{K:fI}{G:Hp}{L:List Addr}{H:Hp}{a:Addr}{m:MO}(h:Hu K G L H a m):H a≠none:=by
 cases m with
 |lst ds=>obtain ⟨vs,e,_⟩:=h;rw [e];simp
 |ins C ns ds=>obtain ⟨dx,vs,e,_⟩:=h;rw [e];simp
 |fF ks ds=>obtain ⟨vs,e,_⟩:=h;rw [e];simp
 |raw u=>have h:H a=some (u a):=h;rw [h];simp
theorem Hu.mono{K:fI}{G G':Hp}{L L':List Addr}{H H':Hp}{a:Addr}{m:MO}(g:dI G G')(l:Pre L L')(e:H' a=H a)(h:Hu K G L H a m):Hu K G' L' H' a m:=by
 cases m with
 |lst ds=>obtain ⟨vs,e1,h⟩:=h;exact ⟨vs,e.trans e1,Χ.mono g l _ _ h⟩
 |ins C ns ds=>obtain ⟨dx,vs,e1,h0,h⟩:=h;exact ⟨dx,vs,e.trans e1,h0,Χ.mono g l _ _ h⟩
 |fF ks ds=>obtain ⟨vs,e1,h0,h⟩:=h;exact ⟨vs,e.trans e1,h0,Χ.mono g l _ _ h⟩
 |raw u=>exact e.trans h
section
variable{K:fI}{G:Hp}{L:List Addr}{M:Ms}{H:Hp}{p:Addr}{o:HO}
theorem Rl.x'(r:Rl K G L M H){a:Addr}(h:a∈L):∃(k:Nat) (m:MO),L[k]? =some a/\M[k]? =some m/\G a=none/\Hu K G L H a m:=by
 obtain ⟨k,hk,e⟩:=aa0 h;have e1:L[k]? =some a:=by rw [aaa hk,e]
 have e2:M[k]? =some (M[k]'(by rw [<-r.len];exact hk)):=aaa _;exact ⟨k,_,e1,e2,r.gD k a _ e1 e2⟩
theorem Rl.QH(r:Rl K G L M H)(hp:H p=none):p∉L:=λz=>by obtain ⟨k,m,_,_,_,h⟩:=r.x' z;exact h.there hp
theorem Rl.M9(r:Rl K G L M H)(hp:H p=none):Rl K (upd G p o) L M (upd H p o) where
 sub:=λb u e=>by
  by_cases hb:b=p
  ·subst hb;rw [ao] at e⊢;exact e
  ·rw [Κ hb] at e⊢;exact r.sub b u e
 len:=r.len
 nd:=r.nd
 gD:=λk a m h1 h2=>by obtain ⟨q1,q2⟩:=r.gD k a m h1 h2;have hb:a≠p:=λz=>q2.there (by rw [z];exact hp);exact ⟨by rw [Κ hb];exact q1,q2.mono (λb u e=>by rw [Κ (λz=>by rw [z,r.sub.free hp] at e;cases e)];exact e) (.refl _) (Κ hb)⟩
theorem Rl.Ry(r:Rl K G L M H)(hp:H p=none):Ex G L H (upd G p o) L (upd H p o) where
 g:=λb u e=>by rw [Κ (λz=>by rw [z,r.sub.free hp] at e;cases e)];exact e
 l:= .refl _
 fr:=λb h1 h2=>by rw [Κ (λz=>h2 (by rw [z];exact hp))];exact h1
 out:=λb u h1 _=>by rw [Κ (λz=>by rw [z,hp] at h1;cases h1)];exact h1
 new:=λb h=> .inl h
 DC:=λb h=>by rw [Κ (λz=>h (by rw [z];exact hp))];exact h
theorem Rl.LK{m:MO}(r:Rl K G L M H)(hp:H p=none)(hm:Hu K G (L++[p]) (upd H p o) p m):Rl K G (L++[p]) (M++[m]) (upd H p o) where
 sub:=λb u e=>by rw [Κ (λz=>by rw [z,r.sub.free hp] at e;cases e)];exact r.sub b u e
 len:=by rw [aah,aah,r.len];rfl
 nd:=List.nodup_append.mpr ⟨r.nd,by simp,λa ha b hb=>by
  have e:b=p:=by simpa using hb
  rw [e];exact λz=>r.QH hp (z▸ha)⟩
 gD:=λk a m' h1 h2=>by
  by_cases hk:k<L.length
  ·rw [aaq hk] at h1;rw [aaq (by rw [<-r.len];exact hk)] at h2;obtain ⟨q1,q2⟩:=r.gD k a m' h1 h2;exact ⟨q1,q2.mono (.refl _) ⟨[p],rfl⟩ (Κ λz=>q2.there (by rw [z];exact hp))⟩
  ·have e:k=L.length:=by have:=(aaf.mp h1).1;rw [aah] at this;simp at this;omega
   rw [e,aan (aai _)] at h1;rw [e,r.len,aan (aai _)] at h2;simp at h1 h2;subst h1 h2;exact ⟨r.sub.free hp,hm⟩
theorem Rl.VH(r:Rl K G L M H)(hp:H p=none):Ex G L H G (L++[p]) (upd H p o) where
 g:= .refl _
 l:=⟨[p],rfl⟩
 fr:=λb h1 _=>h1
 out:=λb u h1 _=>by rw [Κ (λz=>by rw [z,hp] at h1;cases h1)];exact h1
 new:=λb h=>by
  rcases aaP.mp h with z|z
  ·exact .inl z
  ·have e:b=p:=by simpa using z
   right;rw [e];exact hp
 DC:=λb h=>by rw [Κ (λz=>h (by rw [z];exact hp))];exact h
theorem Rl.setM{k:Nat}{a:Addr}{m:MO}(r:Rl K G L M H)(hk:L[k]? =some a)(hm:Hu K G L (upd H a o) a m):Rl K G L (M.set k m) (upd H a o) where
 sub:=λb u e=>by obtain ⟨k',m',e1,e2,q1,_⟩:=r.x' (aam hk);rw [Κ (λz=>by rw [z,q1] at e;cases e)];exact r.sub b u e
 len:=by rw [aa4];exact r.len
 nd:=r.nd
 gD:=λk' a' m' h1 h2=>by
  by_cases e:k'=k
  ·subst e;rw [hk] at h1;cases h1;have hl:k'<M.length:=by rw [<-r.len];exact (aaf.mp hk).1
   rw [aa3 hl] at h2;cases h2;obtain ⟨_,_,_,_,q1,_⟩:=r.x' (aam hk);exact ⟨q1,hm⟩
  ·rw [abw (λz=>e z.symm)] at h2;obtain ⟨q1,q2⟩:=r.gD k' a' m' h1 h2;have ne:a'≠a:=λz=>by subst z;exact e ((List.getElem?_inj (aaf.mp h1).1 r.nd).mp (h1.trans hk.symm))
   exact ⟨q1,q2.mono (.refl _) (.refl _) (Κ ne)⟩
theorem Rl.KY{k:Nat}{a:Addr}(r:Rl K G L M H)(hk:L[k]? =some a):Ex G L H G L (upd H a o) where
 g:= .refl _
 l:= .refl _
 fr:=λb h1 _=>h1
 out:=λb u h1 h2=>by rw [Κ (λz=>h2 (by rw [z];exact aam hk))];exact h1
 new:=λb h=> .inl h
 DC:=λb h=>by
  by_cases e:b=a
  ·rw [e,ao];simp
  ·rw [Κ e];exact h
end
structure lJ(K:fI)(G:Hp)(L:List Addr)(ρ:En)(σ:St):Prop where
 len:ρ.length=σ.length
 gD:∀(i:Nat) (d:Dt),ρ[i]? =some (some d)->∃v,σ[i]? =some (some v)/\Den K G L d v
section
variable{K:fI}{G G':Hp}{L L':List Addr}{H H':Hp}{ρ:En}{σ:St}
theorem lJ.mono(h:lJ K G L ρ σ)(e:Ex G L H G' L' H'):lJ K G' L' ρ σ:=⟨h.len,λi d q=>let ⟨v,a,b⟩:=h.gD i d q;⟨v,a,Den.mono e.g e.l d v b⟩⟩
theorem lJ.set(h:lJ K G L ρ σ)(i:Nat){d:Dt}{v:V}(q:Den K G L d v):lJ K G L (ρ.set i (some d)) (σ.set i (some v)):=by
 refine ⟨by rw [aa4,aa4];exact h.len,λj d' e=>?_⟩;by_cases hj:i=j
 ·subst hj;have hl:i<ρ.length:=by have:=(aaf.mp e).1;rwa [aa4] at this
  rw [aa3 hl] at e;cases e;exact ⟨v,aa3 (by rw [<-h.len];exact hl),q⟩
 ·rw [abw hj] at e;obtain ⟨u,a,b⟩:=h.gD j d' e;exact ⟨u,by rw [abw hj];exact a,b⟩
end
abbrev DQ:=Dt->Ms->Prop
abbrev DX:=En->Addr->List (Str×Dt)->Ms->Prop
def RR(K:fI)(G:Hp)(L:List Addr)(H:Hp)(fs:List (Str×Dt))(od:Option Addr):Prop:=
 (fs=[]/\od=none)\/fs≠[]/\∃dx vs,od=some dx/\G dx=some (.xd ((fs.map (·.1)).zip vs))/\Χ K G L (fs.map (·.2)) vs
def uH(K:fI)(G:Hp)(L:List Addr)(H:Hp)(R:St->XK)(x:DX):Prop:=
 ∀σ ρ C fs M' G' L' H' od,x ρ C fs M'->Ex G L H G' L' H'->Rl K G' L' M' H'->lJ K G' L' ρ σ->RR K G' L' H' fs od->R σ (.ref C) od H'
theorem uH.on{K:fI}{G:Hp}{L:List Addr}{H G1:Hp}{L1:List Addr}{H1:Hp}{R:St->XK}{x:DX}(h:uH K G L H R x)(e:Ex G L H G1 L1 H1):uH K G1 L1 H1 R x:=
 λσ ρ C fs M' G' L' H' od q e' r n y=>h σ ρ C fs M' G' L' H' od q (e.trans e') r n y
def k4:DX:=λ_ _ _ _=>False
theorem IM{K:fI}{G:Hp}{L:List Addr}{H:Hp}{R:St->XK}:uH K G L H R k4:=λ_ _ _ _ _ _ _ _ _ q=>q.elim
abbrev DE:=En->Ms->DQ->DX->Prop
abbrev DT:=En->Ms->(Bool->Ms->Prop)->DX->Prop
abbrev DA:=En->Ms->(List Dt->Ms->Prop)->DX->Prop
structure lG where
 nx:En->Ms->Prop
 rt:DQ
 bk:En->Ms->Prop:=λ_ _=>False
 ct:En->Ms->Prop:=λ_ _=>False
 x:DX:=k4
abbrev DS:=lG->En->Ms->Prop
inductive Fin(K:fI)(G0:Hp)(L0:List Addr)(H0:Hp)(q:DQ)(v:V)(H:Hp):Prop
 |mk (d:Dt) (G:Hp) (L:List Addr) (M:Ms) (e:Ex G0 L0 H0 G L H) (r:Rl K G L M H) (n:Den K G L d v) (h:q d M)
inductive wC(K:fI)(G0:Hp)(L0:List Addr)(H0:Hp)(q:Bool->Ms->Prop)(b:Bool)(H:Hp):Prop
 |mk (G:Hp) (L:List Addr) (M:Ms) (e:Ex G0 L0 H0 G L H) (r:Rl K G L M H) (h:q b M)
inductive NP(K:fI)(G0:Hp)(L0:List Addr)(H0:Hp)(q:List Dt->Ms->Prop)(vs:List V)(H:Hp):Prop
 |mk (ds:List Dt) (G:Hp) (L:List Addr) (M:Ms) (e:Ex G0 L0 H0 G L H) (r:Rl K G L M H) (n:Χ K G L ds vs) (h:q ds M)
inductive e9(K:fI)(G0:Hp)(L0:List Addr)(H0:Hp)(q:En->Ms->Prop)(σ:St)(H:Hp):Prop
 |mk (ρ:En) (G:Hp) (L:List Addr) (M:Ms) (e:Ex G0 L0 H0 G L H) (r:Rl K G L M H) (n:lJ K G L ρ σ) (h:q ρ M)
def uq(K:fI)(G0:Hp)(L0:List Addr)(H0:Hp)(Dn:lG):yJ:=⟨e9 K G0 L0 H0 Dn.nx,Fin K G0 L0 H0 Dn.rt,e9 K G0 L0 H0 Dn.bk,e9 K G0 L0 H0 Dn.ct⟩
inductive y9(K:fI)(R:St->XK)(t:DE)(σ:St)(H:Hp)(Q:VK):Prop
 |mk (G:Hp) (L:List Addr) (ρ:En) (M:Ms) (q:DQ) (x:DX) (r:Rl K G L M H) (n:lJ K G L ρ σ) (h:t ρ M q x) (hx:uH K G L H R x) (hQ:∀v H1,Fin K G L H q v H1->Q v H1)
inductive Fx(K:fI)(R:St->XK)(t:DT)(σ:St)(H:Hp)(Q:Bool->Hp->Prop):Prop
 |mk (G:Hp) (L:List Addr) (ρ:En) (M:Ms) (q:Bool->Ms->Prop) (x:DX) (r:Rl K G L M H) (n:lJ K G L ρ σ) (h:t ρ M q x) (hx:uH K G L H R x) (hQ:∀b H1,wC K G L H q b H1->Q b H1)
inductive SW(K:fI)(R:St->XK)(t:DA)(σ:St)(H:Hp)(Q:List V->Hp->Prop):Prop
 |mk (G:Hp) (L:List Addr) (ρ:En) (M:Ms) (q:List Dt->Ms->Prop) (x:DX) (r:Rl K G L M H) (n:lJ K G L ρ σ) (h:t ρ M q x) (hx:uH K G L H R x) (hQ:∀vs H1,NP K G L H q vs H1->Q vs H1)
structure OM(A B:yJ):Prop where
 nx:∀σ H,A.nx σ H->B.nx σ H
 rt:∀v H,A.rt v H->B.rt v H
 bk:∀σ H,A.bk σ H->B.bk σ H
 ct:∀σ H,A.ct σ H->B.ct σ H
inductive Sj(K:fI)(R:St->XK)(t:DS)(De:yJ)(σ:St)(H:Hp):Prop
 |mk (G:Hp) (L:List Addr) (ρ:En) (M:Ms) (Dn:lG) (r:Rl K G L M H) (n:lJ K G L ρ σ) (h:t Dn ρ M) (hx:uH K G L H R Dn.x) (hQ:OM (uq K G L H Dn) De)
def JE(X:Cx)(R:St->XK)(e:Expr)(t:DE):Prop:=PE X e (y9 X.K R t)
def JT(X:Cx)(R:St->XK)(e:Expr)(t:DT):Prop:=PT X e (Fx X.K R t)
def JW(X:Cx)(R:St->XK)(e:Expr)(t:DT):Prop:=PW X e (Fx X.K R t)
def JA(X:Cx)(R:St->XK)(es:List Expr)(t:DA):Prop:=PA X es (SW X.K R t)
def JS(X:Cx)(R:St->XK)(st:Stmt)(t:DS):Prop:=PS X st (Sj X.K R t)
def CU(X:Cx)(R:St->XK)(st:List Stmt)(t:DS):Prop:=Hx X st (Sj X.K R t)
section
variable{K:fI}{G0:Hp}{L0:List Addr}{H0 G1:Hp}{L1:List Addr}{H1:Hp}
theorem Fin.back{q:DQ}(e:Ex G0 L0 H0 G1 L1 H1){v:V}{H:Hp}(h:Fin K G1 L1 H1 q v H):Fin K G0 L0 H0 q v H:=let ⟨d,G,L,M,a,b,c,f⟩:=h;⟨d,G,L,M,e.trans a,b,c,f⟩
theorem e9.back{q:En->Ms->Prop}(e:Ex G0 L0 H0 G1 L1 H1){v:St}{H:Hp}(h:e9 K G1 L1 H1 q v H):e9 K G0 L0 H0 q v H:=let ⟨d,G,L,M,a,b,c,f⟩:=h;⟨d,G,L,M,e.trans a,b,c,f⟩
theorem wC.back{q:Bool->Ms->Prop}(e:Ex G0 L0 H0 G1 L1 H1){v:Bool}{H:Hp}(h:wC K G1 L1 H1 q v H):wC K G0 L0 H0 q v H:=let ⟨G,L,M,a,b,f⟩:=h;⟨G,L,M,e.trans a,b,f⟩
theorem uq.back{Dn:lG}(e:Ex G0 L0 H0 G1 L1 H1):OM (uq K G1 L1 H1 Dn) (uq K G0 L0 H0 Dn):=⟨λ_ _ h=>e9.back e h,λ_ _ h=>Fin.back e h,λ_ _ h=>e9.back e h,λ_ _ h=>e9.back e h⟩
theorem SP.imp{X:Cx}{ζ:List (Addr×Obj)}{A B:yJ}(e:OM A B){f:Flow}{s:Shared}(h:SP X ζ A f s):SP X ζ B f s:=by
 cases f with
 |next=>obtain ⟨a,b,I,q⟩:=h;exact ⟨a,b,I,e.nx _ _ q⟩
 |brk=>obtain ⟨a,b,I,q⟩:=h;exact ⟨a,b,I,e.bk _ _ q⟩
 |cont=>obtain ⟨a,b,I,q⟩:=h;exact ⟨a,b,I,e.ct _ _ q⟩
 |ret u=>obtain ⟨v,a,b,I,r,q⟩:=h;exact ⟨v,a,b,I,r,e.rt _ _ q⟩
end
section
variable{X:Cx}{R:St->XK}{e:Expr}
theorem JE.of{te:TE}{t:DE}(h:PE X e te)(hw:∀σ H G L ρ M q x,Rl X.K G L M H->lJ X.K G L ρ σ->t ρ M q x->uH X.K G L H R x->te σ H (Fin X.K G L H q)):JE X R e t:=by intro ζ s σ H Q I ⟨G,L,ρ,M,q,x,r,n,ht,hx,hQ⟩;refine bA (h ζ s σ H _ I (hw σ H G L ρ M q x r n ht hx)) λu s1 ⟨v,H1,I1,rv,f⟩=>⟨v,H1,I1,rv,hQ v H1 f⟩
theorem JT.of{te:TT}{t:DT}(h:PT X e te)(hw:∀σ H G L ρ M q x,Rl X.K G L M H->lJ X.K G L ρ σ->t ρ M q x->uH X.K G L H R x->te σ H (wC X.K G L H q)):JT X R e t:=by intro ζ s σ H Q I ⟨G,L,ρ,M,q,x,r,n,ht,hx,hQ⟩;refine bA (h ζ s σ H _ I (hw σ H G L ρ M q x r n ht hx)) λu s1 ⟨H1,I1,f⟩=>⟨H1,I1,hQ u H1 f⟩
theorem JW.of{te:TT}{t:DT}(h:PW X e te)(hw:∀σ H G L ρ M q x,Rl X.K G L M H->lJ X.K G L ρ σ->t ρ M q x->uH X.K G L H R x->te σ H (wC X.K G L H q)):JW X R e t:=by intro wh ζ s σ H Q I ⟨G,L,ρ,M,q,x,r,n,ht,hx,hQ⟩;refine bA (h wh ζ s σ H _ I (hw σ H G L ρ M q x r n ht hx)) λu s1 ⟨H1,I1,f⟩=>⟨H1,I1,hQ u H1 f⟩
theorem JA.of{es:List Expr}{te:TA}{t:DA}(h:PA X es te)(hw:∀σ H G L ρ M q x,Rl X.K G L M H->lJ X.K G L ρ σ->t ρ M q x->uH X.K G L H R x->te σ H (NP X.K G L H q)):JA X R es t:=by intro pos ζ s σ H Q I ⟨G,L,ρ,M,q,x,r,n,ht,hx,hQ⟩;refine bA (h pos ζ s σ H _ I (hw σ H G L ρ M q x r n ht hx)) λu s1 ⟨v,H1,I1,rv,f⟩=>⟨v,H1,I1,rv,hQ v H1 f⟩
theorem JS.of{st:Stmt}{te:TS}{t:DS}(h:PS X st te)(hw:∀σ H G L ρ M Dn,Rl X.K G L M H->lJ X.K G L ρ σ->t Dn ρ M->uH X.K G L H R Dn.x->te (uq X.K G L H Dn) σ H):JS X R st t:=by intro ζ s σ H De I ⟨G,L,ρ,M,Dn,r,n,ht,hx,hQ⟩;exact bA (h ζ s σ H _ I (hw σ H G L ρ M Dn r n ht hx)) λu s1 f=>SP.imp hQ f
theorem CU.of{st:List Stmt}{te:TS}{t:DS}(h:Hx X st te)(hw:∀σ H G L ρ M Dn,Rl X.K G L M H->lJ X.K G L ρ σ->t Dn ρ M->uH X.K G L H R Dn.x->te (uq X.K G L H Dn) σ H):CU X R st t:=by intro ζ s σ H De I ⟨G,L,ρ,M,Dn,r,n,ht,hx,hQ⟩;exact bA (h ζ s σ H _ I (hw σ H G L ρ M Dn r n ht hx)) λu s1 f=>SP.imp hQ f
end
def yp(i:Nat):DE:=λρ M q _=>match ρ[i]? with
 |some (some d)=>q d M
 |_=>False
def dC(d:Dt):DE:=λ_ M q _=>q d M
def lj(f:Dt->Dt->Ms->DQ->Prop)(a b:DE):DE:=λρ M q x=>a ρ M (λd1 M1=>b ρ M1 (λd2 M2=>f d1 d2 M2 q) x) x
def VC(f:Dt->Ms->DQ->Prop)(a:DE):DE:=λρ M q x=>a ρ M (λd1 M1=>f d1 M1 q) x
def Q_:DA:=λ_ M q _=>q [] M
def K7(a:DE)(r:DA):DA:=λρ M q x=>a ρ M (λd M1=>r ρ M1 (λds M2=>q (d::ds) M2) x) x
def C4(f:List Dt->Ms->DQ->Prop)(a:DA):DE:=λρ M q x=>a ρ M (λds M1=>f ds M1 q) x
def ow(K:fI)(r:R2)(f:Dt->Dt->Ms->DQ->Prop):Prop:=
 ∀G0 L0 H0 G L M H v1 v2 d1 d2 q,Ex G0 L0 H0 G L H->Rl K G L M H->Den K G L d1 v1->Den K G L d2 v2->f d1 d2 M q->r v1 v2 H (Fin K G0 L0 H0 q)
def V5(K:fI)(r:V->Hp->VK->Prop)(f:Dt->Ms->DQ->Prop):Prop:=
 ∀G0 L0 H0 G L M H v1 d1 q,Ex G0 L0 H0 G L H->Rl K G L M H->Den K G L d1 v1->f d1 M q->r v1 H (Fin K G0 L0 H0 q)
def DN(K:fI)(r:List V->Hp->VK->Prop)(f:List Dt->Ms->DQ->Prop):Prop:=
 ∀G0 L0 H0 G L M H vs ds q,Ex G0 L0 H0 G L H->Rl K G L M H->Χ K G L ds vs->f ds M q->r vs H (Fin K G0 L0 H0 q)
section
variable{K:fI}{R:St->XK}{ta tb:DE}{tc:DA}{σ:St}{H G:Hp}{L:List Addr}{ρ:En}{M:Ms}{q:DQ}{x:DX}
theorem BH{r:R2}{f:Dt->Dt->Ms->DQ->Prop}(od:ow K r f)(rl:Rl K G L M H)(n:lJ K G L ρ σ)(h:lj f ta tb ρ M q x)(hx:uH K G L H R x):Th r (y9 K R ta) (y9 K R tb) σ H (Fin K G L H q):=by refine ⟨G,L,ρ,M,_,x,rl,n,h,hx,λv H1 ⟨d1,G1,L1,M1,e1,r1,n1,h1⟩=>?_⟩;refine ⟨G1,L1,ρ,M1,_,x,r1,n.mono e1,h1,hx.on e1,λv2 H2 ⟨d2,G2,L2,M2,e2,r2,n2,h2⟩=>?_⟩;exact od G L H G2 L2 M2 H2 v v2 d1 d2 q (e1.trans e2) r2 (Den.mono e2.g e2.l _ _ n1) n2 h2
theorem R5{r:V->Hp->VK->Prop}{f:Dt->Ms->DQ->Prop}(od:V5 K r f)(rl:Rl K G L M H)(n:lJ K G L ρ σ)(h:VC f ta ρ M q x)(hx:uH K G L H R x):Z_ r (y9 K R ta) σ H (Fin K G L H q):=by refine ⟨G,L,ρ,M,_,x,rl,n,h,hx,λv H1 ⟨d1,G1,L1,M1,e1,r1,n1,h1⟩=>?_⟩;exact od G L H G1 L1 M1 H1 v d1 q e1 r1 n1 h1
theorem N7{r:List V->Hp->VK->Prop}{f:List Dt->Ms->DQ->Prop}(od:DN K r f)(rl:Rl K G L M H)(n:lJ K G L ρ σ)(h:C4 f tc ρ M q x)(hx:uH K G L H R x):X6 r (SW K R tc) σ H (Fin K G L H q):=by refine ⟨G,L,ρ,M,_,x,rl,n,h,hx,λv H1 ⟨d1,G1,L1,M1,e1,r1,n1,h1⟩=>?_⟩;exact od G L H G1 L1 M1 H1 v d1 q e1 r1 n1 h1
end
section
variable{X:Cx}{R:St->XK}{a b c:Expr}{ta tb:DE}{pos:Pos}
theorem jv(i:Nat){x:Str}{pos:Pos}(hN:X.N[i]? =some x:=by rfl)(hv:Yz X.env.scope x:=by first|exact Or.inl rfl|exact Or.inr (Or.inl rfl)|exact Or.inr (Or.inr rfl))(hd:(x==("__debug__":Str))=false:=by decide)
  (EO:(x==("__classdict__":Str))=false:=by decide):JE X R (.Name x pos) (yp i):= .of (PU hN hv hd EO) λσ H G L ρ M q x r n h hx=>by
 unfold yp at h;split at h
 ·rename_i d e;obtain ⟨v,e1,h1⟩:=n.gD i d e;exact ⟨v,e1,d,G,L,M,.refl _ _ _,r,h1,h⟩
 ·exact h.elim
theorem Pm{d:Dt}{v:V}{e:Expr}(h:PE X e (tC v))(hd:∀G L,Den X.K G L d v):JE X R e (dC d):= .of h λσ H G L ρ M q x r n h hx=>⟨d,G,L,M,.refl _ _ _,r,hd G L,h⟩
theorem ω{i j pos}:JE X R (.Constant (.int i) j pos) (dC (.int i)):=Pm Q3 λ_ _=>rfl
theorem Ht{b j pos}:JE X R (.Constant (.bool b) j pos) (dC (.bl b)):=Pm To λ_ _=>rfl
theorem Ma{j pos}:JE X R (.Constant .none j pos) (dC .bw):=Pm O2 λ_ _=>rfl
theorem jI{x j pos}:JE X R (.Constant (.str x) j pos) (dC (.str x)):=Pm OT λ_ _=>rfl
theorem xt{op:Operator}{r:R2}{f:Dt->Dt->Ms->DQ->Prop}(ho:jL X (binaryOp op) r)(od:ow X.K r f)(ja:JE X R a ta)(jb:JE X R b tb):JE X R (.BinOp a op b pos) (lj f ta tb):=
 .of (So ho ja jb) λσ H G L ρ M q x r n h hx=>BH od r n h hx
theorem Yv{op:UnaryOp}{r:V->Hp->VK->Prop}{f:Dt->Ms->DQ->Prop}(ho:Vx X (unaryOp op) r)(od:V5 X.K r f)(ja:JE X R a ta):JE X R (.UnaryOp op a pos) (VC f ta):=
 .of (Um ho ja) λσ H G L ρ M q x r n h hx=>R5 od r n h hx
theorem vy{op:CmpOp}{r:R2}{f:Dt->Dt->Ms->DQ->Prop}(ho:jL X (compareOp op) r)(od:ow X.K r f)(ja:JE X R a ta)(jb:JE X R b tb)(hm:behindInMarks op b=false):JE X R (.Compare a [op] [b] pos) (lj f ta tb):=
 .of (Mp ho ja jb hm) λσ H G L ρ M q x r n h hx=>BH od r n h hx
theorem Ui{r:R2}{f:Dt->Dt->Ms->DQ->Prop}(hr:Lg X r)(od:ow X.K r f)(ja:JE X R a ta)(jb:JE X R b tb)(hs:wc b):JE X R (.Subscript a b pos) (lj f ta tb):=
 .of (SU hr ja jb hs) λσ H G L ρ M q x r n h hx=>BH od r n h hx
theorem fQ{env:Env}{es:List Expr}{c j p}:starEach (.Constant c j p::es) env=(false,eval (.Constant c j p) env)::starEach es env:=rfl
theorem Od{env:Env}{es:List Expr}{c p}:starEach (.Name c p::es) env=(false,eval (.Name c p) env)::starEach es env:=rfl
theorem bV{env:Env}{es:List Expr}{a o b p}:starEach (.BinOp a o b p::es) env=(false,eval (.BinOp a o b p) env)::starEach es env:=rfl
theorem aQ{env:Env}{es:List Expr}{a b c p}:starEach (.Call a b c p::es) env=(false,eval (.Call a b c p) env)::starEach es env:=rfl
theorem aV{env:Env}{es:List Expr}{a b p}:starEach (.Subscript a b p::es) env=(false,eval (.Subscript a b p) env)::starEach es env:=rfl
theorem DZ{env:Env}{es:List Expr}{a b p}:starEach (.Tuple a b p::es) env=(false,eval (.Tuple a b p) env)::starEach es env:=rfl
theorem Ds{env:Env}{es:List Expr}{a o b p}:starEach (.Compare a o b p::es) env=(false,eval (.Compare a o b p) env)::starEach es env:=rfl
theorem N2{env:Env}{es:List Expr}{a b p}:starEach (.UnaryOp a b p::es) env=(false,eval (.UnaryOp a b p) env)::starEach es env:=rfl
theorem θ:JA X R [] Q_:= .of Ph λσ H G L ρ M q x r n h hx=>⟨[],G,L,M,.refl _ _ _,r,rfl,h⟩
theorem ι{e:Expr}{es:List Expr}{te:DE}{t:DA}(ha:JE X R e te)(hr:JA X R es t)(hs:starEach (e::es) X.env=(false,eval e X.env)::starEach es X.env:=by first|exact fQ|exact Od|exact bV|exact aQ|exact aV|exact DZ|exact Ds|exact N2|rfl):JA X R (e::es) (K7 te t):=
 .of (M_ ha hr hs) λσ H G L ρ M q x rl n h hx=>by refine ⟨G,L,ρ,M,_,x,rl,n,h,hx,λv H1 ⟨d1,G1,L1,M1,e1,r1,n1,h1⟩=>?_⟩;refine ⟨G1,L1,ρ,M1,_,x,r1,n.mono e1,h1,hx.on e1,λv2 H2 ⟨d2,G2,L2,M2,e2,r2,n2,h2⟩=>?_⟩;exact ⟨d1::d2,G2,L2,M2,e1.trans e2,r2,⟨_,_,rfl,Den.mono e2.g e2.l _ _ n1,n2⟩,h2⟩
theorem Υ{c:Str}{p:Pos}{es:List Expr}{te:DE}{t:DA}(ha:JE X R (.Name c p) te)(hr:JA X R es t):JA X R (.Name c p::es) (K7 te t):=ι ha hr Od
def Se(t:DA):DE:=λρ M q x=>t ρ M (λds M1=>ds.length<=sizeLine/\q (.tup ds) M1) x
def Ut(t:DA):DE:=λρ M q x=>t ρ M (λds M1=>ds.length<=sizeLine/\q (.lst ds) M1) x
def Oj(t:DA):DE:=λρ M q x=>t ρ M (λds M1=>ds.length<=sizeLine/\q (.loc M1.length) (M1++[.lst ds])) x
theorem jE{K:fI}{G0:Hp}{L0:List Addr}{H0 G:Hp}{L:List Addr}{M:Ms}{H:Hp}{p:Addr}{o:HO}{d:Dt}{q:DQ}(e:Ex G0 L0 H0 G L H)(r:Rl K G L M H)(hp:H p=none)(hd:Den K (upd G p o) L d (.ref p))(h:q d M):Fin K G0 L0 H0 q (.ref p) (upd H p o):=
 ⟨d,upd G p o,L,M,e.trans (r.Ry hp),r.M9 hp,hd,h⟩
theorem n_{K:fI}{G:Hp}{L:List Addr}{M:Ms}{H:Hp}{p:Addr}{ds:List Dt}{vs:List V}(r:Rl K G L M H)(hp:H p=none)(h:Χ K G L ds vs):Den K (upd G p (.tup vs)) L (.tup ds) (.ref p):=
 ⟨p,vs,rfl,ao,Χ.mono (r.Ry hp).g (.refl _) _ _ h⟩
theorem qR{K:fI}{G:Hp}{L:List Addr}{M:Ms}{H:Hp}{p:Addr}{ds:List Dt}{vs:List V}(r:Rl K G L M H)(hp:H p=none)(h:Χ K G L ds vs):Den K (upd G p (.lst vs)) L (.lst ds) (.ref p):=
 ⟨p,vs,rfl,ao,Χ.mono (r.Ry hp).g (.refl _) _ _ h⟩
theorem jD{K:fI}{G0:Hp}{L0:List Addr}{H0 G:Hp}{L:List Addr}{M:Ms}{H:Hp}{p:Addr}{q:DQ}{ds:List Dt}{vs:List V}(e:Ex G0 L0 H0 G L H)(r:Rl K G L M H)(hp:H p=none)(hd:Χ K G L ds vs)(h:q (.loc M.length) (M++[.lst ds])):Fin K G0 L0 H0 q (.ref p) (upd H p (.lst vs)):=
 ⟨.loc M.length,G,L++[p],M++[.lst ds],e.trans (r.VH hp),r.LK (m:= .lst ds) hp ⟨vs,ao,Χ.mono (.refl _) ⟨[p],rfl⟩ _ _ hd⟩,⟨p,rfl,by rw [<-r.len,List.getElem?_append_right (Nat.le_refl _)];simp⟩,h⟩
variable{es:List Expr}{t:DA}
theorem c7{x1}(h:JA X R es t):JE X R (.Tuple es x1 pos) (Se t):= .of (Rf h) λσ H G L ρ M q x rl n h hx=>by refine ⟨G,L,ρ,M,_,x,rl,n,h,hx,λv H1 ⟨d1,G1,L1,M1,e1,r1,n1,h1⟩=>⟨by rw [<-n1.length];exact h1.1,λp hp=>?_⟩⟩;exact jE e1 r1 hp (n_ r1 hp n1) h1.2
theorem lH(h:JA X R es t):JE X R (.List es pos) (Ut t):= .of (Kd h) λσ H G L ρ M q x rl n h hx=>by refine ⟨G,L,ρ,M,_,x,rl,n,h,hx,λv H1 ⟨d1,G1,L1,M1,e1,r1,n1,h1⟩=>⟨by rw [<-n1.length];exact h1.1,λp hp=>?_⟩⟩;exact jE e1 r1 hp (qR r1 hp n1) h1.2
theorem kW(h:JA X R es t):JE X R (.List es pos) (Oj t):= .of (Kd h) λσ H G L ρ M q x rl n h hx=>by refine ⟨G,L,ρ,M,_,x,rl,n,h,hx,λv H1 ⟨d1,G1,L1,M1,e1,r1,n1,h1⟩=>⟨by rw [<-n1.length];exact h1.1,λp hp=>?_⟩⟩;exact jD e1 r1 hp n1 h1.2
def oP(t:DE):DT:=λρ M q x=>t ρ M (λd M1=>match d with
 |.bl b=>q b M1
 |_=>False) x
def ZM(t u:DT):DT:=λρ M q x=>t ρ M (λc M1=>(c=true->q true M1)/\(c=false->u ρ M1 q x)) x
def R6(t:DT):DT:=λρ M q x=>t ρ M (λc M1=>q (!c) M1) x
theorem PH{K:fI}{t:DE}{σ:St}{H G:Hp}{L:List Addr}{ρ:En}{M:Ms}{q:Bool->Ms->Prop}{x:DX}(rl:Rl K G L M H)(n:lJ K G L ρ σ)(h:oP t ρ M q x)(hx:uH K G L H R x):tB (y9 K R t) σ H (wC K G L H q):=by
 refine ⟨G,L,ρ,M,_,x,rl,n,h,hx,λv H1 ⟨d1,G1,L1,M1,e1,r1,n1,h1⟩=>?_⟩
 (try dsimp only at h1)
 split at h1
 ·rename_i b;exact ⟨b,n1,G1,L1,M1,e1,r1,h1⟩
 ·exact h1.elim
theorem cq{e:Expr}{t:DE}(h:JE X R e t)(he:∀whole,isTrue e X.env whole=(do let v<-whole;standAt e.pos;holding [v] (truthy v)):=by intro _;rfl):JT X R e (oP t):=
 .of (OZ h he) λσ H G L ρ M q x rl n h hx=>PH rl n h hx
theorem js{op:CmpOp}{r:R2}{f:Dt->Dt->Ms->DQ->Prop}(ho:jL X (compareOp op) r)(od:ow X.K r f)(ja:JE X R a ta)(jb:JE X R b tb)(hm:behindInMarks op b=false):JT X R (.Compare a [op] [b] pos) (oP (lj f ta tb)):=
 .of (Nz ho ja jb hm) λσ H G L ρ M q x rl n h hx=>by
  have h:lj f ta tb ρ M (λd M1=>match d with|.bl b=>q b M1|_=>False) x:=h;refine ⟨G,L,ρ,M,_,x,rl,n,h,hx,λv H1 ⟨d1,G1,L1,M1,e1,r1,n1,h1⟩=>?_⟩;refine ⟨G1,L1,ρ,M1,_,x,r1,n.mono e1,h1,hx.on e1,λv2 H2 ⟨d2,G2,L2,M2,e2,r2,n2,h2⟩=>?_⟩;have:=od G L H G2 L2 M2 H2 v v2 d1 d2 _ (e1.trans e2) r2 (Den.mono e2.g e2.l _ _ n1) n2 h2;have e:(λx H'=>∃k,x=V.bl k/\wC X.K G L H q k H')=Fin X.K G L H (λd M1=>match d with|.bl b=>q b M1|_=>False):=by
   funext y H'
   apply propext;constructor
   ·rintro ⟨k,rfl,G3,L3,M3,e3,r3,h3⟩;exact ⟨.bl k,G3,L3,M3,e3,r3,rfl,h3⟩
   ·rintro ⟨d,G3,L3,M3,e3,r3,n3,h3⟩;split at h3
    ·rename_i k;exact ⟨k,n3,G3,L3,M3,e3,r3,h3⟩
    ·exact h3.elim
  rw [e];exact this
theorem JW.jt{e:Expr}{t:DT}(h:JW X R e t):JT X R e t:=h _
variable{t1 t2:DT}{rest:List Expr}
theorem kO(ha:JT X R a t1):JW X R (.BoolOp .Or [a] pos) t1:=pw_or1 ha
theorem lN(ha:JT X R a t1)(hb:JW X R (.BoolOp .Or (b::rest) pos) t2):JW X R (.BoolOp .Or (a::b::rest) pos) (ZM t1 t2):= .of (pw_or ha hb) λσ H G L ρ M q x rl n h hx=>by
 refine ⟨G,L,ρ,M,_,x,rl,n,h,hx,λc H1 ⟨G1,L1,M1,e1,r1,h1⟩=>?_⟩;cases c with
 |true=>exact EX ⟨G1,L1,M1,e1,r1,h1.1 rfl⟩
 |false=>exact GJ ⟨G1,L1,ρ,M1,_,x,r1,n.mono e1,h1.2 rfl,hx.on e1,λb H2 f=>wC.back e1 f⟩
theorem gL(ha:JT X R a t1):JT X R (.UnaryOp .Not a pos) (R6 t1):= .of (Qu ha) λσ H G L ρ M q x rl n h hx=>
 ⟨G,L,ρ,M,_,x,rl,n,h,hx,λ_ _ ⟨G,L,M,e,r,h⟩=>⟨G,L,M,e,r,h⟩⟩
def Uk(t u:DE):DE:=λρ M q x=>t ρ M (λd M1=>match d with
 |.bl c=>(c=true->u ρ M1 q x)/\(c=false->q (.bl false) M1)
 |_=>False) x
def dOr(t u:DE):DE:=λρ M q x=>t ρ M (λd M1=>match d with
 |.bl c=>(c=true->q (.bl true) M1)/\(c=false->u ρ M1 q x)
 |_=>False) x
def Uz(t:DE):DE:=λρ M q x=>t ρ M (λd M1=>match d with
 |.bl c=>q (.bl (!c)) M1
 |_=>False) x
def ZC(t:DT)(u v:DE):DE:=λρ M q x=>t ρ M (λc M1=>(c=true->u ρ M1 q x)/\(c=false->v ρ M1 q x)) x
theorem j6{op}{t:DE}(h:JE X R a t):JE X R (.BoolOp op [a] pos) t:=QX h
theorem iy(ha:JE X R a ta)(hb:JE X R (.BoolOp .And (b::rest) pos) tb):JE X R (.BoolOp .And (a::b::rest) pos) (Uk ta tb):= .of (Rr ha hb) λσ H G L ρ M q x rl n h hx=>by
 refine ⟨G,L,ρ,M,_,x,rl,n,h,hx,λv H1 ⟨d1,G1,L1,M1,e1,r1,n1,h1⟩=>?_⟩
 (try dsimp only at h1)
 split at h1
 ·rename_i c;refine ⟨c,n1,?_⟩;cases c with
  |true=>exact EX ⟨G1,L1,ρ,M1,_,x,r1,n.mono e1,h1.1 rfl,hx.on e1,λb H2 f=>Fin.back e1 f⟩
  |false=>exact GJ ⟨.bl false,G1,L1,M1,e1,r1,rfl,h1.2 rfl⟩
 ·exact h1.elim
theorem T3(ha:JE X R a ta)(hb:JE X R (.BoolOp .Or (b::rest) pos) tb):JE X R (.BoolOp .Or (a::b::rest) pos) (dOr ta tb):= .of (RY ha hb) λσ H G L ρ M q x rl n h hx=>by
 refine ⟨G,L,ρ,M,_,x,rl,n,h,hx,λv H1 ⟨d1,G1,L1,M1,e1,r1,n1,h1⟩=>?_⟩
 (try dsimp only at h1)
 split at h1
 ·rename_i c;refine ⟨c,n1,?_⟩;cases c with
  |true=>exact EX ⟨.bl true,G1,L1,M1,e1,r1,rfl,h1.1 rfl⟩
  |false=>exact GJ ⟨G1,L1,ρ,M1,_,x,r1,n.mono e1,h1.2 rfl,hx.on e1,λb H2 f=>Fin.back e1 f⟩
 ·exact h1.elim
theorem Qx(ha:JE X R a ta):JE X R (.UnaryOp .Not a pos) (Uz ta):= .of (OX ha) λσ H G L ρ M q x rl n h hx=>by
 refine ⟨G,L,ρ,M,_,x,rl,n,h,hx,λv H1 ⟨d1,G1,L1,M1,e1,r1,n1,h1⟩=>?_⟩
 (try dsimp only at h1)
 split at h1
 ·rename_i c;exact ⟨c,n1,.bl (!c),G1,L1,M1,e1,r1,rfl,h1⟩
 ·exact h1.elim
theorem zc{c:Expr}(hc:JT X R c t1)(ha:JE X R a ta)(hb:JE X R b tb):JE X R (.IfExp c a b pos) (ZC t1 ta tb):= .of (JY hc ha hb) λσ H G L ρ M q x rl n h hx=>by
 refine ⟨G,L,ρ,M,_,x,rl,n,h,hx,λc H1 ⟨G1,L1,M1,e1,r1,h1⟩=>?_⟩;cases c with
 |true=>exact EX ⟨G1,L1,ρ,M1,_,x,r1,n.mono e1,h1.1 rfl,hx.on e1,λb H2 f=>Fin.back e1 f⟩
 |false=>exact GJ ⟨G1,L1,ρ,M1,_,x,r1,n.mono e1,h1.2 rfl,hx.on e1,λb H2 f=>Fin.back e1 f⟩
end
def N1:DS:=λDn ρ M=>Dn.nx ρ M
def SH(t u:DS):DS:=λDn ρ M=>t {Dn with nx:=u Dn} ρ M
def ZU(c:DT)(t u:DS):DS:=λDn ρ M=>c ρ M (λb M1=>(b=true->t Dn ρ M1)/\(b=false->u Dn ρ M1)) Dn.x
def S'(t:DE):DS:=λDn ρ M=>t ρ M Dn.rt Dn.x
def JN(i:Nat)(t:DE):DS:=λDn ρ M=>t ρ M (λd M1=>Dn.nx (ρ.set i (some d)) M1) Dn.x
def J8(t:DE):DS:=λDn ρ M=>t ρ M (λ_ M1=>Dn.nx ρ M1) Dn.x
def Yn(t:DS):DS:=λDn ρ M=>∃J:En->Ms->Prop,t {Dn with nx:=J} ρ M/\∀ρ' M',J ρ' M'->Dn.nx ρ' M'
section
variable{X:Cx}{R:St->XK}{st:Stmt}{rest:List Stmt}{t u:DS}{e:Expr}{te:DE}{pos:Pos}
theorem Φ:CU X R [] N1:= .of MW λσ H G L ρ M Dn rl n h hx=>⟨ρ,G,L,M,.refl _ _ _,rl,n,h⟩
theorem μ(h1:JS X R st t):CU X R [st] t:=Nl h1
theorem η(h1:JS X R st t)(h2:CU X R rest u):CU X R (st::rest) (SH t u):= .of (Kq h1 h2) λσ H G L ρ M Dn rl n h hx=>by refine ⟨G,L,ρ,M,_,rl,n,h,hx,⟨λσ1 H1 ⟨ρ1,G1,L1,M1,e1,r1,n1,h1⟩=>?_,λ_ _ f=>f,λ_ _ f=>f,λ_ _ f=>f⟩⟩;exact ⟨G1,L1,ρ1,M1,Dn,r1,n1,h1,hx.on e1,uq.back e1⟩
theorem qo:JS X R (.Continue pos) (λDn ρ M=>Dn.ct ρ M):= .of Al λσ H G L ρ M Dn rl n h hx=>⟨ρ,G,L,M,.refl _ _ _,rl,n,h⟩
theorem Ε(he:JE X R e te):JS X R (.Return (some e) pos) (S' te):= .of (Pw he) λσ H G L ρ M Dn rl n h hx=>⟨G,L,ρ,M,_,_,rl,n,h,hx,λ_ _ f=>f⟩
theorem eW(he:JE X R e te)(hs:swapsWith e none pos.line X.env=pure false:=by rfl):JS X R (.Expr e pos) (J8 te):= .of (MZ he hs) λσ H G L ρ M Dn rl n h hx=>by refine ⟨G,L,ρ,M,_,_,rl,n,h,hx,λv H1 ⟨d1,G1,L1,M1,e1,r1,n1,h1⟩=>⟨ρ,G1,L1,M1,e1,r1,n.mono e1,h1⟩⟩
theorem aH{c:Expr}{a b:List Stmt}{tc:DT}(hc:JT X R c tc)(ha:CU X R a t)(hb:CU X R b u):JS X R (.If c a b pos) (ZU tc t u):= .of (UE hc ha hb) λσ H G L ρ M Dn rl n h hx=>by
 refine ⟨G,L,ρ,M,_,_,rl,n,h,hx,λc H1 ⟨G1,L1,M1,e1,r1,h1⟩=>?_⟩;cases c with
 |true=>exact EX ⟨G1,L1,ρ,M1,Dn,r1,n.mono e1,h1.1 rfl,hx.on e1,uq.back e1⟩
 |false=>exact GJ ⟨G1,L1,ρ,M1,Dn,r1,n.mono e1,h1.2 rfl,hx.on e1,uq.back e1⟩
theorem Γ(i:Nat){x:Str}{pos':Pos}(hN:X.N.Nodup)(he:JE X R e te)(hi:X.N[i]? =some x:=by rfl)(hx:Loc X.env.scope x:=by first|exact .inl rfl|exact .inr rfl)(hs:swapsWith e (some (.Name x pos')) pos.line X.env=pure false:=by rfl)(hf:X.fn x=true\/X.env.scope.names.lookup x=some .local:=by first|exact .inl rfl|exact .inr rfl|assumption):
  JS X R (.Assign [.Name x pos'] e pos) (JN i te):= .of (Qc hN hi hx he hs hf) λσ H G L ρ M Dn rl n h hx=>by
 refine ⟨G,L,ρ,M,_,_,rl,n,h,hx,λv H1 ⟨d1,G1,L1,M1,e1,r1,n1,h1⟩=>⟨_,G1,L1,M1,e1,r1,(n.mono e1).set i n1,h1⟩⟩
theorem lY(h:JS X R st t):JS X R st (Yn t):= .of h λσ H G L ρ M Dn rl n h hx=>by obtain ⟨J,h1,h2⟩:=h;refine ⟨G,L,ρ,M,_,rl,n,h1,hx,⟨λσ1 H1 ⟨ρ1,G1,L1,M1,e1,r1,n1,h1⟩=>⟨ρ1,G1,L1,M1,e1,r1,n1,h2 _ _ h1⟩,λ_ _ f=>f,λ_ _ f=>f,λ_ _ f=>f⟩⟩
end
abbrev DXF:=Addr->List (Str×Dt)->Ms->Prop
abbrev DF:=List Dt->Ms->DQ->DXF->Prop
inductive cC(K:fI)(T:DF)(vs:List V)(H:Hp)(Q:VK)(E:XK):Prop
 |mk (G:Hp) (L:List Addr) (ds:List Dt) (M:Ms) (q:DQ) (x:DXF) (r:Rl K G L M H) (n:Χ K G L ds vs) (h:T ds M q x) (hQ:∀v H1,Fin K G L H q v H1->Q v H1) (hE:∀C fs M1 G1 L1 H1 od,x C fs M1->Ex G L H G1 L1 H1->Rl K G1 L1 M1 H1->RR K G1 L1 H1 fs od->E (.ref C) od H1)
def jW(N:List Str)(ds:List Dt):En:=ds.map some++List.replicate (N.length-ds.length) none
theorem y4{K:fI}{G:Hp}{L:List Addr}{N:List Str}{ds:List Dt}{vs:List V}(h:Χ K G L ds vs):lJ K G L (jW N ds) (start N vs):=by
 have hl:=h.length;refine ⟨by unfold jW start;simp [hl],λi d e=>?_⟩;unfold jW at e;unfold start;by_cases hi:i<ds.length
 ·rw [List.getElem?_append_left (by simpa using hi),List.getElem?_map] at e;rw [List.getElem?_append_left (by simpa [<-hl] using hi),List.getElem?_map];cases q:ds[i]? with
  |none=>rw [q] at e;cases e
  |some d'=>
   rw [q] at e;cases e;obtain ⟨v,e1,h1⟩:=h.get q;exact ⟨v,by rw [e1];rfl,h1⟩
 ·rw [List.getElem?_append_right (by simpa using Nat.le_of_not_lt hi),List.getElem?_replicate] at e;split at e <;> cases e
section
variable{P:Program}{w:World}{K:fI}{mg:Str->Option Value}{base:Heap}
theorem cJ.df{x qual:Str}{st:Stmt}{f:Addr}{fd:FuncData}{N ps:List Str}{k:Nat}{T:DF}(F:cJ K x qual st f fd)(S:Δ N ps (τ st))(len:∀ds M q x,T ds M q x->ds.length=ps.length)
  (rM:∀(aT:Value) (A:Around) (outer:List Env) (s:Shared) (H:Hp) (E:XK),bM k (A.deeper (envOfC qual (τ st) s.heap.objs.size f aT))->
   ∃t,CU (uk (bU P w) P w K mg base N qual (τ st) f aT A outer s H E) (λ_=>E) (dH st) t/\∀ds M q x,T ds M q x->t {nx:=λ_ M'=>q .bw M',rt:=q,x:=λ_=>x} (jW N ds) M):
  ah P w K mg base (bU P w) (k+1) f fd ps (cC K T):=by
 refine F.okX S (λvs H Q E h=>?_) (λaT A outer s H vs Q E hr h=>?_)
 ·obtain ⟨G,L,ds,M,q,x,rl,n,hT,_⟩:=h;rw [<-n.length];exact len _ _ _ _ hT
 ·obtain ⟨t,j,ht⟩:=rM aT A outer s H E hr;obtain ⟨G,L,ds,M,q,x,rl,n,hT,hQ,hE⟩:=h;refine ⟨_,j,G,L,jW N ds,M,_,rl,y4 n,ht ds M q x hT,λσ ρ C fs M' G' L' H' od hx e r _ y=>hE C fs M' G' L' H' od hx e r y,⟨λσ' H' ⟨ρ',G',L',M',e,r,_,h⟩=>hQ _ _ ⟨.bw,G',L',M',e,r,rfl,h⟩,λv H' f=>hQ v H' f,λ_ _ ⟨_,_,_,_,_,_,_,h⟩=>h.elim,λ_ _ ⟨_,_,_,_,_,_,_,h⟩=>h.elim⟩⟩
structure aw(P:Program)(w:World)(K:fI)(mg:Str->Option Value)(base:Heap)(k:Nat)(x:Str)(ps:List Str)(T:DF)(f:Addr)(fd:FuncData):Prop where
 ok:ah P w K mg base (bU P w) k f fd ps (cC K T)
 b:iu K fd ps []
 m:mg x=some (.ref f)
 kp:PySem.W.keepIn K (.ref f)=true
end
def N5(T:DF)(t:DA):DE:=λρ M q x=>t ρ M (λds M1=>T ds M1 q (λC fs M'=>x ρ C fs M')) x
section
variable{X:Cx}{R:St->XK}{T:DF}{k k':Nat}{f:Addr}{fd:FuncData}{ps:List Str}{x:Str}{p pos:Pos}{e:Expr}{es:List Expr}{t:DA}
theorem ag(C:aw X.prog X.w X.K X.mg X.base k x ps T f fd)(hr:bM k' X.A)(hx:cW (bU X.prog X.w) X R)(ha:JA X R (e::es) t)(hk:k<=k':=by decide)(hg:Gl X x:=by rfl)(uJ:(x==("__debug__":Str))=false:=by decide)
  (he:starEach (e::es) X.env=(false,eval e X.env)::starEach es X.env:=by rfl) (gq:(backTo pos (starEach es X.env)).any (·.1)=false:=by rfl):JE X R (.Call (.Name x p) (e::es) [] pos) (N5 T t):=
 .of (z7 C.ok (hr.mono hk) hg C.m C.kp C.b .nil hx ha uJ he gq) λσ H G L ρ M q x rl n h hx=>by refine ⟨G,L,ρ,M,_,x,rl,n,h,hx,λvs H1 ⟨ds,G1,L1,M1,e1,r1,n1,h1⟩=>?_⟩;show cC X.K T (vs++[]) H1 _ _;rw [aaZ];exact ⟨G1,L1,ds,M1,q,_,r1,n1,h1,λv H' f=>Fin.back e1 f,λC fs M' G' L' H' od hq e' r' y=>hx σ ρ C fs M' G' L' H' od hq (e1.trans e') r' (n.mono (e1.trans e')) y⟩
end
structure Yl(K:fI)(J:It)(xs:List Dt)(G0:Hp)(L0:List Addr):Prop where
 go:∀(i:Nat) G L M H (d:Dt),dI G0 G->Pre L0 L->Rl K G L M H->xs[i]? =some d->J.go i H/\∀v H',J.S7 i H v H'->∃G',Ex G L H G' L H'/\Rl K G' L M H'/\Den K G' L d v
 stop:∀(i:Nat) G L M H,dI G0 G->Pre L0 L->Rl K G L M H->xs.length<=i->J.stop i H
inductive TH(K:fI)(G0:Hp)(L0:List Addr)(H0:Hp)(q:List Dt->Ms->Prop)(J:It)(H:Hp):Prop
 |mk (xs:List Dt) (G:Hp) (L:List Addr) (M:Ms) (e:Ex G0 L0 H0 G L H) (r:Rl K G L M H) (y:Yl K J xs G L) (h:q xs M)
inductive Wa(K:fI)(R:St->XK)(t:DA)(σ:St)(H:Hp)(Q:It->Hp->Prop):Prop
 |mk (G:Hp) (L:List Addr) (ρ:En) (M:Ms) (q:List Dt->Ms->Prop) (x:DX) (r:Rl K G L M H) (n:lJ K G L ρ σ) (h:t ρ M q x) (hx:uH K G L H R x) (hQ:∀J H1,TH K G L H q J H1->Q J H1)
def JI(X:Cx)(R:St->XK)(tg iter:Expr)(t:DA):Prop:=PI X tg iter (Wa X.K R t)
theorem Lk.imp{X:Cx}{ζ:List (Addr×Obj)}{σ:St}{tg:Expr}{R R':It->Hp->Prop}(hR:∀J H,R J H->R' J H){v:Value}{s:Shared}(h:Lk X ζ σ tg R v s):Lk X ζ σ tg R' v s:=by obtain ⟨it,fp,tn,J,H',a,b,c,d,e,f⟩:=h;exact ⟨it,fp,tn,J,H',a,b,c,d,e,hR J H' f⟩
theorem Er{K:fI}{G:Hp}{L:List Addr}{a:Addr}{ds:List Dt}{vs:List V}(h:∀G':Hp,dI G G'->gu K G' a vs)(n:Χ K G L ds vs):Yl K (Vm K a) ds G L where
 go:=λi G1 L1 M1 H1 d g l r e=>by
  obtain ⟨v,e1,n1⟩:=n.get e;have hs:=h H1 (g.trans r.sub)
  exact ⟨⟨vs,v,hs,e1⟩,λv' H' ⟨eH,y⟩=>by
   subst eH;have e2:=y vs hs;rw [e1] at e2;cases e2
   exact ⟨G1,.refl _ _ _,r,Den.mono g l _ _ n1⟩⟩
 stop:=λi G1 L1 M1 H1 g l r e=>⟨vs,h H1 (g.trans r.sub),by rw [<-n.length];exact e⟩
theorem KG{K:fI}{G:Hp}{L:List Addr}{a:Addr}{ds:List Dt}{vs:List V}(h:∀G':Hp,dI G G'->m_ K G' a vs)(n:Χ K G L ds vs):Yl K (Wm K a) ds G L where
 go:=λi G1 L1 M1 H1 d g l r e=>by
  obtain ⟨v,e1,n1⟩:=n.get e;have hs:=h H1 (g.trans r.sub)
  exact ⟨⟨vs,v,hs,e1⟩,λv' H' ⟨eH,y⟩=>by
   subst eH;have e2:=y vs hs;rw [e1] at e2;cases e2
   exact ⟨G1,.refl _ _ _,r,Den.mono g l _ _ n1⟩⟩
 stop:=λi G1 L1 M1 H1 g l r e=>⟨vs,h H1 (g.trans r.sub),by rw [<-n.length];exact e⟩
def e7(lo:Int)(n:Nat):List Dt:=(List.range n).map λk:Nat=>Dt.int (lo+(k:Int))
theorem HE{K:fI}{G:Hp}{L:List Addr}{lo:Int}{n:Nat}:Yl K (Sx lo n) (e7 lo n) G L where
 go :=λi G1 L1 M1 H1 d g l r e=>by
  unfold e7 at e;rw [aal] at e;have hi:i<n:=by
   cases q:(List.range n)[i]? with
   |none=>rw [q] at e;cases e
   |some j=>
    have:=(aaf.mp q).1;rwa [aaN] at this
  rw [aaH hi] at e;cases e;exact ⟨hi,λv' H' ⟨eH,y⟩=>by subst eH y;exact ⟨G1,.refl _ _ _,r,rfl⟩⟩
 stop:=λi G1 L1 M1 H1 g l r e=>by show n<=i;unfold e7 at e;simpa using e
section
variable{X:Cx}{R:St->XK}{tg iter:Expr}
theorem JI.of{wi:TI}{t:DA}(h:PI X tg iter wi)(hw:∀σ H G L ρ M q x,Rl X.K G L M H->lJ X.K G L ρ σ->t ρ M q x->uH X.K G L H R x->wi σ H (TH X.K G L H q)):JI X R tg iter t:=by intro ζ s σ H Q I ⟨G,L,ρ,M,q,x,r,n,ht,hx,hQ⟩;exact bA (h ζ s σ H _ I (hw σ H G L ρ M q x r n ht hx)) λu s1 f=>bA f λu2 s2 f2=>Lk.imp hQ f2
def Tu(t:DA):DA:=λρ M q x=>t ρ M (λds M1=>match ds with
 |[.int j]=>(-(2^62)<=j/\j<2^62)/\q (e7 0 j.toNat) M1
 |_=>False) x
theorem eY{a:Expr}{t:DA}{p pos:Pos}(hm:X.mg "range"=none)(ha:JA X R [a] t)(hg:Gl X "range":=by rfl)(hs:starEach [a] X.env=[(false,eval a X.env)]:=by rfl):JI X R tg (.Call (.Name "range" p) [a] [] pos) (Tu t):=
 .of (FR hg hm ha hs) λσ H G L ρ M q x rl n h hx=>by
  refine ⟨G,L,ρ,M,_,x,rl,n,h,hx,λvs H1 ⟨ds,G1,L1,M1,e1,r1,n1,h1⟩=>?_⟩
  (try dsimp only at h1)
  split at h1
  ·rename_i j;obtain ⟨v,rfl,n2⟩:=bo n1;have n2:v= .int j:=n2;subst n2;exact ⟨j,rfl,h1.1.1,h1.1.2,_,G1,L1,M1,e1,r1,HE,h1.2⟩
  ·exact h1.elim
def IW(t:DA):DA:=λρ M q x=>t ρ M (λds M1=>match ds with
 |[.int i,.int j]=>(-(2^62)<=i/\i<2^62/\ -(2^62)<=j/\j<2^62)/\q (e7 i (j-i).toNat) M1
 |_=>False) x
theorem G_{a b:Expr}{t:DA}{p pos:Pos}(hm:X.mg "range"=none)(ha:JA X R [a,b] t)(hg:Gl X "range":=by rfl)(hs:starEach [a,b] X.env=[(false,eval a X.env),(false,eval b X.env)]:=by rfl)(Q6:starEach [b] X.env=[(false,eval b X.env)]:=by rfl):
  JI X R tg (.Call (.Name "range" p) [a,b] [] pos) (IW t):=
 .of (FP hg hm ha hs Q6) λσ H G L ρ M q x rl n h hx=>by
  refine ⟨G,L,ρ,M,_,x,rl,n,h,hx,λvs H1 ⟨ds,G1,L1,M1,e1,r1,n1,h1⟩=>?_⟩
  (try dsimp only at h1)
  split at h1
  ·rename_i i j;obtain ⟨v,u,rfl,n3,n2⟩:=gP n1;have n3:v= .int i:=n3;have n2:u= .int j:=n2;subst n3 n2;exact ⟨i,j,rfl,h1.1,_,G1,L1,M1,e1,r1,HE,h1.2⟩
  ·exact h1.elim
end
def GD(K:fI)(gg:TG)(g:Dt->En->(En->Prop)->Prop):Prop:=
 ∀G L M H d v ρ σ (k:En->Prop) (Q:St->Hp->Prop),Rl K G L M H->Den K G L d v->lJ K G L ρ σ->g d ρ k->(∀ρ' σ',lJ K G L ρ' σ'->k ρ'->Q σ' H)->gg v σ H Q
def gN(i:Nat):Dt->En->(En->Prop)->Prop:=λd ρ k=>k (ρ.set i (some d))
theorem ba{K:fI}{i:Nat}:GD K (iY i) (gN i):=λG L M H d v ρ σ k Q rl n en h hQ=>hQ _ _ (en.set i n) h
def g2(i j:Nat):Dt->En->(En->Prop)->Prop:=λd ρ k=>match d with
 |.tup [a,b]=>k ((ρ.set i (some a)).set j (some b))
 |_=>False
theorem mz{K:fI}{i j:Nat}:GD K (Km K 2 (ot (iY i) (ot (iY j) JM))) (g2 i j):=λG L M H d v ρ σ k Q rl n en h hQ=>by
 unfold g2 at h;split at h
 ·rename_i a b;obtain ⟨p,vs,rfl,e,n⟩:=n;obtain ⟨v1,v2,rfl,n1,n2⟩:=gP n;exact ⟨p,_,rfl,.inl (.inl (rl.sub _ _ e)),rfl,v1,_,rfl,v2,_,rfl,rfl,hQ _ _ ((en.set i n1).set j n2) h⟩
 ·exact h.elim
def wg(g:Dt->En->(En->Prop)->Prop)(tb:DS)(Dn:lG):List Dt->En->Ms->Prop
 |[],ρ,M=>Dn.nx ρ M
 |x::xs,ρ,M=>g x ρ λρ'=>tb {Dn with nx:=wg g tb Dn xs,ct:=wg g tb Dn xs,bk:=Dn.nx} ρ' M
def Sm(ti:DA)(g:Dt->En->(En->Prop)->Prop)(tb:DS):DS:=λDn ρ M=>ti ρ M (λxs M1=>wg g tb Dn xs ρ M1) Dn.x
section
variable{X:Cx}{R:St->XK}{tg iter:Expr}{body:List Stmt}{ti:DA}{gg:TG}{g:Dt->En->(En->Prop)->Prop}{tb:DS}{pos:Pos}
theorem lZ(hi:JI X R tg iter ti)(hg:PG X tg gg)(gd:GD X.K gg g)(hb:CU X R body tb)(hp:PassesOwn (model X.prog X.w) X.A X.env X.xe:=by first|exact PassesOwn.never|exact PassesOwn.leaving)(hc:X.calm=true:=by rfl)(hs:∀x,foldedSetIterable iter X.env x=pure x:=by intro _;rfl):
  JS X R (.For tg iter body [] pos) (Sm ti g tb):= .of (CA hp hc hi hg hb hs) λσ H G L ρ M Dn rl n h hx=>by
 refine ⟨G,L,ρ,M,_,_,rl,n,h,hx,λJ H1 ⟨xs,G1,L1,M1,e1,r1,y,h1⟩=>?_⟩;refine ⟨λi m σ' H'=>m+i=xs.length/\e9 X.K G1 L1 H1 (λρ' M'=>wg g tb Dn (xs.drop i) ρ' M') σ' H',⟨xs.length,rfl,ρ,G1,L1,M1,.refl _ _ _,r1,n.mono e1,by rw [ace];exact h1⟩,?_⟩;rintro i m σ' H' ⟨hm,ρ',G',L',M',e',r',n',h'⟩;by_cases hi:i<xs.length
 ·right;have hd:xs[i]? =some xs[i]:=aaa hi;obtain ⟨go,yl⟩:=y.go i G' L' M' H' _ e'.g e'.l r' hd;rw [abb hi] at h';refine ⟨go,e9 X.K G1 L1 H1 (λρ' M'=>wg g tb Dn (xs.drop (i+1)) ρ' M'),λσ2 H2 f=>⟨m-1,by omega,by omega,f⟩,λv H2 hy=>?_⟩;obtain ⟨G2,e2,r2,n2⟩:=yl v H2 hy;refine gd G2 L' M' H2 _ v ρ' σ' _ _ r2 n2 (n'.mono e2) h' λρ3 σ3 n3 h3=>?_;refine ⟨G2,L',ρ3,M',_,r2,n3,h3,hx.on (e1.trans (e'.trans e2)),⟨λ_ _ f=>e9.back (e'.trans e2) f,λ_ _ f=>Fin.back (e1.trans (e'.trans e2)) f,λ_ _ f=>e9.back (e1.trans (e'.trans e2)) f,λ_ _ f=>e9.back (e'.trans e2) f⟩⟩
 ·left;refine ⟨y.stop i G' L' M' H' e'.g e'.l r' (by omega),ρ',G',L',M',e1.trans e',r',n',?_⟩;rw [abO (by omega)] at h';exact h'
end
abbrev DK:=En->Ms->(List Dt->(Ms->Prop)->Ms->Prop)->DX->Prop
structure QO(K:fI)(J:It)(xs:List Dt)(ok:Ms->Prop)(G0:Hp)(L0:List Addr):Prop where
 go:∀(i:Nat) G L M H (d:Dt),dI G0 G->Pre L0 L->Rl K G L M H->ok M->xs[i]? =some d->J.go i H/\∀v H',J.S7 i H v H'->∃G',Ex G L H G' L H'/\Rl K G' L M H'/\Den K G' L d v
 stop:∀(i:Nat) G L M H,dI G0 G->Pre L0 L->Rl K G L M H->ok M->xs.length<=i->J.stop i H
inductive X_(K:fI)(G0:Hp)(L0:List Addr)(H0:Hp)(q:List Dt->(Ms->Prop)->Ms->Prop)(J:It)(H:Hp):Prop
 |mk (xs:List Dt) (ok:Ms->Prop) (G:Hp) (L:List Addr) (M:Ms) (e:Ex G0 L0 H0 G L H) (r:Rl K G L M H) (y:QO K J xs ok G L) (h:q xs ok M)
inductive XT(K:fI)(R:St->XK)(t:DK)(σ:St)(H:Hp)(Q:It->Hp->Prop):Prop
 |mk (G:Hp) (L:List Addr) (ρ:En) (M:Ms) (q:List Dt->(Ms->Prop)->Ms->Prop) (x:DX) (r:Rl K G L M H) (n:lJ K G L ρ σ) (h:t ρ M q x) (hx:uH K G L H R x) (hQ:∀J H1,X_ K G L H q J H1->Q J H1)
def JK(X:Cx)(R:St->XK)(tg iter:Expr)(t:DK):Prop:=PI X tg iter (XT X.K R t)
def kOf(t:DA):DK:=λρ M q x=>t ρ M (λxs M1=>q xs (λ_=>True) M1) x
theorem N8{X:Cx}{R:St->XK}{tg iter:Expr}{t:DA}(h:JI X R tg iter t):JK X R tg iter (kOf t):=by intro ζ s σ H Q I ⟨G,L,ρ,M,q,x,r,n,ht,hx,hQ⟩;refine h ζ s σ H Q I ⟨G,L,ρ,M,_,x,r,n,ht,hx,λJ H1 ⟨xs,G1,L1,M1,e1,r1,y,hq⟩=>hQ J H1 ⟨xs,_,G1,L1,M1,e1,r1,⟨λi G L M H d g l r _ e=>y.go i G L M H d g l r e,λi G L M H g l r _ e=>y.stop i G L M H g l r e⟩,hq⟩⟩
def pK(ae:List Nat)(ρ:En):En:=ae.map λi=>(ρ[i]?).join
def i8(g:Dt->En->(En->Prop)->Prop)(tc:DT)(te:DE)(ρ0:En)(ok:Ms->Prop):List Dt->List Dt->Ms->(List Dt->Ms->Prop)->Prop
 |[],Ζ,M,k=>ok M/\k Ζ M
 |x::xs,Ζ,M,k=>ok M/\g x ρ0 λρ'=>tc ρ' M (λb M1=>match b with
  |true=>te ρ' M1 (λd M2=>i8 g tc te ρ0 ok xs (Ζ++[d]) M2 k) k4
  |false=>i8 g tc te ρ0 ok xs Ζ M1 k) k4
def Bk(n:Nat)(ti:DK)(g:Dt->En->(En->Prop)->Prop)(tc:DT)(te:DE)(ae:List Nat):DE:=λρ M q x=>ti ρ M (λxs ok M1=>xs.length<=sizeLine/\i8 g tc te (List.replicate n none++pK ae ρ) ok xs [] M1 (λys M2=>q (.lst ys) M2)) x
theorem Mw{K:fI}{G:Hp}{L:List Addr}{ρ:En}{σ os:St}{n:Nat}(h:lJ K G L ρ σ)(ae:List Nat)(hl:os.length=n):lJ K G L (List.replicate n none++pK ae ρ) (os++oC ae σ):=by
 have lc:(pK ae ρ).length=(oC ae σ).length:=by unfold pK oC;simp
 refine ⟨by rw [aah,aah,aaS,hl,lc],λi d' e=>?_⟩;by_cases hi:i<n
 ·rw [aaq (by rw [aaS];exact hi),abK,if_pos hi] at e;cases e
 ·rw [aan (by rw [aaS];omega),aaS] at e;rw [aan (by omega),hl];unfold pK at e;unfold oC;rw [aal] at e⊢;cases q:ae[i-n]? with
  |none=>rw [q] at e;cases e
  |some j=>
   rw [q] at e;have e:(ρ[j]?).join=some d':=aav e;have e:ρ[j]? =some (some d'):=by
    cases z:ρ[j]? with
    |none=>rw [z] at e;cases e
    |some o=>rw [z] at e;exact congrArg some e
   obtain ⟨v,hv,dn⟩:=h.gD j d' e;exact ⟨v,by show some ((σ[j]?).join)=_;rw [hv];rfl,dn⟩
theorem AH{K:fI}{J:It}{gg:TG}{g:Dt->En->(En->Prop)->Prop}{tc:DT}{te:DE}{ae:List Nat}{nn:Nat}{ρ:En}{σ:St}{G1:Hp}{L1:List Addr}{M1:Ms}{H1:Hp}{xs:List Dt}{ok:Ms->Prop}{Dl:Addr}{Q:VK}{k:List Dt->Ms->Prop}(gd:GD K gg g)(r1:Rl K G1 L1 M1 H1)(n:lJ K G1 L1 ρ σ)(y:QO K J xs ok G1 L1)(hD:H1 Dl=none)(hz:xs.length<=sizeLine)
  (h:i8 g tc te (List.replicate nn none++pK ae ρ) ok xs [] M1 k)
  (fin:∀G2 L2 M2 H2 ds vs,Ex G1 L1 H1 G2 L2 H2->Rl K G2 L2 M2 H2->G2 Dl=none->Dl∉L2->H2 Dl=some (.lst vs)->Χ K G2 L2 ds vs->k ds M2->Q (.ref Dl) H2):
  CD J nn gg (Fx K (λ_=>E0) tc) (y9 K (λ_=>E0) te) (oC ae σ) Q H1 Dl:=by
 refine ⟨λi m ys H2=>m+i=xs.length/\H2 Dl=some (.lst ys)/\∃Ζ G2 L2 M2,Ex G1 L1 H1 G2 L2 H2/\Rl K G2 L2 M2 H2/\G2 Dl=none/\Dl∉L2/\Χ K G2 L2 Ζ ys/\Ζ.length<=i/\i8 g tc te (List.replicate nn none++pK ae ρ) ok (xs.drop i) Ζ M2 k,⟨xs.length,rfl,ao,[],G1,L1,M1,?_⟩,?_⟩
 ·have gn:G1 Dl=none:=r1.sub.free hD;refine ⟨⟨.refl _,.refl _,λ_ h _=>h,λb u h1 _=>by rw [Κ (λz=>by rw [z,hD] at h1;cases h1)];exact h1,λ_ h=> .inl h,λb h=>by rw [Κ (λz=>h (by rw [z];exact hD))];exact h⟩,⟨λb u e=>by rw [Κ (λz=>by rw [z,gn] at e;cases e)];exact r1.sub b u e,r1.len,r1.nd,λi a m h1 h2=>?_⟩,gn,r1.QH hD,rfl,aai _,by rw [ace];exact h⟩;obtain ⟨q1,q2⟩:=r1.gD i a m h1 h2;exact ⟨q1,q2.mono (.refl _) (.refl _) (Κ λz=>q2.there (by rw [z];exact hD))⟩
 ·rintro i m ys H2 ⟨hm,JB,Ζ,G2,L2,M2,e2,r2,g2,l2,n2,la,h2⟩;refine ⟨JB,?_⟩;have ne1:∀{b:Addr} {u:HO},H1 b=some u->b≠Dl:=λe z=>by rw [z,hD] at e;cases e
  by_cases hi:i<xs.length
  ·right;have hd:xs[i]? =some xs[i]:=aaa hi;rw [abb hi] at h2;obtain ⟨aY,h2⟩:=h2;obtain ⟨go,yl⟩:=y.go i G2 L2 M2 H2 _ e2.g e2.l r2 aY hd;refine ⟨go,λv H3 hy os Qz=>?_⟩;obtain ⟨G3,e3,r3,n3⟩:=yl v H3 hy;have h3:H3 Dl=some (.lst ys):=e3.out _ _ JB l2;have g3:G3 Dl=none:=e3.fr _ g2 (by rw [JB];simp);refine gd G3 L2 M2 H3 _ v _ _ _ _ r3 n3 (Mw ((n.mono e2).mono e3) ae Qz) h2 λρ' σ' n' h'=>?_;refine ⟨G3,L2,ρ',M2,_,k4,r3,n',h',IM,λb H4 ⟨G4,L4,M4,e4,r4,h4⟩=>?_⟩;have VD:H4 Dl=some (.lst ys):=e4.out _ _ h3 l2;have g4:G4 Dl=none:=e4.fr _ g3 (by rw [h3];simp);have l4:Dl∉L4:=λz=>(e4.new _ z).elim l2 λq=>by rw [h3] at q;cases q
   have Ve:=e3.trans e4;cases b with
   |false=>
    exact ⟨m-1,by omega,by omega,VD,Ζ,G4,L4,M4,e2.trans Ve,r4,g4,l4,Χ.mono Ve.g Ve.l _ _ n2,by omega,h4⟩
   |true=>
    refine ⟨G4,L4,ρ',M4,_,k4,r4,n'.mono e4,h4,IM,λv5 H5 ⟨d5,G5,L5,M5,e5,r5,n5,h5⟩=>?_⟩;have h5':H5 Dl=some (.lst ys):=e5.out _ _ VD l4;have g5:G5 Dl=none:=e5.fr _ g4 (by rw [VD];simp);have l5:Dl∉L5:=λz=>(e5.new _ z).elim l4 λq=>by rw [VD] at q;cases q
    have X8:=Ve.trans e5;have aaR:ys.length=Ζ.length:=by rw [<-n2.length]
    refine ⟨h5',by omega,m-1,by omega,by omega,ao,Ζ++[d5],G5,L5,M5,?_,?_,g5,l5,(Χ.mono X8.g X8.l _ _ n2).app ⟨_,_,rfl,n5,rfl⟩,by rw [aah];show Ζ.length+1<=i+1;omega,h5⟩
    ·have RG:=e2.trans X8
     exact ⟨RG.g,RG.l,RG.fr,λb u h1 h2=>by rw [Κ (ne1 h1)];exact RG.out b u h1 h2,RG.new,λb h=>by
      by_cases hb:b=Dl
      ·rw [hb,ao];simp
      ·rw [Κ hb];exact RG.DC b h⟩
    ·refine ⟨λb u e=>by rw [Κ (λz=>by rw [z,g5] at e;cases e)];exact r5.sub b u e,r5.len,r5.nd,λi a m h1 h2=>?_⟩;obtain ⟨q1,q2⟩:=r5.gD i a m h1 h2;exact ⟨q1,q2.mono (.refl _) (.refl _) (Κ λz=>l5 (by rw [<-z];exact aam h1))⟩
  ·left;rw [abO (by omega)] at h2;exact ⟨y.stop i G2 L2 M2 H2 e2.g e2.l r2 h2.1 (by omega),fin G2 L2 M2 H2 Ζ ys e2 r2 g2 l2 JB n2 h2.2⟩
section
variable{K:fI}{G1:Hp}{L1:List Addr}{H1 G:Hp}{L:List Addr}{M:Ms}{H:Hp}{p:Addr}{ds:List Dt}{vs:List V}{q:DQ}
theorem MU(e:Ex G1 L1 H1 G L H)(r:Rl K G L M H)(N3:H1 p=none)(hg:G p=none)(hl:p∉L)(h:H p=some (.lst vs))(n:Χ K G L ds vs)(k:q (.lst ds) M):Fin K G1 L1 H1 q (.ref p) H:=by
 have g1:dI G (upd G p (.lst vs)):=λb u e=>by rw [Κ (λz=>by rw [z,hg] at e;cases e)];exact e
 refine ⟨.lst ds,upd G p (.lst vs),L,M,⟨e.g.trans g1,e.l,λb h1 h2=>?_,e.out,e.new,e.DC⟩,⟨λb u e=>?_,r.len,r.nd,λk a m h1 h2=>?_⟩,⟨p,vs,rfl,ao,Χ.mono g1 (.refl _) _ _ n⟩,k⟩
 ·rw [Κ (λz=>h2 (by rw [z];exact N3))];exact e.fr b h1 h2
 ·by_cases hb:b=p
  ·rw [hb,ao] at e;rw [hb];cases e;exact h
  ·rw [Κ hb] at e;exact r.sub b u e
 ·obtain ⟨q1,q2⟩:=r.gD k a m h1 h2;have hb:a≠p:=λz=>hl (by rw [<-z];exact aam h1);exact ⟨by rw [Κ hb];exact q1,q2.mono g1 (.refl _) rfl⟩
theorem Mc(e:Ex G1 L1 H1 G L H)(r:Rl K G L M H)(N3:H1 p=none)(hg:G p=none)(hl:p∉L)(h:H p=some (.lst vs))(n:Χ K G L ds vs)(k:q (.loc M.length) (M++[.lst ds])):Fin K G1 L1 H1 q (.ref p) H:=by
 refine ⟨.loc M.length,G,L++[p],M++[.lst ds],⟨e.g,e.l.trans ⟨[p],rfl⟩,e.fr,e.out,λb hb=>?_,e.DC⟩,⟨r.sub,by rw [List.length_append,List.length_append,r.len];rfl,List.nodup_append.mpr ⟨r.nd,by simp,λa ha b hb=>?_⟩,λk a m h1 h2=>?_⟩,⟨p,rfl,by rw [<-r.len,List.getElem?_append_right (Nat.le_refl _)];simp⟩,k⟩
 ·rcases aaP.mp hb with z|z
  ·exact e.new b z
  ·have e:b=p:=by simpa using z
   right;rw [e];exact N3
 ·have e:b=p:=by simpa using hb
  rw [e];exact λz=>hl (z▸ha)
 ·by_cases hk:k<L.length
  ·rw [aaq hk] at h1;rw [aaq (by rw [<-r.len];exact hk)] at h2;obtain ⟨q1,q2⟩:=r.gD k a m h1 h2;exact ⟨q1,q2.mono (.refl _) ⟨[p],rfl⟩ rfl⟩
  ·have e:k=L.length:=by have:=(aaf.mp h1).1;rw [aah] at this;simp at this;omega
   rw [e,aan (aai _)] at h1;rw [e,r.len,aan (aai _)] at h2;simp at h1 h2;subst h1 h2;exact ⟨hg,vs,h,Χ.mono (.refl _) ⟨[p],rfl⟩ _ _ n⟩
def Vd(b:Bool)(q:DQ)(ys:List Dt)(M:Ms):Prop:=match b with
 |false=>q (.lst ys) M
 |true=>q (.loc M.length) (M++[.lst ys])
theorem Dg{b:Bool}(e:Ex G1 L1 H1 G L H)(r:Rl K G L M H)(N3:H1 p=none)(hg:G p=none)(hl:p∉L)(h:H p=some (.lst vs))(n:Χ K G L ds vs)(k:Vd b q ds M):Fin K G1 L1 H1 q (.ref p) H:=by
 cases b
 ·exact MU e r N3 hg hl h n k
 ·exact Mc e r N3 hg hl h n k
end
theorem gK{n i:Nat}(h:i<n):v8 n (iY i):=λv os cs H Q hl hq=>⟨⟨os.set i (some v),by rw [aa4];exact hl,abH _ _ (by omega)⟩,hq⟩
theorem oQ{K:fI}{n i j:Nat}(h:i<n)(h':j<n):v8 n (Km K 2 (ot (iY i) (ot (iY j) JM))):=
 λv os cs H Q hl ⟨a,xs,e,s,l,v1,r,e1,v2,r2,e2,e3,q⟩=>⟨a,xs,e,s,l,v1,r,e1,v2,r2,e2,e3,⟨(os.set i (some v1)).set j (some v2),by simp [hl],by
  rw [abH _ _ (by omega),abH _ _ (by rw [aa4];omega)]⟩,q⟩
section
variable{X:Cx}{elt iter tg:Expr}{xs:List Str}{scope:Scope}{pos:Pos}{ys:List Str}{ae:List Nat}
theorem gH{i:Nat}{x:Str}{px:Pos}(S:ay X scope xs ys ae)(h:xs[i]? =some x)(C:Addr)(s:Shared)(H:Hp)(fp:List Addr):PG (Cx.comp X (xs++ys) scope C s H fp) (.Name x px) (iY i):=by
 have hm:x∈xs:=aam h;have hi:(xs++ys)[i]? =some x:=by rw [aaq (aaf.mp h).1];exact h
 exact aD S.nd hi (.inl (lookup_relabel_local (S.own x hm))) (.inr (lookup_relabel_local (S.own x hm)))
theorem we{x y:Str}{px py:Pos}{k:Nat}(hc:X.calm=true)(S:ay X scope [x,y] ys ae)(C:Addr)(s:Shared)(H:Hp)(fp:List Addr):PG (Cx.comp X ([x,y]++ys) scope C s H fp) (.Tuple [.Name x px, .Name y py] k pos) (Km X.K 2 (ot (iY 0) (ot (iY 1) JM))):=
 pM (X:=Cx.comp X ([x,y]++ys) scope C s H fp) hc (cG (gH S (i:=0) rfl C s H fp) (cG (gH S (i:=1) rfl C s H fp) ly))
end
def sR:DT:=λ_ M q _=>q true M
def YG(X:Cx)(cs:List Expr)(t:DT):Prop:=Vi X cs (Fx X.K (λ_=>E0) t)
theorem k_{X:Cx}:YG X [] sR:=⟨.inl rfl,λζ s σ H Q I ⟨G,L,ρ,M,q,x,r,n,h,hx,hQ⟩=>wpAny_pure ⟨H,I,hQ true H ⟨G,L,M,.refl _ _ _,r,h⟩⟩⟩
theorem EJ{X:Cx}{c:Expr}{t:DT}(h:JT X (λ_=>E0) c t):YG X [c] t:=⟨.inr ⟨c,rfl⟩,h⟩
def Ou(b:Bool)(g:Dt->En->(En->Prop)->Prop)(tc:DT)(te:DE)(cs:En)(q:DQ):List Dt->(Ms->Prop)->Ms->Prop:=λzs ok M1=>zs.length<=sizeLine/\i8 g tc te cs ok zs [] M1 (Vd b q)
section
variable{X:Cx}{R:St->XK}{elt iter tg:Expr}{cs:List Expr}{xs:List Str}{scope:Scope}{pos:Pos}{gg:TG}{g:Dt->En->(En->Prop)->Prop}{ti:DK}{tc:DT}{te:DE}{ys:List Str}{ae:List Nat}(b:Bool)(S:ay X scope xs ys ae)(hi:JK X R tg iter ti)(hg:∀C s H fp,PG (Cx.comp X (xs++ys) scope C s H fp) tg gg)(gd:GD X.K gg g)(hk:v8 xs.length gg)(ht:∀C s H fp,YG (Cx.comp X (xs++ys) scope C s H fp) cs tc)(he:∀C s H fp,JE (Cx.comp X (xs++ys) scope C s H fp) (λ_=>E0) elt te)(hc:X.calm=true)(hs:∀x,foldedSetIterable iter X.env x=pure x)
include S hi hg gd hk ht he hc hs
theorem Rz{t:DE}(e:∀ρ M q x,t ρ M q x->ti ρ M (Ou b g tc te (List.replicate xs.length none++pK ae ρ) q) x):JE X R (.ListComp elt [⟨tg,iter,cs,0⟩] scope pos) t:=
 .of (Iw (tc:=Fx X.K (λ_=>E0) tc) (te:=y9 X.K (λ_=>E0) te) S hc hi hg hk ht he hs) λσ H G L ρ M q x rl n h hx=>⟨G,L,ρ,M,_,x,rl,n,e _ _ _ _ h,hx,λJ H1 ⟨xs,ok,G1,L1,M1,e1,r1,y,hz,h1⟩ D hD=>AH gd r1 (n.mono e1) y hD hz h1 λG2 L2 M2 H2 ds vs e2 r2 g2 l2 h2 n2 k=>Fin.back e1 (Dg e2 r2 hD g2 l2 h2 n2 k)⟩
theorem ZS{i:Nat}{y:Str}{py tZ:Pos}(hN:X.N.Nodup)(QR:X.N[i]? =some y)(hy:Loc X.env.scope y)(O8:swapsWith (.ListComp elt [⟨tg,iter,cs,0⟩] scope pos) (some (.Name y py)) tZ.line X.env=pure true)(hf:X.fn y=true\/X.env.scope.names.lookup y=some .local){t:DE}(e:∀ρ M q x,t ρ M q x->ti ρ M (Ou b g tc te (List.replicate xs.length none++pK ae ρ) q) x):
  JS X R (.Assign [.Name y py] (.ListComp elt [⟨tg,iter,cs,0⟩] scope pos) tZ) (JN i t):= .of (yO (tc:=Fx X.K (λ_=>E0) tc) (te:=y9 X.K (λ_=>E0) te) hN QR hy S hc hi hg hk ht he O8 hs hf) λσ H G L ρ M Dn rl n h hx=>by
 refine ⟨G,L,ρ,M,_,_,rl,n,e _ _ _ _ h,hx,λJ H1 ⟨xs,ok,G1,L1,M1,e1,r1,y,hz,h1⟩ D hD=>AH gd r1 (n.mono e1) y hD hz h1 λG2 L2 M2 H2 ds vs e2 r2 g2 l2 h2 n2 k=>?_⟩;obtain ⟨d,G3,L3,M3,e3,r3,n3,h3⟩:=Dg (q:=λd M=>Dn.nx (ρ.set i (some d)) M) e2 r2 hD g2 l2 h2 n2 k;exact ⟨_,G3,L3,M3,e1.trans e3,r3,((n.mono e1).mono e3).set i n3,h3⟩
end
def yW(te:DE)(cs:En):List Dt->List Dt->Ms->(List Dt->Ms->Prop)->Prop
 |[],Ζ,M,k=>k Ζ M
 |x::xs,Ζ,M,k=>te (some x::cs) M (λd M1=>yW te cs xs (Ζ++[d]) M1 k) k4
def KD(ti:DA)(te:DE)(ae:List Nat):DE:=λρ M q x=>ti ρ M (λxs M1=>xs.length<=sizeLine/\yW te (pK ae ρ) xs [] M1 (λys M2=>q (.lst ys) M2)) x
theorem Dj{te:DE}{cs:En}:∀xs,yW te cs xs=i8 (gN 0) sR te (none::cs) (λ_=>True) xs
 |[]=>funext λΖ=>funext λM=>funext λk=>(true_and _).symm
 |x::xs=>funext λΖ=>funext λM=>funext λk=>by show te (some x::cs) M (λd M1=>yW te cs xs (Ζ++[d]) M1 k) k4=(True/\te (some x::cs) M (λd M1=>i8 (gN 0) sR te (none::cs) (λ_=>True) xs (Ζ++[d]) M1 k) k4);rw [Dj xs,true_and]
section
variable{X:Cx}{R:St->XK}{elt iter:Expr}{x:Str}{px:Pos}{scope:Scope}{pos:Pos}{ti:DA}{te:DE}{ys:List Str}{ae:List Nat}
theorem La(S:ay X scope [x] ys ae)(hi:JI X R (.Name x px) iter ti)(he:∀C s H fp,JE (Cx.comp X (x::ys) scope C s H fp) (λ_=>E0) elt te)(hc:X.calm=true:=by rfl)(hs:∀x,foldedSetIterable iter X.env x=pure x:=by intro _;rfl):JE X R (.ListComp elt [⟨.Name x px,iter,[],0⟩] scope pos) (KD ti te ae):=Rz false S (N8 hi) (gH S (i:=0) rfl) ba (gK (Nat.zero_lt_succ 0)) (λ_ _ _ _=>k_) he hc hs λρ M q x h=>by unfold KD at h;simp only [Dj] at h;exact h
end
theorem fin_same{K:fI}{G0:Hp}{L0:List Addr}{H0 G:Hp}{L:List Addr}{M:Ms}{H:Hp}{d:Dt}{v:V}{q:DQ}(e:Ex G0 L0 H0 G L H)(r:Rl K G L M H)(n:Den K G L d v)(h:q d M):Fin K G0 L0 H0 q v H:=⟨d,G,L,M,e,r,n,h⟩
theorem bx{K:fI}{G0:Hp}{L0:List Addr}{H0 G:Hp}{L:List Addr}{M:Ms}{H:Hp}{d:Dt}{v:V}{q:DQ}(e:Ex G0 L0 H0 G L H)(r:Rl K G L M H)(h:q d M)(n:Den K G L d v:=by rfl):Fin K G0 L0 H0 q v H:=⟨d,G,L,M,e,r,n,h⟩
def y8:Dt->Dt->Ms->DQ->Prop
 |.int i,.int j,M,q=>q (.int (i+j)) M
 |.str a,.str b,M,q=>a.length+b.length<=sizeLine/\q (.str (a++b)) M
 |.lst a,.lst b,M,q=>a.length+b.length<=sizeLine/\q (.lst (a++b)) M
 |.tup a,.tup b,M,q=>(a≠[]/\a.length+b.length<=sizeLine)/\q (.tup (a++b)) M
 |_,_,_,_=>False
def CH:Dt->Dt->Ms->DQ->Prop
 |.int i,.int j,M,q=>q (.int (i-j)) M
 |_,_,_,_=>False
def K1:Dt->Dt->Ms->DQ->Prop
 |.int i,.int j,M,q=>(iL i/\iL j)/\q (.int (i*j)) M
 |.lst a,.int k,M,q=>(-(2^63)<=k/\k<2^63/\a.length*k.toNat<=sizeLine)/\q (.lst (List.replicate k.toNat a).flatten) M
 |_,_,_,_=>False
def QI:Dt->Dt->Ms->DQ->Prop
 |.int i,.int j,M,q=>(0<j/\iL j)/\q (.int (i/j)) M
 |_,_,_,_=>False
def Eg:Dt->Dt->Ms->DQ->Prop
 |.int i,.int j,M,q=>(j≠0/\iL j)/\q (.int (i.fdiv j)) M
 |_,_,_,_=>False
def LY:Dt->Dt->Ms->DQ->Prop
 |.int i,.int j,M,q=>0<j/\q (.int (i%j)) M
 |_,_,_,_=>False
def QG:Dt->Dt->Ms->DQ->Prop
 |.int i,.int j,M,q=>zm i j/\q (.int (i^j.toNat)) M
 |_,_,_,_=>False
def Qd:Dt->Ms->DQ->Prop
 |.int i,M,q=>q (.int (-i)) M
 |_,_,_=>False
section
variable{K:fI}
theorem Y_:ow K (λx y H Q=>(∃i j,x=V.int i/\y= .int j/\Q (.int (i+j)) H)\/(∃i j,x=V.str i/\y= .str j/\i.length+j.length<=sizeLine/\Q (.str (i++j)) H)\/Qt x y H Q\/Ob K x y H Q) y8:=by
 intro G0 L0 H0 G L M H v1 v2 d1 d2 q e r n1 n2 h;unfold y8 at h;split at h
 ·rename_i i j;exact .inl ⟨i,j,n1,n2,bx e r h⟩
 ·rename_i a b;exact .inr (.inl ⟨a,b,n1,n2,h.1,bx e r h.2⟩)
 ·rename_i a b;obtain ⟨p1,w1,rfl,e1,m1⟩:=n1;obtain ⟨p2,w2,rfl,e2,m2⟩:=n2;refine .inr (.inr (.inl ⟨p1,p2,w1,w2,rfl,rfl,r.sub _ _ e1,r.sub _ _ e2,by rw [<-m1.length,<-m2.length];exact h.1,λp hp=>?_⟩));exact jE e r hp (qR r hp (m1.app m2)) h.2
 ·rename_i a b;obtain ⟨p1,w1,rfl,e1,m1⟩:=n1;obtain ⟨p2,w2,rfl,e2,m2⟩:=n2;have ne:w1≠[]:=λz=>h.1.1 (by have:=m1.length;rw [z] at this;exact List.eq_nil_of_length_eq_zero this);refine .inr (.inr (.inr ⟨p1,p2,w1,w2,rfl,rfl,.inl (.inl (r.sub _ _ e1)),.inl (.inl (r.sub _ _ e2)),ne,by rw [<-m1.length,<-m2.length];exact h.1.2,λz=>?_,λ_ p hp=>?_⟩))
  ·have hb:b=[]:=by have:=m2.length;rw [z] at this;exact List.eq_nil_of_length_eq_zero this
   subst hb;rw [aaZ] at h;exact fin_same (d:= .tup a) e r ⟨p1,w1,rfl,e1,m1⟩ h.2
  ·exact jE e r hp (n_ r hp (m1.app m2)) h.2
 ·exact h.elim
theorem YZ:ow K (GV λi j=> .int (i-j)) CH:=by
 intro G0 L0 H0 G L M H v1 v2 d1 d2 q e r n1 n2 h;unfold CH at h;split at h
 ·exact ⟨_,_,n1,n2,bx e r h⟩
 ·exact h.elim
theorem VX:ow K (λx y H Q=>(rI (λi j=>iL i/\iL j) λi j=> .int (i*j)) x y H Q\/Pz x y H Q) K1:=by
 intro G0 L0 H0 G L M H v1 v2 d1 d2 q e r n1 n2 h;unfold K1 at h;split at h
 ·exact .inl ⟨_,_,n1,n2,h.1,bx e r h.2⟩
 ·rename_i a k;obtain ⟨p1,w1,rfl,e1,m1⟩:=n1;refine .inr ⟨p1,k,w1,rfl,n2,r.sub _ _ e1,h.1.1,h.1.2.1,by rw [<-m1.length];exact h.1.2.2,λp hp=>?_⟩;exact jE e r hp (qR r hp (.of (xU m1.pair k.toNat))) h.2
 ·exact h.elim
theorem Yq:ow K (rI (λ_ j=>j≠0/\iL j) λi j=> .int (i.fdiv j)) QI:=by
 intro G0 L0 H0 G L M H v1 v2 d1 d2 q e r n1 n2 h;unfold QI at h;split at h
 ·rename_i i j;have h0:=h.1.1;refine ⟨_,_,n1,n2,⟨by omega,h.1.2⟩,fin_same (d:= .int (i.fdiv j)) e r rfl ?_⟩;rw [abn i (aaj h0)];exact h.2
 ·exact h.elim
theorem Ss:ow K (rI (λ_ j=>j≠0/\iL j) λi j=> .int (i.fdiv j)) Eg:=by
 intro G0 L0 H0 G L M H v1 v2 d1 d2 q e r n1 n2 h;unfold Eg at h;split at h
 ·exact ⟨_,_,n1,n2,h.1,bx e r h.2⟩
 ·exact h.elim
theorem XJ:ow K (rI (λ_ j=>0<j) λi j=> .int (i%j)) LY:=by
 intro G0 L0 H0 G L M H v1 v2 d1 d2 q e r n1 n2 h;unfold LY at h;split at h
 ·exact ⟨_,_,n1,n2,h.1,bx e r h.2⟩
 ·exact h.elim
theorem Xe:ow K (rI zm λi j=> .int (i^j.toNat)) QG:=by
 intro G0 L0 H0 G L M H v1 v2 d1 d2 q e r n1 n2 h;unfold QG at h;split at h
 ·exact ⟨_,_,n1,n2,h.1,bx e r h.2⟩
 ·exact h.elim
theorem b8:V5 K (rU λi=> .int (-i)) Qd:=by
 intro G0 L0 H0 G L M H v1 d1 q e r n1 h;unfold Qd at h;split at h
 ·exact ⟨_,n1,bx e r h⟩
 ·exact h.elim
end
section
variable{X:Cx}{R:St->XK}{a b c:Expr}{ta tb:DE}{pos:Pos}
theorem cI(ja:JE X R a ta)(jb:JE X R b tb):JE X R (.BinOp a .Add b pos) (lj y8 ta tb):=xt (O7.or (B7.or (Kl.or MT))) Y_ ja jb
theorem uU(ja:JE X R a ta)(jb:JE X R b tb):JE X R (.BinOp a .Sub b pos) (lj CH ta tb):=xt Py YZ ja jb
theorem aR(ja:JE X R a ta)(jb:JE X R b tb):JE X R (.BinOp a .Mult b pos) (lj K1 ta tb):=xt (LD.or Js) VX ja jb
theorem kK(ja:JE X R a ta)(jb:JE X R b tb):JE X R (.BinOp a .FloorDiv b pos) (lj QI ta tb):=xt y3 Yq ja jb
theorem CT(ja:JE X R a ta)(jb:JE X R b tb):JE X R (.BinOp a .FloorDiv b pos) (lj Eg ta tb):=xt y3 Ss ja jb
theorem bY(ja:JE X R a ta)(jb:JE X R b tb):JE X R (.BinOp a .Mod b pos) (lj LY ta tb):=xt Qk XJ ja jb
theorem i5(ja:JE X R a ta)(jb:JE X R b tb):JE X R (.BinOp a .Pow b pos) (lj QG ta tb):=xt OV Xe ja jb
theorem Ot(ja:JE X R a ta):JE X R (.UnaryOp .USub a pos) (VC Qd ta):=Yv PK b8 ja
end
def VU:Dt->Dt->Ms->DQ->Prop
 |.int i,.int j,M,q=>q (.bl (decide (i<j))) M
 |_,_,_,_=>False
def XU:Dt->Dt->Ms->DQ->Prop
 |.int i,.int j,M,q=>q (.bl (decide (i<=j))) M
 |_,_,_,_=>False
def W6:Dt->Dt->Ms->DQ->Prop
 |.int i,.int j,M,q=>q (.bl (decide (j<i))) M
 |_,_,_,_=>False
def Xj:Dt->Dt->Ms->DQ->Prop
 |.int i,.int j,M,q=>q (.bl (decide (j<=i))) M
 |_,_,_,_=>False
def vD:Dt->Option V
 |.bw=>some .bw
 |.bl b=>some (.bl b)
 |.int i=>some (.int i)
 |.str x=>some (.str x)
 |_=>none
def hJ:List Dt->Option (List V)
 |[]=>some []
 |d::ds=>match vD d,hJ ds with
  |some v,some vs=>some (v::vs)
  |_,_=>none
section
variable{K:fI}{G:Hp}{L:List Addr}
theorem kQ{d:Dt}{v u:V}(h:vD d=some u)(n:Den K G L d v):v=u/\eC u=true:=by cases d <;> first|(cases h;exact ⟨n,rfl⟩)|cases h
theorem fg:∀{ds:List Dt}{vs us:List V},hJ ds=some us->Χ K G L ds vs->vs=us/\us.all eC=true
 |[],vs,us,h,n=>by cases h;exact ⟨n,rfl⟩
 |d::ds,_,us,h,⟨v,r,e,n1,n2⟩=>by
  subst e;unfold hJ at h;split at h
  ·rename_i u1 u2 h1 h2;cases h;obtain ⟨a1,a2⟩:=kQ h1 n1;obtain ⟨b1,b2⟩:=fg h2 n2;subst a1 b1;exact ⟨rfl,by rw [abL,a2,b2];rfl⟩
  ·cases h
end
def Bx:Dt->Dt->Ms->DQ->Prop
 |.int i,.int j,M,q=>q (.bl (decide (i=j))) M
 |.str i,.str j,M,q=>q (.bl (decide (i=j))) M
 |.bl i,.bl j,M,q=>q (.bl (decide (i=j))) M
 |.tup a,.tup b,M,q=>match hJ a,hJ b with
  |some us,some vs=>q (.bl (nR us vs)) M
  |_,_=>False
 |_,_,_,_=>False
def Mg:Dt->Dt->Ms->DQ->Prop
 |.int i,.int j,M,q=>q (.bl (!decide (i=j))) M
 |.str i,.str j,M,q=>q (.bl (!decide (i=j))) M
 |.bl i,.bl j,M,q=>q (.bl (!decide (i=j))) M
 |.tup a,.tup b,M,q=>match hJ a,hJ b with
  |some us,some vs=>q (.bl (!nR us vs)) M
  |_,_=>False
 |_,_,_,_=>False
def Ql:Dt->Dt->Ms->DQ->Prop
 |.bw,.bw,M,q=>q (.bl true) M
 |.bl _,.bw,M,q=>q (.bl false) M
 |.int _,.bw,M,q=>q (.bl false) M
 |.str _,.bw,M,q=>q (.bl false) M
 |.tup _,.bw,M,q=>q (.bl false) M
 |.lst _,.bw,M,q=>q (.bl false) M
 |_,_,_,_=>False
section
variable{K:fI}
theorem ltD:ow K (GV λi j=> .bl (decide (i<j))) VU:=by
 intro G0 L0 H0 G L M H v1 v2 d1 d2 q e r n1 n2 h;unfold VU at h;split at h
 ·exact ⟨_,_,n1,n2,bx e r h⟩
 ·exact h.elim
theorem leD:ow K (GV λi j=> .bl (decide (i<=j))) XU:=by
 intro G0 L0 H0 G L M H v1 v2 d1 d2 q e r n1 n2 h;unfold XU at h;split at h
 ·exact ⟨_,_,n1,n2,bx e r h⟩
 ·exact h.elim
theorem gtD:ow K (GV λi j=> .bl (decide (j<i))) W6:=by
 intro G0 L0 H0 G L M H v1 v2 d1 d2 q e r n1 n2 h;unfold W6 at h;split at h
 ·exact ⟨_,_,n1,n2,bx e r h⟩
 ·exact h.elim
theorem geD:ow K (GV λi j=> .bl (decide (j<=i))) Xj:=by
 intro G0 L0 H0 G L M H v1 v2 d1 d2 q e r n1 n2 h;unfold Xj at h;split at h
 ·exact ⟨_,_,n1,n2,bx e r h⟩
 ·exact h.elim
theorem lh{p q:Prop} [Decidable p] [Decidable q](h:p↔q):decide p=decide q:=decide_eq_decide.mpr h
theorem RW:ow K (λx y H Q=>rEq x y H Q\/R7 K x y H Q) Bx:=by
 intro G0 L0 H0 G L M H v1 v2 d1 d2 q e r n1 n2 h;unfold Bx at h;split at h
 ·rename_i i j;cases n1;cases n2;exact .inl ⟨rfl,fin_same (d:= .bl _) e r (by show V.bl _=V.bl _;rw [lh (p:=V.int i=V.int j) (q:=i=j) ⟨λz=>V.int.inj z,λz=>by rw [z]⟩]) h⟩
 ·rename_i i j;cases n1;cases n2;exact .inl ⟨rfl,fin_same (d:= .bl _) e r (by show V.bl _=V.bl _;rw [lh (p:=V.str i=V.str j) (q:=i=j) ⟨λz=>V.str.inj z,λz=>by rw [z]⟩]) h⟩
 ·rename_i i j;cases n1;cases n2;exact .inl ⟨rfl,fin_same (d:= .bl _) e r (by show V.bl _=V.bl _;rw [lh (p:=V.bl i=V.bl j) (q:=i=j) ⟨λz=>V.bl.inj z,λz=>by rw [z]⟩]) h⟩
 ·rename_i a b;obtain ⟨p1,w1,rfl,e1,m1⟩:=n1;obtain ⟨p2,w2,rfl,e2,m2⟩:=n2;split at h
  ·rename_i us vs h1 h2;obtain ⟨rfl,a2⟩:=fg h1 m1;obtain ⟨rfl,b2⟩:=fg h2 m2;exact .inr ⟨p1,p2,_,_,rfl,rfl,.inl (.inl (r.sub _ _ e1)),.inl (.inl (r.sub _ _ e2)),a2,b2,bx e r h⟩
  ·exact h.elim
 ·exact h.elim
theorem WJ:ow K (λx y H Q=>ZO x y H Q\/U4 K x y H Q) Mg:=by
 intro G0 L0 H0 G L M H v1 v2 d1 d2 q e r n1 n2 h;unfold Mg at h;split at h
 ·rename_i i j;cases n1;cases n2;exact .inl ⟨rfl,fin_same (d:= .bl _) e r (by show V.bl _=V.bl _;rw [lh (p:=V.int i=V.int j) (q:=i=j) ⟨λz=>V.int.inj z,λz=>by rw [z]⟩]) h⟩
 ·rename_i i j;cases n1;cases n2;exact .inl ⟨rfl,fin_same (d:= .bl _) e r (by show V.bl _=V.bl _;rw [lh (p:=V.str i=V.str j) (q:=i=j) ⟨λz=>V.str.inj z,λz=>by rw [z]⟩]) h⟩
 ·rename_i i j;cases n1;cases n2;exact .inl ⟨rfl,fin_same (d:= .bl _) e r (by show V.bl _=V.bl _;rw [lh (p:=V.bl i=V.bl j) (q:=i=j) ⟨λz=>V.bl.inj z,λz=>by rw [z]⟩]) h⟩
 ·rename_i a b;obtain ⟨p1,w1,rfl,e1,m1⟩:=n1;obtain ⟨p2,w2,rfl,e2,m2⟩:=n2;split at h
  ·rename_i us vs h1 h2;obtain ⟨rfl,a2⟩:=fg h1 m1;obtain ⟨rfl,b2⟩:=fg h2 m2;exact .inr ⟨p1,p2,_,_,rfl,rfl,.inl (.inl (r.sub _ _ e1)),.inl (.inl (r.sub _ _ e2)),a2,b2,bx e r h⟩
  ·exact h.elim
 ·exact h.elim
theorem Wh:ow K (λx y H Q=>y= .bw/\Q (.bl (decide (x= .bw))) H) Ql:=by
 intro G0 L0 H0 G L M H v1 v2 d1 d2 q e r n1 n2 h;unfold Ql at h;split at h
 ·cases n1;exact ⟨n2,fin_same (d:= .bl true) e r (by show V.bl _=V.bl _;rw [decide_eq_true rfl]) h⟩
 ·cases n1;exact ⟨n2,fin_same (d:= .bl false) e r (by show V.bl _=V.bl _;rw [decide_eq_false (λz=>nomatch z)]) h⟩
 ·cases n1;exact ⟨n2,fin_same (d:= .bl false) e r (by show V.bl _=V.bl _;rw [decide_eq_false (λz=>nomatch z)]) h⟩
 ·cases n1;exact ⟨n2,fin_same (d:= .bl false) e r (by show V.bl _=V.bl _;rw [decide_eq_false (λz=>nomatch z)]) h⟩
 ·obtain ⟨p1,w1,rfl,_⟩:=n1;exact ⟨n2,fin_same (d:= .bl false) e r (by show V.bl _=V.bl _;rw [decide_eq_false (λz=>nomatch z)]) h⟩
 ·obtain ⟨p1,w1,rfl,_⟩:=n1;exact ⟨n2,fin_same (d:= .bl false) e r (by show V.bl _=V.bl _;rw [decide_eq_false (λz=>nomatch z)]) h⟩
 ·exact h.elim
end
section
variable{X:Cx}{R:St->XK}{a b c:Expr}{ta tb:DE}{pos:Pos}
theorem Ni(ja:JE X R a ta)(jb:JE X R b tb):JE X R (.Compare a [.Lt] [b] pos) (lj VU ta tb):=vy OD ltD ja jb (jo _)
theorem Ac(ja:JE X R a ta)(jb:JE X R b tb):JE X R (.Compare a [.LtE] [b] pos) (lj XU ta tb):=vy UD leD ja jb (jo _)
theorem WL(ja:JE X R a ta)(jb:JE X R b tb):JE X R (.Compare a [.GtE] [b] pos) (lj Xj ta tb):=vy T7 geD ja jb (jo _)
theorem Io{k:Nat}(hr:bM k X.A)(ja:JE X R a ta)(jb:JE X R b tb):JE X R (.Compare a [.Eq] [b] pos) (lj Bx ta tb):=vy (NW.or (KR hr.B9)) RW ja jb (jo _)
theorem vp(ja:JE X R a ta)(jb:JE X R b tb):JT X R (.Compare a [.Lt] [b] pos) (oP (lj VU ta tb)):=js OD ltD ja jb (jo _)
theorem ES(ja:JE X R a ta)(jb:JE X R b tb):JT X R (.Compare a [.Gt] [b] pos) (oP (lj W6 ta tb)):=js TY gtD ja jb (jo _)
theorem e6{k:Nat}(hr:bM k X.A)(ja:JE X R a ta)(jb:JE X R b tb):JT X R (.Compare a [.Eq] [b] pos) (oP (lj Bx ta tb)):=js (NW.or (KR hr.B9)) RW ja jb (jo _)
theorem rH{k:Nat}(hr:bM k X.A)(ja:JE X R a ta)(jb:JE X R b tb):JT X R (.Compare a [.NotEq] [b] pos) (oP (lj Mg ta tb)):=js (SY.or (QL hr.B9)) WJ ja jb (jo _)
theorem J9(ja:JE X R a ta)(jb:JE X R b tb):JT X R (.Compare a [.Is] [b] pos) (oP (lj Ql ta tb)):=js Qi Wh ja jb (jo _)
end
def kU(M:Ms):Dt->Option (List Dt)
 |.lst xs=>some xs
 |.tup xs=>some xs
 |.kj ns=>some (ns.map .int)
 |.kt xs=>some xs
 |.loc k=>match M[k]? with
  |some (.lst xs)=>some xs
  |_=>none
 |_=>none
theorem nj{K:fI}{G:Hp}{L:List Addr}{M:Ms}{H:Hp}{d:Dt}{v:V}{xs:List Dt}(r:Rl K G L M H)(n:Den K G L d v)(h:kU M d=some xs):∃a vs,v= .ref a/\(gu K H a vs\/m_ K H a vs)/\Χ K G L xs vs:=by
 cases d with
 |lst ds=>cases h;obtain ⟨a,vs,rfl,e,m⟩:=n;exact ⟨a,vs,rfl,.inl (.of (r.sub _ _ e)),m⟩
 |tup ds=>cases h;obtain ⟨a,vs,rfl,e,m⟩:=n;exact ⟨a,vs,rfl,.inr (.of (r.sub _ _ e)),m⟩
 |kt ds=>cases h;obtain ⟨a,vs,rfl,e,m⟩:=n;exact ⟨a,vs,rfl,.inr (r.sub.Si e),m⟩
 |kj ns=>cases h;obtain ⟨a,rfl,e⟩:=n;exact ⟨a,_,rfl,.inl (r.sub.seq e),iR⟩
 |loc k=>
  obtain ⟨a,rfl,e⟩:=n;have h:(match M[k]? with|some (.lst xs)=>some xs|_=>none)=some xs:=h;split at h
  ·rename_i ys hm;cases h;obtain ⟨_,vs,e1,m1⟩:=r.gD k a _ e hm;exact ⟨a,vs,rfl,.inl (.of e1),m1⟩
  ·cases h
 |_=>cases h
theorem NM{K:fI}{G:Hp}{L:List Addr}{ds:List Dt}{vs:List V}{i:Int}{d:Dt}(n:Χ K G L ds vs)(h:oJ ds i=some d):∃v,oJ vs i=some v/\Den K G L d v:=by
 unfold oJ at h⊢;rw [<-n.length];cases q:Ih ds.length i with
 |none=>rw [q] at h;cases h
 |some j=>
  rw [q] at h;obtain ⟨v,e,m⟩:=n.get h;exact ⟨v,e,m⟩
def fV:Dt->Dt->Ms->DQ->Prop
 |.str z,.int i,M,q=>z.length<=sizeLine/\match oJ z.cps.toList i with
  |some c=>q (.str ⟨#[c]⟩) M
  |none=>False
 |d,.int i,M,q=>match kU M d with
  |some xs=>(match oJ xs i with
   |some y=>q y M
   |none=>False)
  |none=>False
 |_,_,_,_=>False
def iD:List Dt->Ms->DQ->Prop
 |[.str z],M,q=>z.length<=sizeLine/\q (.int z.length) M
 |[d],M,q=>match kU M d with
  |some xs=>q (.int xs.length) M
  |none=>False
 |_,_,_=>False
section
variable{K:fI}
theorem ixD:ow K (ZJ K) fV:=by
 intro G0 L0 H0 G L M H v1 v2 d1 d2 q e r n1 n2 h;unfold fV at h;split at h
 ·rename_i z i;split at h
  ·rename_i c hc;exact .inr (.inr ⟨z,i,c,n1,n2,h.1,hc,bx e r h.2⟩)
  ·exact h.2.elim
 ·rename_i d i _;split at h
  ·rename_i xs hx;split at h
   ·rename_i y hy;obtain ⟨a,vs,rfl,hs,m⟩:=nj r n1 hx;obtain ⟨v,e1,m1⟩:=NM m hy;rcases hs with hs|hs
    ·exact .inl ⟨a,vs,i,v,rfl,n2,hs,e1,fin_same e r m1 h⟩
    ·exact .inr (.inl ⟨a,vs,i,v,rfl,n2,hs,e1,fin_same e r m1 h⟩)
   ·exact h.elim
  ·exact h.elim
 ·exact h.elim
theorem WS:DN K (λxs H Q=>(∃z,xs=[V.str z]/\z.length<=sizeLine/\Q (.int z.length) H)\/(∃p ys,xs=[V.ref p]/\(gu K H p ys\/m_ K H p ys)/\Q (.int ys.length) H)) iD:=by
 intro G0 L0 H0 G L M H vs ds q e r n h;unfold iD at h;split at h
 ·rename_i z;obtain ⟨v,rfl,n1⟩:=bo n;cases n1;exact .inl ⟨z,rfl,h.1,bx e r h.2⟩
 ·rename_i d _;obtain ⟨v,rfl,n1⟩:=bo n;split at h
  ·rename_i xs hx;obtain ⟨a,ws,rfl,hs,m⟩:=nj r n1 hx;exact .inr ⟨a,ws,rfl,hs,fin_same (d:= .int xs.length) e r (by show V.int _=V.int _;rw [m.length]) h⟩
  ·exact h.elim
 ·exact h.elim
end
section
variable{X:Cx}{R:St->XK}{a b c:Expr}{ta tb:DE}{pos:Pos}
theorem Ν(ja:JE X R a ta)(jb:JE X R b tb)(hs:wc b:=by exact λ_ _=>rfl):JE X R (.Subscript a b pos) (lj fV ta tb):=Ui P1 ixD ja jb hs
variable{x:Str}{p:Pos}{e:Expr}{es:List Expr}{t:DA}{id T:String}{r:List V->Hp->VK->Prop}{f:List Dt->Ms->DQ->Prop}
theorem h9(hc:dw X (.builtin id) r)(cd:DN X.K r f)(hm:X.mg x=none)(hv:bootBuiltins x=some (.builtin id))(ha:JA X R (e::es) t)(hg:Gl X x:=by rfl)(hn:x≠"__name__":=by decide)(uJ:(x==("__debug__":Str))=false:=by decide)
  (he:starEach (e::es) X.env=(false,eval e X.env)::starEach es X.env:=by rfl) (gq:(backTo pos (starEach es X.env)).any (·.1)=false:=by rfl):JE X R (.Call (.Name x p) (e::es) [] pos) (C4 f t):=
 .of (Iu hc hg hm hv ha hn uJ he gq) λσ H G L ρ M q x r n h hx=>N7 cd r n h hx
theorem rL(hc:dw X (.type T) r)(cd:DN X.K r f)(hm:X.mg x=none)(hv:bootBuiltins x=some (.type T))(ha:JA X R (e::es) t)(hg:Gl X x:=by rfl)(hn:x≠"__name__":=by decide)(uJ:(x==("__debug__":Str))=false:=by decide)
  (he:starEach (e::es) X.env=(false,eval e X.env)::starEach es X.env:=by rfl) (gq:(backTo pos (starEach es X.env)).any (·.1)=false:=by rfl):JE X R (.Call (.Name x p) (e::es) [] pos) (C4 f t):=
 .of (Gg hc hg hm hv ha hn uJ he gq) λσ H G L ρ M q x r n h hx=>N7 cd r n h hx
theorem c8(hm:X.mg "len"=none)(ha:JA X R [e] t)(he:starEach [e] X.env=(false,eval e X.env)::starEach [] X.env:=by rfl)(gq:(backTo pos (starEach [] X.env)).any (·.1)=false:=by rfl)(hg:Gl X "len":=by rfl):JE X R (.Call (.Name "len" p) [e] [] pos) (C4 iD t):=
 h9 (wM.or wR) WS hm PySem.boot_len ha hg (by decide) (by decide) he gq
end
section
variable{X:Cx}
theorem w4:dw X (.type "int") (λxs H Q=>∃x n,xs=[.str x]/\PySem.intText? x=some n/\x.length<=640/\Q (.int n) H):=by intro ζ s σ H xs us Q I rs h;obtain ⟨x,n,rfl,hn,hl,q⟩:=h;obtain ⟨w,rfl,u,rfl⟩:=kX rs;exact PySem.W.KIN.call_text hn hl ⟨.int n,H,I.tok _,⟨_,rfl⟩,q⟩
end
def yU:List Dt->Ms->DQ->Prop
 |[.int i],M,q=>q (.int i) M
 |[.bl b],M,q=>q (.int (if b then 1 else 0)) M
 |[.str x],M,q=>x.length<=640/\match PySem.intText? x with
  |some n=>q (.int n) M
  |none=>False
 |_,_,_=>False
def P6:List Dt->Ms->DQ->Prop
 |[.int i],M,q=>q (.int (if i<0 then -i else i)) M
 |_,_,_=>False
def Jj:List Dt->Ms->DQ->Prop
 |[.int i,.int j],M,q=>q (.int (if j<i then j else i)) M
 |_,_,_=>False
def QW:List Dt->Ms->DQ->Prop
 |[d],M,q=>∃bs:List Bool,kU M d=some (bs.map Dt.bl)/\(∀k,d≠ .kt k)/\(∀k,d≠ .tup k)/\q (.bl (bs.any id)) M
 |_,_,_=>False
def OB:Dt->Option Value
 |.bw=>some (.type "NoneType")
 |.bl _=>some (.type "bool")
 |.int _=>some (.type "int")
 |.str _=>some (.type "str")
 |.lst _=>some (.type "list")
 |.tup _=>some (.type "tuple")
 |_=>none
def T5:Dt->Option Value
 |.ty T=>some (.type T)
 |.ref C=>some (.ref C)
 |_=>none
section
variable{K:fI}
theorem u6{G:Hp}{L:List Addr}:∀{l:List Str},Χ K G L (l.map Dt.str) (l.map V.str)
 |[]=>rfl
 |_::_=>⟨_,_,rfl,rfl,u6⟩
theorem nG{G:Hp}{L:List Addr}:∀{bs:List Bool}{vs:List V},Χ K G L (bs.map Dt.bl) vs->vs=bs.map V.bl
 |[],_,h=>h
 |b::bs,_,⟨v,r,e,h1,h2⟩=>by subst e;rw [nG h2,show v=V.bl b from h1];rfl
theorem Zx:DN K (λxs H Q=>((∃i,xs=[V.int i]/\Q (.int i) H)\/∃k,xs=[V.bl k]/\Q (.int (if k then 1 else 0)) H)\/∃x n,xs=[V.str x]/\PySem.intText? x=some n/\x.length<=640/\Q (.int n) H) yU:=by
 intro G0 L0 H0 G L M H vs ds q e r n h;unfold yU at h;split at h
 ·rename_i i;obtain ⟨v,rfl,n1⟩:=bo n;cases n1;exact .inl (.inl ⟨i,rfl,bx e r h⟩)
 ·rename_i i;obtain ⟨v,rfl,n1⟩:=bo n;cases n1;exact .inl (.inr ⟨i,rfl,bx e r h⟩)
 ·rename_i x;obtain ⟨v,rfl,n1⟩:=bo n;cases n1;split at h
  ·rename_i m hm;exact .inr ⟨x,m,rfl,hm,h.1,bx e r h.2⟩
  ·exact h.2.elim
 ·exact h.elim
theorem WK:DN K (λxs H Q=>∃i,xs=[V.int i]/\Q (.int (if i<0 then -i else i)) H) P6:=by
 intro G0 L0 H0 G L M H vs ds q e r n h;unfold P6 at h;split at h
 ·rename_i i;obtain ⟨v,rfl,n1⟩:=bo n;cases n1;exact ⟨i,rfl,bx e r h⟩
 ·exact h.elim
theorem Zy:DN K (λxs H Q=>∃i j,xs=[V.int i,.int j]/\Q (.int (if j<i then j else i)) H) Jj:=by
 intro G0 L0 H0 G L M H vs ds q e r n h;unfold Jj at h;split at h
 ·rename_i i j;obtain ⟨v,u,rfl,n1,n2⟩:=gP n;cases n1;cases n2;exact ⟨i,j,rfl,bx e r h⟩
 ·exact h.elim
theorem Xf:DN K (U8 K) QW:=by
 intro G0 L0 H0 G L M H vs ds q e r n h;unfold QW at h;split at h
 ·rename_i d;obtain ⟨bs,hs,nk,nt,h⟩:=h;obtain ⟨v,rfl,n1⟩:=bo n;cases d with
  |lst xs=>
   cases hs;obtain ⟨a,ws,rfl,e1,m⟩:=n1;exact ⟨a,bs,rfl,by rw [<-nG m];exact .of (r.sub _ _ e1),bx e r h⟩
  |loc k=>
   obtain ⟨a,rfl,e1⟩:=n1;have hs:(match M[k]? with|some (.lst xs)=>some xs|_=>none)=some (bs.map Dt.bl):=hs;split at hs
   ·rename_i ys hm;cases hs;obtain ⟨_,ws,e2,m⟩:=r.gD k a _ e1 hm;exact ⟨a,bs,rfl,by rw [<-nG m];exact .of e2,bx e r h⟩
   ·cases hs
  |tup xs=>exact absurd rfl (nt xs)
  |kt xs=>exact absurd rfl (nk xs)
  |kj ns=>
   have e0:ns.map Dt.int=bs.map Dt.bl:=aav hs;cases ns with
   |nil=>
    cases bs with
    |nil=>obtain ⟨a,rfl,e1⟩:=n1;exact ⟨a,[],rfl,r.sub.seq e1,bx e r h⟩
    |cons _ _=>cases e0
   |cons _ _=>
    cases bs with
    |nil=>cases e0
    |cons _ _=>cases e0
  |_=>cases hs
 ·exact h.elim
theorem G7{G:Hp}{L:List Addr}{M:Ms}{H:Hp}{d:Dt}{v:V}{t:Value}(r:Rl K G L M H)(n:Den K G L d v)(h:OB d=some t):lD K H v t:=by
 cases d with
 |bw=>cases h;cases n;exact .bw
 |bl b=>cases h;cases n;exact .bl _
 |int i=>cases h;cases n;exact .int _
 |str x=>cases h;cases n;exact .str _
 |lst xs=>cases h;obtain ⟨a,ws,rfl,e,_⟩:=n;exact .lst (r.sub _ _ e)
 |tup xs=>cases h;obtain ⟨a,ws,rfl,e,_⟩:=n;exact .tup (r.sub _ _ e)
 |_=>cases h
theorem NC{G:Hp}{L:List Addr}{d:Dt}{v:V}{t:Value}(n:Den K G L d v)(h:T5 d=some t):Nk v=some t:=by
 cases d with
 |ty T=>cases n;exact h
 |ref C=>cases n;exact h
 |_=>cases h
end
section
variable{X:Cx}{R:St->XK}{o a e e1 e2:Expr}{es:List Expr}{to ta te:DE}{t:DA}{name:Str}{apos cL pos p p2:Pos}{T id:String}
theorem uL:bootBuiltins "int"=some (.type "int"):=by decide+kernel
theorem Gh:bootBuiltins "abs"=some (.builtin "abs"):=by decide+kernel
theorem Gq:bootBuiltins "any"=some (.builtin "any"):=by decide+kernel
theorem Fd:bootBuiltins "min"=some (.builtin "min"):=by decide+kernel
theorem pC:bootBuiltins "isinstance"=some (.builtin "isinstance"):=by decide+kernel
theorem Cq:bootBuiltins "bool"=some (.type "bool"):=by decide+kernel
theorem Az:bootBuiltins "tuple"=some (.type "tuple"):=by decide+kernel
theorem sk:bootBuiltins "list"=some (.type "list"):=by decide+kernel
theorem Mi{x:Str}{T:String}(hm:X.mg x=none)(hv:bootBuiltins x=some (.type T))(hg:Gl X x:=by rfl)(hn:x≠"__name__":=by decide)(hd:(x==("__debug__":Str))=false:=by decide):JE X R (.Name x p) (dC (.ty T)):=Pm (Nx (v:= .ty T) hg hm hv rfl hn hd) λ_ _=>rfl
theorem tI{x:Str}{z:Int}(hm:∃tk,X.mg x=some (.int z tk))(hg:Gl X x:=by rfl)(hd:(x==("__debug__":Str))=false:=by decide):JE X R (.Name x p) (dC (.int z)):=let ⟨tk,hm⟩:=hm;Pm (Dm (v:= .int z) hg hm ⟨tk,rfl⟩ hd) λ_ _=>rfl
end
def Vg(x:Str):It:=⟨λi _=>i<x.cps.size,λi H v H'=>H'=H/\∃c,x.cps[i]? =some c/\v= .str ⟨#[c]⟩,λi _=>x.cps.size<=i⟩
theorem EY{P:Program}{w:World}{K:fI}{tg:Expr}(x:Str)(t:Tok)(it:Addr):Turn P w K tg (Vg x) [it] it (λi h=>h.IsStrIter it "str_ascii_iterator" x t i) where
 mem:=by simp
 obj:=λi h st b hb=>by
  have e:b=it:=by simpa using hb
  subst e;obtain ⟨o,e,c,d⟩:=st;exact ⟨o,e,λv z=>by rw [d] at z;cases z⟩
 keep:=λi h h' st k=>let ⟨o,ho,r⟩:=st;⟨o,k it (by simp) o ho,r⟩
 item:=by intro X hP hw hK hc i ζ s σ H E I hf st hg;subst hP hw hK;obtain ⟨f0,f1,f2,f3,f4,f5⟩:=hf it (by simp);have hg:i<x.cps.size:=hg;refine wpAny_pyNext_ascii_item st (c:=x.cps[i]) (by simp [hg]) λh' xT sb=>?_;have I1:Inv X ζ σ H {s with heap:=h',toks:=s.toks+1}:=I.turned (λb o hb e=>(sb.2 b hb).trans e) f0 f1 f3 f4 f5;obtain ⟨o,e,c,d⟩:=id xT;exact ⟨_,rfl,vk (s:={s with heap:=h',toks:=s.toks+1}) e c d (by decide) ⟨.str ⟨#[x.cps[i]]⟩,H,I1,⟨_,rfl⟩,⟨rfl,_,by simp [hg],rfl⟩,xT,λb hb=>(hf b hb).1⟩⟩
 done:=by intro X hP hw hK hc i ζ s σ H E I hf st hg;subst hP hw hK;obtain ⟨f0,f1,f2,f3,f4,f5⟩:=hf it (by simp);have hg:x.cps.size<=i:=hg;exact wpAny_pyNext_ascii_end (I.ok.hd hc) st (by simp;omega) λh' eb=>⟨rfl,I.turned (t':=s.toks) (λb o hb e=>eb b o hb e) f0 f1 f3 f4 f5⟩
 self:=λ_ _ _ _ _ st h=>wpAny_pyIter_striter_ascii st h
theorem Ff{P:Program}{w:World}{K:fI}{tg:Expr}(x:Str)(t:Tok)(it:Addr):Turn P w K tg (Vg x) [it] it (λi h=>h.IsStrIter it "str_iterator" x t i) where
 mem:=by simp
 obj:=λi h st b hb=>by
  have e:b=it:=by simpa using hb
  subst e;obtain ⟨o,e,c,d⟩:=st;exact ⟨o,e,λv z=>by rw [d] at z;cases z⟩
 keep:=λi h h' st k=>let ⟨o,ho,r⟩:=st;⟨o,k it (by simp) o ho,r⟩
 item:=by intro X hP hw hK hc i ζ s σ H E I hf st hg;subst hP hw hK;obtain ⟨f0,f1,f2,f3,f4,f5⟩:=hf it (by simp);have hg:i<x.cps.size:=hg;refine wpAny_pyNext_wide_item st (c:=x.cps[i]) (by simp [hg]) λh' xT sb=>?_;have I1:Inv X ζ σ H {s with heap:=h',toks:=s.toks+1}:=I.turned (λb o hb e=>(sb.2 b hb).trans e) f0 f1 f3 f4 f5;obtain ⟨o,e,c,d⟩:=id xT;exact ⟨_,rfl,vk (s:={s with heap:=h',toks:=s.toks+1}) e c d (by decide) ⟨.str ⟨#[x.cps[i]]⟩,H,I1,⟨_,rfl⟩,⟨rfl,_,by simp [hg],rfl⟩,xT,λb hb=>(hf b hb).1⟩⟩
 done:=by intro X hP hw hK hc i ζ s σ H E I hf st hg;subst hP hw hK;obtain ⟨f0,f1,f2,f3,f4,f5⟩:=hf it (by simp);have hg:x.cps.size<=i:=hg;exact wpAny_pyNext_wide_end (I.ok.hd hc) st (by simp;omega) λh' eb=>⟨rfl,I.turned (t':=s.toks) (λb o hb e=>eb b o hb e) f0 f1 f3 f4 f5⟩
 self:=λ_ _ _ _ _ st h=>wpAny_pyIter_striter_wide st h
def yh(z:Str):List Dt:=z.cps.toList.map λc=>Dt.str ⟨#[c]⟩
theorem Ro{K:fI}{G:Hp}{L:List Addr}{z:Str}:Yl K (Vg z) (yh z) G L where
 go :=λi G1 L1 M1 H1 d g l r e=>by
  unfold yh at e;rw [aal] at e;cases q:z.cps.toList[i]? with
  |none=>rw [q] at e;cases e
  |some c=>
   rw [q] at e;cases e;have hi:i<z.cps.size:=by have:=(aaf.mp q).1;simpa using this
   refine ⟨hi,λv' H' ⟨eH,c',e',y⟩=>?_⟩;subst eH y;have:c'=c:=by rw [<-Array.getElem?_toList,q] at e';exact (aav e').symm
   subst this;exact ⟨G1,.refl _ _ _,r,rfl⟩
 stop:=λi G1 L1 M1 H1 g l r e=>by unfold yh at e;show z.cps.size<=i;simpa using e
def Tv(M:Ms):Dt->Option (List Dt)
 |.lst xs=>some xs
 |.tup xs=>some xs
 |.kj ns=>some (ns.map .int)
 |.kt xs=>some xs
 |.str z=>some (yh z)
 |_=>none
section
variable{X:Cx}{R:St->XK}{tg e:Expr}{te:DE}
theorem wU{ζ:List (Addr×Obj)}{σ:St}{H:Hp}{s:Shared}{a:Addr}{vs:List V}{Q:It->Hp->Prop}{E:Value->Shared->Prop}(I:Inv X ζ σ H s)(hq:gu X.K H a vs)(q:Q (Vm X.K a) H):wpAny (model X.prog X.w) X.A (pyIter (.ref a)) (Lk X ζ σ tg Q) E s:=by
 obtain ⟨its,rv,p,hz⟩:=I.list hq;refine wpAny_pyIter_list p.isList ?_;refine ⟨s.heap.objs.size,[s.heap.objs.size],_,_,H,rfl,I.kept (t':=s.toks) λb o e=>Heap.get?_push_of_some _ e,Gb a _,⟨_,Heap.get?_push_size _ rfl,rfl,rfl⟩,λb hb=>?_,q⟩;have e:b=s.heap.objs.size:=by simpa using hb
 subst e;exact I.BG (aai _) (I.aY.fresh (aai _))
theorem Kt{ζ:List (Addr×Obj)}{σ:St}{H:Hp}{s:Shared}{a:Addr}{vs:List V}{Q:It->Hp->Prop}{E:Value->Shared->Prop}(I:Inv X ζ σ H s)(hq:m_ X.K H a vs)(q:Q (Wm X.K a) H):wpAny (model X.prog X.w) X.A (pyIter (.ref a)) (Lk X ζ σ tg Q) E s:=by
 obtain ⟨its,rv,p,hz⟩:=I.tuple hq;refine wpAny_pyIter_tuple (show s.heap.IsTuple a its.toArray from p) ?_;refine ⟨s.heap.objs.size,[s.heap.objs.size],_,_,H,rfl,I.kept (t':=s.toks) λb o e=>Heap.get?_push_of_some _ e,Cn a _,⟨_,Heap.get?_push_size _ rfl,rfl,rfl⟩,λb hb=>?_,q⟩;have e:b=s.heap.objs.size:=by simpa using hb
 subst e;exact I.BG (aai _) (I.aY.fresh (aai _))
theorem Pu{ζ:List (Addr×Obj)}{σ:St}{H:Hp}{s:Shared}{z:Str}{t:Tok}{Q:It->Hp->Prop}{E:Value->Shared->Prop}(I:Inv X ζ σ H s)(q:Q (Vg z) H):wpAny (model X.prog X.w) X.A (pyIter (.str z t)) (Lk X ζ σ tg Q) E s:=by
 have fp:∀b∈[s.heap.objs.size],tR X ζ H b:=λb hb=>by
  have e:b=s.heap.objs.size:=by simpa using hb
  subst e;exact I.BG (aai _) (I.aY.fresh (aai _))
 cases ha:z.cps.all (· < 128)
 ·exact wpAny_pyIter_wide ha ⟨s.heap.objs.size,[s.heap.objs.size],_,_,H,rfl,I.kept (t':=s.toks) λb o e=>Heap.get?_push_of_some _ e,Ff z t _,⟨_,Heap.get?_push_size _ rfl,rfl,rfl⟩,fp,q⟩
 ·exact wpAny_pyIter_ascii ha ⟨s.heap.objs.size,[s.heap.objs.size],_,_,H,rfl,I.kept (t':=s.toks) λb o e=>Heap.get?_push_of_some _ e,EY z t _,⟨_,Heap.get?_push_size _ rfl,rfl,rfl⟩,fp,q⟩
end
def QN:DF:=λds _ q _=>∃ns:List Int,ds=[.kj ns]/\ns.length<=63/\∀M',q (.bl true) M'
def yZ(K:fI):Sp:=λvs H Q _=>∃(a:Addr) (ns:List Int),vs=[.ref a]/\gu K H a (ns.map V.int)/\ns.length<=63/\∀H',Q (.bl true) H'
theorem Pn{P:Program}{w:World}{K:fI}{mg:Str->Option Value}{base:Heap}{k:Nat}{f:Addr}{fd:FuncData}{x:Str}(F:ah P w K mg base (bU P w) k f fd [x] (cC K QN)):ah P w K mg base Vj k f fd [x] (yZ K):=by
 have sp:∀vs H Q E,yZ K vs H Q E->cC K QN vs H Q E0:=by rintro vs H Q E ⟨a,ns,rfl,hS,hl,hQ⟩;refine ⟨H,[],[.kj ns],[],λd _=>d= .bl true,λ_ _ _=>False,⟨.refl _,rfl,List.nodup_nil,λk a m h=>by simp at h⟩,⟨_,_,rfl,⟨a,rfl,hS⟩,rfl⟩,⟨ns,rfl,hl,λ_=>rfl⟩,λv H' ⟨d,G',L',M',_,_,n,e⟩=>?_,λ_ _ _ _ _ _ _ h=>h.elim⟩;subst e;rw [show v=V.bl true from n];exact hQ H'
 refine ⟨λvs H Q E h=>F.len vs H Q E0 (sp vs H Q E h),λA outer s H args us vs Q E hr he hb hv h=>codeAny_mono (F.run A outer s H args us vs Q E0 hr he hb hv (sp vs H Q E h)) λr s' hq=>?_⟩;cases r with
 |error e=>
  obtain ⟨_,_,_,_,_,_,_,_,hE⟩:=hq;exact hE.elim
 |ok fl=>cases fl <;> exact hq
def OQ(c:DT)(tb:DS):DS:=λDn ρ M=>∃W:Nat->En->Ms->Prop,(∃m,W m ρ M)/\∀m ρ M,W m ρ M->
 c ρ M (λb M1=>(b=true->∃N:En->Ms->Prop,(∀ρ' M',N ρ' M'->∃m',m'<m/\W m' ρ' M')/\tb {Dn with nx:=N,ct:=N,bk:=Dn.nx} ρ M1)/\(b=false->Dn.nx ρ M1)) Dn.x
def W9(i j:Nat)(t:DA):DS:=λDn ρ M=>t ρ M (λds M1=>match ds with
 |[a,b]=>Dn.nx ((ρ.set i (some a)).set j (some b)) M1
 |_=>False) Dn.x
section
variable{X:Cx}{R:St->XK}{c a b:Expr}{body:List Stmt}{tc:DT}{tb:DS}{pos:Pos}
theorem nE(hc:JT X R c tc)(hb:CU X R body tb)(hp:PassesOwn (model X.prog X.w) X.A X.env X.xe:=by first|exact PassesOwn.never|exact PassesOwn.leaving):JS X R (.While c body [] pos) (OQ tc tb):= .of (IU hp hc hb) λσ H G L ρ M Dn rl n h hx=>by
 obtain ⟨W,⟨m0,w0⟩,turn⟩:=h;refine ⟨λm σ' H'=>e9 X.K G L H (W m) σ' H',⟨m0,ρ,G,L,M,.refl _ _ _,rl,n,w0⟩,λm σ' H' ⟨ρ',G',L',M',e',r',n',w'⟩=>?_⟩;refine ⟨G',L',ρ',M',_,_,r',n',turn m ρ' M' w',hx.on e',λv H1 ⟨G1,L1,M1,e1,r1,h1⟩=>?_⟩;cases v with
 |true=>
  obtain ⟨N,hN,hb⟩:=h1.1 rfl;refine EX ⟨e9 X.K G L H N,λσ2 H2 ⟨ρ2,G2,L2,M2,e2,r2,n2,h2⟩=>?_,?_⟩
  ·obtain ⟨m',hm,w2⟩:=hN ρ2 M2 h2;exact ⟨m',hm,ρ2,G2,L2,M2,e2,r2,n2,w2⟩
  ·have T1:=e'.trans e1;exact ⟨G1,L1,ρ',M1,_,r1,n'.mono e1,hb,hx.on T1,⟨λ_ _ f=>e9.back T1 f,λ_ _ f=>Fin.back T1 f,λ_ _ f=>e9.back T1 f,λ_ _ f=>e9.back T1 f⟩⟩
 |false=>exact GJ ⟨ρ',G1,L1,M1,e'.trans e1,r1,n'.mono e1,h1.2 rfl⟩
theorem J7{i j:Nat}{x y:Str}{t:DA}{px py pt:Pos}{kt k2 QZ}(hN:X.N.Nodup)(hi:X.N[i]? =some x)(hj:X.N[j]? =some y)(ha:JA X R [a,b] t)(YR:i≠j:=by decide)
  (hx:X.env.scope.names.lookup x=some .local:=by rfl) (hy:X.env.scope.names.lookup y=some .local:=by rfl)
  (hw:swappedStores [.Tuple [.Name x px, .Name y py] kt pt] (.Tuple [a,b] k2 QZ) X.env=pure (some [x,y]):=by rfl) (hc:X.calm=true:=by rfl)
  (hs:swapsWithSole [.Tuple [.Name x px, .Name y py] kt pt] (.Tuple [a,b] k2 QZ) pos.line X.env=pure false:=by rfl):
  JS X R (.Assign [.Tuple [.Name x px, .Name y py] kt pt] (.Tuple [a,b] k2 QZ) pos) (W9 i j t):= .of (QE hc hN hi hj YR hx hy ha hw hs) λσ H G L ρ M Dn rl n h hx=>by
 refine ⟨G,L,ρ,M,_,_,rl,n,h,hx,λvs H1 ⟨ds,G1,L1,M1,e1,r1,n1,h1⟩=>?_⟩
 (try dsimp only at h1)
 split at h1
 ·obtain ⟨v,u,rfl,m1,m2⟩:=gP n1;exact ⟨v,u,rfl,_,G1,L1,M1,e1,r1,((n.mono e1).set i m1).set j m2,h1⟩
 ·exact h1.elim
end
section
variable{X:Cx}{R:St->XK}{e e2 o:Expr}{es:List Expr}{t:DA}{to ta tb:DE}{a b:Expr}{p pos apos cL:Pos}
theorem EA(hm:X.mg "abs"=none)(ha:JA X R [e] t)(he:starEach [e] X.env=(false,eval e X.env)::starEach [] X.env:=by rfl)(gq:(backTo pos (starEach [] X.env)).any (·.1)=false:=by rfl)(hg:Gl X "abs":=by rfl):JE X R (.Call (.Name "abs" p) [e] [] pos) (C4 P6 t):=
 h9 KW WK hm Gh ha hg (by decide) (by decide) he gq
theorem T8(hm:X.mg "min"=none)(ha:JA X R [e,e2] t)(hc:X.calm=true:=by rfl)(he:starEach [e,e2] X.env=(false,eval e X.env)::starEach [e2] X.env:=by rfl)(gq:(backTo pos (starEach [e2] X.env)).any (·.1)=false:=by rfl)(hg:Gl X "min":=by rfl):JE X R (.Call (.Name "min" p) [e,e2] [] pos) (C4 Jj t):=
 h9 (E_ hc) Zy hm Fd ha hg (by decide) (by decide) he gq
theorem Ub(hm:X.mg "any"=none)(ha:JA X R [e] t)(hc:X.calm=true:=by rfl)(he:starEach [e] X.env=(false,eval e X.env)::starEach [] X.env:=by rfl)(gq:(backTo pos (starEach [] X.env)).any (·.1)=false:=by rfl)(hg:Gl X "any":=by rfl):JE X R (.Call (.Name "any" p) [e] [] pos) (C4 QW t):=
 h9 (Ke hc) Xf hm Gq ha hg (by decide) (by decide) he gq
theorem N6(hm:X.mg "int"=none)(ha:JA X R [e] t)(he:starEach [e] X.env=(false,eval e X.env)::starEach [] X.env:=by rfl)(gq:(backTo pos (starEach [] X.env)).any (·.1)=false:=by rfl)(hg:Gl X "int":=by rfl):JE X R (.Call (.Name "int" p) [e] [] pos) (C4 yU t):=
 rL (Gj.or w4) Zx hm uL ha hg (by decide) (by decide) he gq
end
theorem oN{te:DE}{cs:En}{f:Dt->Dt}{M:Ms}{k:List Dt->Ms->Prop}:∀(xs Ζ:List Dt),(∀x∈xs,∀q:DQ,q (f x) M->te (some x::cs) M q k4)->k (Ζ++xs.map f) M->yW te cs xs Ζ M k
 |[],Ζ,_,h=>by rw [List.map_nil,aaZ] at h;exact h
 |x::xs,Ζ,ht,h=>ht x List.mem_cons_self _ (oN xs (Ζ++[f x]) (λy hy=>ht y (List.mem_cons_of_mem _ hy)) (by simpa using h))
theorem Ι{d y:Dt}{xs:List Dt}{i:Int}{M:Ms}{q:DQ}(hs:kU M d=some xs)(h:oJ xs i=some y)(k:q y M):fV d (.int i) M q:=by
 cases d with
 |str z=>cases hs
 |_=>
  unfold fV;simp only [hs,h];exact k
theorem aE{d:Dt}{xs:List Dt}{M:Ms}{q:DQ}(hs:kU M d=some xs)(k:q (.int xs.length) M):iD [d] M q:=by
 cases d with
 |str z=>cases hs
 |_=>
  unfold iD;simp only [hs];exact k
theorem bq{α:Type}{x:α}{xs:List α}:oJ (x::xs) 0=some x:=Θ (j:=0) rfl
theorem Hm(bs:List Bool):(List.range bs.length).all (λi=>bs.getD i false)=bs.all id:=by
 induction bs with
 |nil=>rfl
 |cons b bs ih=>
  rw [aax,abA,abL,List.all_map,abL,<-ih];rfl
def Sy(K:fI):List V->Hp->VK->Prop:=λxs H Q=>∃(p:Addr) (bs:List Bool),xs=[.ref p]/\gu K H p (bs.map V.bl)/\Q (.bl (bs.all id)) H
section
variable{X:Cx}
theorem Kk (hc : X.calm = true) : dw X (.builtin "all") (Sy X.K) := by
  intro ζ s σ H xs us Q I r h;obtain ⟨p, bs, rfl, hq, q⟩ := h;obtain ⟨u, rfl, r1⟩ := kX r;cases r1;obtain ⟨its, rv, pl, hz⟩ := I.list hq;have PY := xa rv;subst PY;refine call_all_walk (wpAny_pyIter_list pl.isList ?_);have lp : p<s.heap.objs.size := by obtain ⟨o, e, _⟩ := pl.isList; exact Heap.lt_size e
  refine ⟨s.heap.objs.size, _, _, _, _, _, λi => bs.getD i false, rfl, Walks.list (show X.A.in1.handled = none from I.ok.hd hc) s.heap.objs.size p (aaI lp) (bs.map Value.bool).toArray, ⟨⟨_, Heap.get?_push_size _ rfl, rfl, rfl⟩, pl.isList.at λo e => Heap.get?_push_of_some _ e⟩, zF, λh' tk hk =>?_⟩;refine ⟨.bl (bs.all id), H, I.kept λb o e => hk b o (λz => by have : b = s.heap.objs.size := (by simpa using z); exact Nat.lt_irrefl _ (this ▸ Heap.lt_size e)) (Heap.get?_push_of_some _ e),?_, q⟩;rw [aas, aac, Hm];rfl
end
def PZ:List Dt->Ms->DQ->Prop
 |[.lst xs],M,q=>∃bs:List Bool,xs=bs.map Dt.bl/\q (.bl (bs.all id)) M
 |_,_,_=>False
theorem Yb{K:fI}:DN K (Sy K) PZ:=by
 intro G0 L0 H0 G L M H vs ds q e r n h;unfold PZ at h;split at h
 ·rename_i xs;obtain ⟨bs,rfl,h⟩:=h;obtain ⟨v,rfl,n1⟩:=bo n;obtain ⟨a,ws,rfl,e1,m⟩:=n1;exact ⟨a,bs,rfl,by rw [<-nG m];exact .of (r.sub _ _ e1),bx e r h⟩
 ·exact h.elim
def RU(i j:Nat)(t:DE):DS:=λDn ρ M=>t ρ M (λd M1=>match d with
 |.tup [a,b]=>Dn.nx ((ρ.set i (some a)).set j (some b)) M1
 |_=>False) Dn.x
section
variable{X:Cx}{R:St->XK}{e o:Expr}{es:List Expr}{t:DA}{to te:DE}{p pos apos cL:Pos}
theorem GI:bootBuiltins "all"=some (.builtin "all"):=by decide+kernel
theorem Up(hm:X.mg "all"=none)(ha:JA X R [e] t)(hc:X.calm=true:=by rfl)(he:starEach [e] X.env=(false,eval e X.env)::starEach [] X.env:=by rfl)(gq:(backTo pos (starEach [] X.env)).any (·.1)=false:=by rfl)(hg:Gl X "all":=by rfl):JE X R (.Call (.Name "all" p) [e] [] pos) (C4 PZ t):=
 h9 (Kk hc) Yb hm GI ha hg (by decide) (by decide) he gq
variable{i j k:Nat}{tg:Expr}
theorem MJ(he:JE X R e te)(hg:PG X tg (Km X.K 2 (ot (iY i) (ot (iY j) JM))))(hs:swapsWithSole [tg] e pos.line X.env=pure false:=by rfl)(hw:swappedStores [tg] e X.env=pure none:=by rfl)
  (h1:(assignEach [tg] X.env).map (·.2)=[assign tg X.env]:=by rfl):JS X R (.Assign [tg] e pos) (RU i j te):= .of (JL he hg hs hw h1) λσ H G L ρ M Dn rl n h hx=>by
 refine ⟨G,L,ρ,M,_,_,rl,n,h,hx,λv H1 ⟨d1,G1,L1,M1,e1,r1,n1,h1⟩=>?_⟩
 (try dsimp only at h1)
 split at h1
 ·rename_i a b;obtain ⟨p,vs,rfl,e,m⟩:=n1;obtain ⟨v1,v2,rfl,m1,m2⟩:=gP m;exact ⟨p,_,rfl,.inl (.inl (r1.sub _ _ e)),rfl,v1,_,rfl,v2,_,rfl,rfl,_,G1,L1,M1,e1,r1,((n.mono e1).set i m1).set j m2,h1⟩
 ·exact h1.elim
end
mutual
def Dt.under(n:Nat):Dt->Prop
 |.bw=>True
 |.bl _=>True
 |.int _=>True
 |.str _=>True
 |.tup ds=>Dt.bC n ds
 |.lst ds=>Dt.bC n ds
 |.obj _ _ ds=>Dt.bC n ds
 |.loc k=>k<n
 |.ref _=>True
 |.ty _=>True
 |.kj _=>True
 |.kt ds=>Dt.bC n ds
 |.exc _ _ ds=>Dt.bC n ds
 |.Sl _ _ _ _ ds=>Dt.bC n ds
def Dt.bC(n:Nat):List Dt->Prop
 |[]=>True
 |d::ds=>Dt.under n d/\Dt.bC n ds
end
def MO.under(n:Nat):MO->Prop
 |.lst ds=>Dt.bC n ds
 |.ins _ _ ds=>Dt.bC n ds
 |.fF _ ds=>Dt.bC n ds
 |.raw _=>True
mutual
inductive Hv(n:Nat)(E:Ms):Dt->Dt->Prop
 |old {d:Dt} (h:d.under n):Hv n E d d
 |tup {ds es:List Dt} (h:gI n E ds es):Hv n E (.tup ds) (.tup es)
 |lst {ds es:List Dt} (h:gI n E ds es):Hv n E (.lst ds) (.lst es)
 |obj {C:Addr} {ns:List Str} {ds es:List Dt} (h:gI n E ds es):Hv n E (.obj C ns ds) (.obj C ns es)
 |Aa {k:Nat} {ds es:List Dt} (hk:n<=k) (e:E[k-n]? =some (.lst ds)) (h:gI n E ds es):Hv n E (.loc k) (.lst es)
 |Sb {k:Nat} {C:Addr} {ns:List Str} {ds es:List Dt} (hk:n<=k) (e:E[k-n]? =some (.ins C ns ds)) (h:gI n E ds es):Hv n E (.loc k) (.obj C ns es)
inductive gI(n:Nat)(E:Ms):List Dt->List Dt->Prop
 |nil:gI n E [] []
 |cons {d e:Dt} {ds es:List Dt} (h:Hv n E d e) (t:gI n E ds es):gI n E (d::ds) (e::es)
end
theorem gI.length{n:Nat}{E:Ms}:∀{ds es:List Dt},gI n E ds es->ds.length=es.length
 |[],es,h=>by cases h;rfl
 |d::ds,es,h=>by
  cases h with
  |cons h t=>rw [aax,aax,gI.length t]
theorem gI.old{n:Nat}{E:Ms}:∀{ds:List Dt},Dt.bC n ds->gI n E ds ds
 |[],_=> .nil
 |_::_,h=> .cons (.old h.1) (gI.old h.2)
section
variable{K:fI}{G G':Hp}{L0 t:List Addr}{n:Nat}
mutual
theorem vf(hn:L0.length=n)(g:dI G G'):∀(d:Dt) (v:V),d.under n->Den K G (L0++t) d v->Den K G' L0 d v
 |.bw,_,_,h=>h
 |.bl _,_,_,h=>h
 |.int _,_,_,h=>h
 |.str _,_,_,h=>h
 |.tup ds,_,u,⟨a,vs,e,h1,h2⟩=>⟨a,vs,e,g _ _ h1,bR hn g ds vs u h2⟩
 |.lst ds,_,u,⟨a,vs,e,h1,h2⟩=>⟨a,vs,e,g _ _ h1,bR hn g ds vs u h2⟩
 |.obj C ns ds,_,u,⟨a,dx,vs,e,h1,hl,h2⟩=>⟨a,dx,vs,e,g _ _ h1,hl,bR hn g ds vs u h2⟩
 | .loc k,_,u,⟨a,e,h1⟩=>⟨a,e,by
   have u:k<n:=u
   rwa [aaq (by rw [hn];exact u)] at h1⟩
 |.ref _,_,_,h=>h
 |.ty _,_,_,h=>h
 |.kj _,_,_,⟨a,e,h1⟩=>⟨a,e,g.seq h1⟩
 |.kt ds,_,u,⟨a,vs,e,h1,h2⟩=>⟨a,vs,e,g.Si h1,bR hn g ds vs u h2⟩
 |.exc _ _ ds,_,u,⟨a,od,vs,e,h1,h2,h3,h4⟩=>⟨a,od,vs,e,g _ _ h1,h2.imp (λz=>z) (λ⟨dx,z1,z2⟩=>⟨dx,z1,g _ _ z2⟩),h3,bR hn g ds vs u h4⟩
 |.Sl _ _ _ _ ds,_,u,⟨vs,e,h2,h3,h4⟩=>⟨vs,e,h2.imp (λz=>z) (λ⟨dx,z1,z2⟩=>⟨dx,z1,g _ _ z2⟩),h3,bR hn g ds vs u h4⟩
theorem bR(hn:L0.length=n)(g:dI G G'):∀(ds:List Dt) (vs:List V),Dt.bC n ds->Χ K G (L0++t) ds vs->Χ K G' L0 ds vs
 |[],_,_,h=>h
 |d::ds,_,u,⟨v,r,e,h1,h2⟩=>⟨v,r,e,vf hn g d v u.1 h1,bR hn g ds r u.2 h2⟩
end
theorem Hk{H:Hp}{a:Addr}(hn:L0.length=n)(g:dI G G'){m:MO}(u:m.under n)(h:Hu K G (L0++t) H a m):Hu K G' L0 H a m:=by
 cases m with
 |lst ds=>obtain ⟨vs,e,h⟩:=h;exact ⟨vs,e,bR hn g _ _ u h⟩
 |ins C ns ds=>obtain ⟨dx,vs,e,hl,h⟩:=h;exact ⟨dx,vs,e,hl,bR hn g _ _ u h⟩
 |fF ks ds=>obtain ⟨vs,e,hl,h⟩:=h;exact ⟨vs,e,hl,bR hn g _ _ u h⟩
 |raw u=>exact h
end
open Classical in
noncomputable def qD(G H:Hp)(t:List Addr):Hp:=λb=>if b∈t then H b else G b
theorem DB{G H:Hp}{t:List Addr}{b:Addr}(h:b∈t):qD G H t b=H b:=by unfold qD;rw [if_pos h]
theorem ni{G H:Hp}{t:List Addr}{b:Addr}(h:b∉t):qD G H t b=G b:=by unfold qD;rw [if_neg h]
section
variable{K:fI}{G:Hp}{L0 t:List Addr}{M0 E:Ms}{H:Hp}
theorem iS(r:Rl K G (L0++t) (M0++E) H):dI G (qD G H t):=λb u e=>by
 by_cases hb:b∈t
 ·obtain ⟨_,_,_,_,g,_⟩:=r.x' (a:=b) (aaz _ hb);rw [g] at e;cases e
 ·rw [ni hb];exact e
theorem HI(r:Rl K G (L0++t) (M0++E) H)(hn:L0.length=M0.length){k:Nat}{a:Addr}{m:MO}(hk:M0.length<=k)(e:(L0++t)[k]? =some a)(em:E[k-M0.length]? =some m):qD G H t a=H a/\Hu K G (L0++t) H a m:=by
 have e2:(M0++E)[k]? =some m:=by rw [aan hk];exact em
 obtain ⟨_,q⟩:=r.gD k a m e e2;rw [aan (by rw [hn];exact hk)] at e;exact ⟨DB (aam e),q⟩
theorem MD(r:Rl K G (L0++t) (M0++E) H)(hn:L0.length=M0.length){d d':Dt}(f:Hv M0.length E d d'):∀v,Den K G (L0++t) d v->Den K (qD G H t) L0 d' v:=by
 refine Hv.rec (motive_1:=λd d' _=>∀v,Den K G (L0++t) d v->Den K (qD G H t) L0 d' v) (motive_2:=λds es _=>∀vs,Χ K G (L0++t) ds vs->Χ K (qD G H t) L0 es vs) ?_ ?_ ?_ ?_ ?_ ?_ ?_ ?_ f
 ·exact λ{d} u v h=>vf hn (iS r) d v u h
 ·exact λ{ds es} f ih v ⟨a,vs,e,h1,h2⟩=>⟨a,vs,e,iS r _ _ h1,ih vs h2⟩
 ·exact λ{ds es} f ih v ⟨a,vs,e,h1,h2⟩=>⟨a,vs,e,iS r _ _ h1,ih vs h2⟩
 ·exact λ{C ns ds es} f ih v ⟨a,dx,vs,e,h1,hl,h2⟩=>⟨a,dx,vs,e,iS r _ _ h1,hl.trans f.length,ih vs h2⟩
 ·intro k ds es hk em f ih v ⟨a,e,h1⟩;obtain ⟨o,vs,e1,h2⟩:=HI r hn hk h1 em;exact ⟨a,vs,e,o.trans e1,ih vs h2⟩
 ·intro k C ns ds es hk em f ih v ⟨a,e,h1⟩;obtain ⟨o,dx,vs,e1,hl,h2⟩:=HI r hn hk h1 em;exact ⟨a,dx,vs,e,o.trans e1,hl.trans f.length,ih vs h2⟩
 ·exact λvs h=>h
 ·exact λ{d e ds es} f t ih1 ih2 vs ⟨v,r,e,h1,h2⟩=>⟨v,r,e,ih1 v h1,ih2 r h2⟩
end
def Wc(n:Nat)(q:DQ):DQ:=λd M=>∃M' E d',M=M'++E/\M'.length=n/\(∀m∈M',MO.under n m)/\Hv n E d d'/\q d' M'
theorem Fin.yL{K:fI}{G0:Hp}{L0:List Addr}{M0:Ms}{H0:Hp}{q:DQ}{v:V}{H:Hp}(r0:Rl K G0 L0 M0 H0)(f:Fin K G0 L0 H0 (Wc M0.length q) v H):Fin K G0 L0 H0 q v H:=by
 obtain ⟨d,G,L,M,ex,r,dn,M',E,d',rfl,hl,hu,fz,hq⟩:=f;obtain ⟨t,rfl⟩:=ex.l;have hn:L0.length=M'.length:=by rw [hl];exact r0.len
 have dis:∀b,b∈L0->b∉t:=λb h1 h2=>(acb.mp r.nd).2.2 b h1 b h2 rfl;have sm:=iS r;refine ⟨d',qD G H t,L0,M',⟨ex.g.trans sm,.refl _,λb h1 h2=>?_,ex.out,λb h=> .inl h,ex.DC⟩,⟨λb u e=>?_,hn,(acb.mp r.nd).1,λk a m h1 h2=>?_⟩,MD r hn (hl▸fz) v dn,hq⟩
 ·have hb:b∉t:=λz=>(ex.new b (aaz _ z)).elim (λy=>dis b y z) h2;rw [ni hb];exact ex.fr b h1 h2
 ·by_cases hb:b∈t
  ·rw [DB hb] at e;exact e
  ·rw [ni hb] at e;exact r.sub b u e
 ·have k1:k<L0.length:=(aaf.mp h1).1;have e1:(L0++t)[k]? =some a:=by rw [aaq k1];exact h1
  have e2:(M'++E)[k]? =some m:=by rw [aaq (by rw [<-hn];exact k1)];exact h2
  obtain ⟨g,q⟩:=r.gD k a m e1 e2;exact ⟨by rw [ni (dis a (aam h1))];exact g,Hk (n:=M'.length) hn sm (by rw [hl];exact hu m (aam h2)) q⟩
section
variable{X:Cx}{R:St->XK}{e:Expr}{t:DE}
theorem fL{st:Stmt}:JS X R st (λ_ _ _=>False):=λ_ _ _ _ _ _ ⟨_,_,_,_,_,_,_,h,_,_⟩=>h.elim
end
def Hy(C:Addr)(m:Str)(sp:Sp)(ou:List V)(R:St->XK)(ta:TE)(t:TA):TE:=λσ H Q=>ta σ H λx H1=>∃a dx fs,x= .ref a/\H1 a=some (.ins C dx fs)/\fs.lookup m=none/\
 t σ H1 λvs H2=>sp (x::(vs++ou)) H2 Q (R σ)
def QJ(C:Addr)(sp:Sp)(ou:List V)(R:St->XK)(t:TA):TE:=λσ H Q=>t σ H λvs H1=>∀x dx,H1 x=none->H1 dx=none->dx≠x->
 sp (.ref x::(vs++ou)) (upd (upd H1 dx (.own x)) x (.ins C dx [])) (λv H2=>v= .bw/\Q (.ref x) H2) (R σ)
section
variable{X:Cx}{CX:A_}{k:Nat}{f C:Addr}{fd:FuncData}{ps:List Str}{sp:Sp}{ou:List V}{ds:List Value}{R:St->XK}{x m:Str}{p pos apos:Pos}{e o:Expr}{es:List Expr}{ta:TE}{t:TA}
theorem Jv{pl:Sem Bool}(he:PE X o ta)(c:DU X.K C)(hm:NN X.K C m f)(F:ah X.prog X.w X.K X.mg X.base CX k f fd ps sp)(hr:bM k X.A)(hb:iu X.K fd ps ds)(hd:ax ou ds)(hx:cW CX X R)(ha:PA X (e::es) t)
  (PJ:starEach (e::es) X.env=(false,eval e X.env)::starEach es X.env:=by rfl) (gq:(backTo pos (starEach es X.env)).any (·.1)=false:=by rfl)
  (ht:eval (.Call (.Attribute o m apos) (e::es) [] pos) X.env=(do
   let ov<-eval o X.env
   standAt apos.atName
   let (f,first)<-holding [ov] (getMethod ov m pl)
   callWith pos f first (backTo pos (starEach (e::es) X.env)) (backToKw pos (keywordEach [] X.env))):=by rfl):
  PE X (.Call (.Attribute o m apos) (e::es) [] pos) (Hy C m sp ou R ta t):=by
 intro ζ s σ H Q I h;refine PySem.W.methodCall_KW (pl:=pl) (bA (he ζ s σ H _ I h) λu s1 ⟨x,H1,I1,rx,a,dx,fs,ex,ea,l,q⟩=>?_) ht;subst ex;obtain rfl:u=Value.ref a:=rx;refine t_ I1 ea c hm l ?_;refine PySem.W.callWith_K (first:=[.ref a]) (h₀:=X.base) I.ok.mod.S6 hm.kp (bA (ha pos ζ s1 σ H1 _ I1 q) λus s2 ⟨vs,H2,I2,r,q2⟩=>⟨I2.qp,?_⟩) PJ gq;exact xp (us:= .ref a::us) (vs:= .ref a::vs) F hr hb hd hx I2 (.cons rfl r) q2
theorem FA{pl:Sem Bool}(he:PE X o ta)(c:DU X.K C)(hm:NN X.K C m f)(F:ah X.prog X.w X.K X.mg X.base CX k f fd ps sp)(hr:bM k X.A)(hb:iu X.K fd ps ds)(hd:ax ou ds)(hx:cW CX X R)
  (ht:eval (.Call (.Attribute o m apos) [] [] pos) X.env=(do
   let ov<-eval o X.env
   standAt apos.atName
   let (f,first)<-holding [ov] (getMethod ov m pl)
   callWith pos f first (backTo pos (starEach [] X.env)) (backToKw pos (keywordEach [] X.env))):=by rfl):
  PE X (.Call (.Attribute o m apos) [] [] pos) (Hy C m sp ou R ta UM):=by
 intro ζ s σ H Q I h;refine PySem.W.methodCall_KW (pl:=pl) (bA (he ζ s σ H _ I h) λu s1 ⟨x,H1,I1,rx,a,dx,fs,ex,ea,l,q⟩=>?_) ht;subst ex;obtain rfl:u=Value.ref a:=rx;refine t_ I1 ea c hm l ?_;exact PySem.W.callWith_K0 (first:=[.ref a]) I1.qp hm.kp (xp (us:=[.ref a]) (vs:=[.ref a]) F hr hb hd hx I1 (.cons rfl .nil) q)
theorem FY{ζ:List (Addr×Obj)}{σ:St}{H:Hp}{s:Shared}{Q:VK}{us:List Value}{vs:List V}(M:Mk X.K C f)(F:ah X.prog X.w X.K X.mg X.base CX k f fd ps sp)(hr:bM (k+1) X.A)(hb:iu X.K fd ps ds)(hd:ax ou ds)
  (hx:cW CX X R) (I:Inv X ζ σ H s) (r:ax vs us)
  (h:∀x dx,H x=none->H dx=none->dx≠x->sp (.ref x::(vs++ou)) (upd (upd H dx (.own x)) x (.ins C dx [])) (λv H2=>v= .bw/\Q (.ref x) H2) (R σ)):
  wpAny (model X.prog X.w) X.A (call (.ref C) us) (EP X ζ σ Q) X.xe s:=by
 have hq:=h (s.heap.objs.size+1) s.heap.objs.size (I.aY.fresh (Nat.le_succ _)) (I.aY.fresh (aai _)) (aaI (abc _));have I2:=Inv.made (C:=C) I;have r2:ax (V.ref (s.heap.objs.size+1)::(vs++ou)) (Value.ref (s.heap.objs.size+1)::(us++ds)):= .cons rfl (r.append hd);have hl:(Value.ref (s.heap.objs.size+1)::us++ds).length=ps.length:=by have e:=r2.length;rw [F.len _ _ _ _ hq] at e;exact e.symm
 refine wpAny_call (K6 (f:=f) I.qp M.makes M.init (beq_iff_eq.mp M.fn) (codeAny_mono (F.run _ X.stack _ _ ⟨Value.ref (s.heap.objs.size+1)::us,[]⟩ (Value.ref (s.heap.objs.size+1)::(us++ds)) _ _ (R σ) (hr.make C us [])
  (I2.Sn.make C us []) (hb _ (Value.ref (s.heap.objs.size+1)::us) I2.qp hl) r2 hq) λr s' vS=>?_))
 cases r with
 |error e=>exact hx ζ σ _ _ e s' I2 vS
 |ok fl=>
  cases fl with
  |ret u=>
   obtain ⟨v,H',I3,rv,ev,q3⟩:=I2.after vS;subst ev;exact ⟨rv,⟨V.ref (s.heap.objs.size+1),H',I3,rfl,q3⟩⟩
  |next=>exact False.elim vS
  |brk=>exact False.elim vS
  |cont=>exact False.elim vS
theorem HY(M:Mk X.K C f)(F:ah X.prog X.w X.K X.mg X.base CX k f fd ps sp)(hr:bM (k+1) X.A)(hg:Gl X x)(hm:X.mg x=some (.ref C))(hb:iu X.K fd ps ds)(hd:ax ou ds)(hx:cW CX X R)
  (ha:PA X (e::es) t) (uJ:(x==("__debug__":Str))=false:=by decide) (he:starEach (e::es) X.env=(false,eval e X.env)::starEach es X.env:=by rfl) (gq:(backTo pos (starEach es X.env)).any (·.1)=false:=by rfl):
  PE X (.Call (.Name x p) (e::es) [] pos) (QJ C sp ou R t):=by
 intro ζ s σ H Q I h;refine wpAny_Call_Name_kw (qS I hg hm ?_ uJ);refine PySem.W.callWith_K (h₀:=X.base) I.ok.mod.S6 M.kp (bA (ha pos ζ s σ H _ I h) λus s1 ⟨vs,H1,I1,r,q⟩=>⟨I1.qp,?_⟩) he gq;exact FY M F hr hb hd hx I1 r q
end
def Nj(C:Addr)(M:Ms)(d:Dt)(ns:List Str)(ds:List Dt):Prop:=d= .obj C ns ds\/∃k,d= .loc k/\M[k]? =some (.ins C ns ds)
section
variable{K:fI}{G:Hp}{L:List Addr}{M:Ms}{H:Hp}{C:Addr}{d:Dt}{v:V}{ns:List Str}{ds:List Dt}
theorem Jr(r:Rl K G L M H)(n:Den K G L d v)(o:Nj C M d ns ds):∃a dx vs,v= .ref a/\H a=some (.ins C dx (ns.zip vs))/\ns.length=ds.length/\Χ K G L ds vs:=by
 rcases o with rfl|⟨k,rfl,hm⟩
 ·obtain ⟨a,dx,vs,e,h1,hl,h2⟩:=n;exact ⟨a,dx,vs,e,r.sub _ _ h1,hl,h2⟩
 ·obtain ⟨a,e,h1⟩:=n;obtain ⟨_,dx,vs,h2,hl,h3⟩:=r.gD k a _ h1 hm;exact ⟨a,dx,vs,e,h2,hl,h3⟩
theorem AF{f:Str}:∀{ns:List Str}{ds:List Dt}{vs:List V}{d:Dt},Χ K G L ds vs->(ns.zip ds).lookup f=some d->∃v,(ns.zip vs).lookup f=some v/\Den K G L d v
 |[],_,_,_,_,h=>by simp at h
 |_::_,[],_,_,_,h=>by simp at h
 |g::ns,d::ds,_,d',⟨v,r,rfl,h1,h2⟩,h=>by
  rw [abh,abd] at h;rw [abh,abd];cases q:f==g with
  |true=>rw [q] at h;cases h;exact ⟨v,rfl,h1⟩
  |false=>rw [q] at h;exact AF h2 h
theorem sv{f:Str}:∀{ns:List Str}{ds:List Dt}{vs:List V},Χ K G L ds vs->(ns.zip ds).lookup f=none->(ns.zip vs).lookup f=none
 |[],_,_,_,_=>by simp
 |_::_,[],_,h,_=>by have h:_=_:=h;subst h;simp
 |g::ns,d::ds,_,⟨v,r,rfl,h1,h2⟩,h=>by
  rw [abh,abd] at h;rw [abh,abd];cases q:f==g with
  |true=>rw [q] at h;cases h
  |false=>rw [q] at h;exact sv h2 h
theorem AW{f:Str}{v:V}:∀{ns:List Str}{vs:List V},ns.length=vs.length->f∉ns->jU f v (ns.zip vs)=(ns++[f]).zip (vs++[v])
 |[],[],_,_=>rfl
 |g::ns,x::vs,hl,h=>by have hg:¬g=f:=λz=>h (by rw [z];exact aae);show (if g=f then (g,v)::ns.zip vs else (g,x)::jU f v (ns.zip vs))=(g,x)::(ns++[f]).zip (vs++[v]);rw [if_neg hg,AW (by simpa using hl) λz=>h (List.mem_cons_of_mem _ z)]
 |[],_::_,hl,_=>by simp at hl
 |_::_,[],hl,_=>by simp at hl
end
def O6(C:Addr)(f:Str)(t:DE):DE:=λρ M q x=>t ρ M (λd M1=>∃ns ds v,Nj C M1 d ns ds/\(ns.zip ds).lookup f=some v/\q v M1) x
def Of(C:Addr)(m:Str)(T:DF)(to:DE)(ta:DA):DE:=λρ M q x=>to ρ M (λd M1=>(∃ns ds,Nj C M1 d ns ds/\(ns.zip ds).lookup m=none)/\ta ρ M1 (λds M2=>T (d::ds) M2 q (λC fs M'=>x ρ C fs M')) x) x
def RX(C:Addr)(T:DF)(ta:DA):DE:=λρ M q x=>ta ρ M (λds M1=>T (.loc M1.length::ds) (M1++[.ins C [] []]) (λd M2=>d= .bw/\q (.loc M1.length) M2) (λC fs M'=>x ρ C fs M')) x
def OA(C:Addr)(f:Str)(to tv:DE):DS:=λDn ρ M=>tv ρ M (λy M1=>to ρ M1 (λd M2=>∃k ns ds,d= .loc k/\M2[k]? =some (.ins C ns ds)/\f∉ns/\ns.length<1000/\Dn.nx ρ (M2.set k (.ins C (ns++[f]) (ds++[y])))) Dn.x) Dn.x
structure cE(P:Program)(w:World)(K:fI)(mg:Str->Option Value)(base:Heap)(k:Nat)(C:Addr)(m:Str)(ps:List Str)(T:DF)(f:Addr)(fd:FuncData):Prop where
 ok:ah P w K mg base (bU P w) k f fd ps (cC K T)
 b:iu K fd ps []
 c:DU K C
 m:NN K C m f
structure Nh(P:Program)(w:World)(K:fI)(mg:Str->Option Value)(base:Heap)(k:Nat)(x:Str)(C:Addr)(ps:List Str)(T:DF)(f:Addr)(fd:FuncData):Prop where
 ok:ah P w K mg base (bU P w) k f fd ps (cC K T)
 b:iu K fd ps []
 k:Mk K C f
 m:mg x=some (.ref C)
section
variable{X:Cx}{R:St->XK}{C:Addr}{f m x:Str}{T:DF}{k k':Nat}{a:Addr}{fd:FuncData}{ps:List Str}{e o value:Expr}{es:List Expr}{pos pos' apos p:Pos}{to te tv:DE}{ta:DA}
theorem p9(c:DU X.K C)(n:iH X.K C f)(he:JE X R e te)(hb:attributeBase e f X.env (eval e X.env)=eval e X.env:=by rfl):JE X R (.Attribute e f pos) (O6 C f te):=
 .of (QS he hb) λσ H G L ρ M q x rl en h hx=>by refine ⟨G,L,ρ,M,_,x,rl,en,h,hx,λv H1 ⟨d1,G1,L1,M1,e1,r1,n1,ns,ds,y,ob,hl,h1⟩=>?_⟩;obtain ⟨p,dx,vs,rfl,hp,_,dn⟩:=Jr r1 n1 ob;obtain ⟨u,hu,du⟩:=AF dn hl;exact ⟨p,C,dx,_,u,rfl,hp,c,n,hu,y,G1,L1,M1,e1,r1,du,h1⟩
theorem bO{pl:Sem Bool}(D:cE X.prog X.w X.K X.mg X.base k C m ps T a fd)(hr:bM k' X.A)(hx:cW (bU X.prog X.w) X R)(ho:JE X R o to)(ha:JA X R (e::es) ta)(hk:k<=k':=by decide)
  (PJ:starEach (e::es) X.env=(false,eval e X.env)::starEach es X.env:=by rfl) (gq:(backTo pos (starEach es X.env)).any (·.1)=false:=by rfl)
  (ht:eval (.Call (.Attribute o m apos) (e::es) [] pos) X.env=(do
   let ov<-eval o X.env
   standAt apos.atName
   let (f,first)<-holding [ov] (getMethod ov m pl)
   callWith pos f first (backTo pos (starEach (e::es) X.env)) (backToKw pos (keywordEach [] X.env))):=by rfl):
  JE X R (.Call (.Attribute o m apos) (e::es) [] pos) (Of C m T to ta):=
 .of (Jv (pl:=pl) ho D.c D.m D.ok (hr.mono hk) D.b .nil hx ha PJ gq ht) λσ H G L ρ M q x rl en h hx=>by refine ⟨G,L,ρ,M,_,x,rl,en,h,hx,λv H1 ⟨d1,G1,L1,M1,e1,r1,n1,⟨ns,ds,ob,hl⟩,h1⟩=>?_⟩;obtain ⟨p,dx,vs,rfl,hp,_,dn⟩:=Jr r1 n1 ob;refine ⟨p,dx,_,rfl,hp,sv dn hl,G1,L1,ρ,M1,_,x,r1,en.mono e1,h1,hx.on e1,λus H2 ⟨An,G2,L2,M2,e2,r2,n2,h2⟩=>?_⟩;show cC X.K T (V.ref p::(us++[])) H2 _ _;rw [aaZ];have I0:=e1.trans e2;exact ⟨G2,L2,d1::An,M2,q,_,r2,⟨_,_,rfl,Den.mono e2.g e2.l _ _ n1,n2⟩,h2,λv H' f=>Fin.back I0 f,λC fs M' G' L' H' od hq e' r' y=>hx σ ρ C fs M' G' L' H' od hq (I0.trans e') r' (en.mono (I0.trans e')) y⟩
theorem ik{pl:Sem Bool}(D:cE X.prog X.w X.K X.mg X.base k C m ps T a fd)(hr:bM k' X.A)(hx:cW (bU X.prog X.w) X R)(ho:JE X R o to)(hk:k<=k':=by decide)
  (ht:eval (.Call (.Attribute o m apos) [] [] pos) X.env=(do
   let ov<-eval o X.env
   standAt apos.atName
   let (f,first)<-holding [ov] (getMethod ov m pl)
   callWith pos f first (backTo pos (starEach [] X.env)) (backToKw pos (keywordEach [] X.env))):=by rfl):
  JE X R (.Call (.Attribute o m apos) [] [] pos) (Of C m T to Q_):=
 .of (FA (pl:=pl) ho D.c D.m D.ok (hr.mono hk) D.b .nil hx ht) λσ H G L ρ M q x rl en h hx=>by refine ⟨G,L,ρ,M,_,x,rl,en,h,hx,λv H1 ⟨d1,G1,L1,M1,e1,r1,n1,⟨ns,ds,ob,hl⟩,h1⟩=>?_⟩;obtain ⟨p,dx,vs,rfl,hp,_,dn⟩:=Jr r1 n1 ob;refine ⟨p,dx,_,rfl,hp,sv dn hl,?_⟩;show cC X.K T (V.ref p::([]++[])) H1 _ _;exact ⟨G1,L1,[d1],M1,q,_,r1,⟨_,_,rfl,n1,rfl⟩,h1,λv H' f=>Fin.back e1 f,λC fs M' G' L' H' od hq e' r' y=>hx σ ρ C fs M' G' L' H' od hq (e1.trans e') r' (en.mono (e1.trans e')) y⟩
theorem Jp(D:Nh X.prog X.w X.K X.mg X.base k x C ps T a fd)(hr:bM k' X.A)(hx:cW (bU X.prog X.w) X R)(ha:JA X R (e::es) ta)(hk:k+1<=k':=by decide)(hg:Gl X x:=by rfl)(uJ:(x==("__debug__":Str))=false:=by decide)
  (he:starEach (e::es) X.env=(false,eval e X.env)::starEach es X.env:=by rfl) (gq:(backTo pos (starEach es X.env)).any (·.1)=false:=by rfl):JE X R (.Call (.Name x p) (e::es) [] pos) (RX C T ta):=
 .of (HY D.k D.ok (hr.mono hk) hg D.m D.b .nil hx ha uJ he gq) λσ H G L ρ M q x rl en h hx=>by
  refine ⟨G,L,ρ,M,_,x,rl,en,h,hx,λvs H1 ⟨ds,G1,L1,M1,e1,r1,n1,h1⟩ y dx hy hdx lI=>?_⟩;show cC X.K T (V.ref y::(vs++[])) _ _ _;rw [aaZ];have ra:=r1.M9 (o:= .own y) hdx;have ea:=r1.Ry (o:= .own y) hdx;have ZW:upd H1 dx (HO.own y) y=none:=by rw [Κ (Ne.symm lI)];exact hy
  have rb:=ra.LK (p:=y) (o:= .ins C dx []) (m:= .ins C [] []) ZW ⟨dx,[],ao,rfl,rfl⟩;have eb:=ra.VH (p:=y) (o:= .ins C dx []) ZW;have e2:=ea.trans eb;have I0:=e1.trans e2;refine ⟨_,_,.loc M1.length::ds,_,_,_,rb,⟨_,_,rfl,⟨y,rfl,?_⟩,Χ.mono e2.g e2.l _ _ n1⟩,h1,λv H' ⟨d,G',L',M',e',r',dn,hd,hq⟩=>?_,λC fs M' G' L' H' od hq e' r' z=>hx σ ρ C fs M' G' L' H' od hq (I0.trans e') r' (en.mono (I0.trans e')) z⟩
  ·rw [<-r1.len,List.getElem?_append_right (Nat.le_refl _)];simp
  ·subst hd;refine ⟨dn,.loc M1.length,G',L',M',I0.trans e',r',⟨y,rfl,e'.l.get ?_⟩,hq⟩;rw [<-r1.len,List.getElem?_append_right (Nat.le_refl _)];simp
theorem El(c:DU X.K C)(n:iH X.K C f)(ho:JE X R o to)(hv:JE X R value tv)(hs:swapsWith value (some (.Attribute o f pos')) pos.line X.env=pure false:=by rfl):JS X R (.Assign [.Attribute o f pos'] value pos) (OA C f to tv):=
 .of (Po ho hv hs) λσ H G L ρ M Dn rl en h hx=>by refine ⟨G,L,ρ,M,_,_,rl,en,h,hx,λy H1 ⟨dy,G1,L1,M1,e1,r1,n1,h1⟩=>?_⟩;refine ⟨G1,L1,ρ,M1,_,_,r1,en.mono e1,h1,hx.on e1,λu H2 ⟨du,G2,L2,M2,e2,r2,n2,k,ns,ds,ed,hm,hf,hz,h2⟩=>?_⟩;subst ed;obtain ⟨p,rfl,hp⟩:=n2;obtain ⟨_,dx,vs,hH,hl,dn⟩:=r2.gD k p _ hp hm;have hlv:ns.length=vs.length:=hl.trans dn.length;refine ⟨p,C,dx,_,rfl,hH,c,n,by rw [abi,<-hlv,Nat.min_self];exact hz,?_⟩;rw [AW hlv hf];exact ⟨ρ,G2,L2,_,(e1.trans e2).trans (r2.KY hp),r2.setM (m:= .ins C (ns++[f]) (ds++[dy])) hp ⟨dx,_,ao,by rw [aah,aah,hl];rfl,dn.app ⟨_,_,rfl,Den.mono e2.g e2.l _ _ n1,rfl⟩⟩,(en.mono (e1.trans e2)).mono (r2.KY (o:= .own p) hp),h2⟩
end
def zQ:List Dt->Ms->DQ->Prop
 |[d],M,q=>match kU M d with
  |some xs=>q (.loc M.length) (M++[.lst xs])
  |none=>False
 |_,_,_=>False
section
variable{K:fI}
theorem Ts:DN K (λxs H Q=>∃p ys,xs=[V.ref p]/\(gu K H p ys\/m_ K H p ys)/\∀l,H l=none->Q (.ref l) (upd H l (.lst ys))) zQ:=by
 intro G0 L0 H0 G L M H vs ds q e r n h;unfold zQ at h;split at h
 ·rename_i d;obtain ⟨v,rfl,n1⟩:=bo n;split at h
  ·rename_i xs hs;obtain ⟨a,us,rfl,hq,dn⟩:=nj r n1 hs;exact ⟨a,us,rfl,hq,λl hl=>jD e r hl dn h⟩
  ·exact h.elim
 ·exact h.elim
end
section
variable{X:Cx}{R:St->XK}{e o i value:Expr}{t:DA}{to ti tv:DE}{p pos apos cL uC:Pos}
theorem xZ(hm:X.mg "list"=none)(ha:JA X R [e] t)(hg:Gl X "list":=by rfl)(he:starEach [e] X.env=(false,eval e X.env)::starEach [] X.env:=by rfl)(gq:(backTo pos (starEach [] X.env)).any (·.1)=false:=by rfl):JE X R (.Call (.Name "list" p) [e] [] pos) (C4 zQ t):=
 rL yI Ts hm sk ha hg (by decide) (by decide) he gq
def TM(to:DE)(t:DA):DE:=λρ M q x=>to ρ M (λd M1=>(∃k xs,d= .loc k/\M1[k]? =some (.lst xs))/\t ρ M1 (λds M2=>∃k xs y,d= .loc k/\ds=[y]/\M2[k]? =some (.lst xs)/\xs.length<sizeLine/\q .bw (M2.set k (.lst (xs++[y])))) x) x
theorem fR(ho:JE X R o to)(ha:JA X R [e] t)(IL:attributeBase o "append" X.env (eval o X.env)=eval o X.env:=by rfl)
  (Pe:((backTo cL (starEach [e] X.env)).all (λx=> !x.1)&&(backToKw cL (keywordEach [] X.env)).all (λx=>x.1.isSome)
   &&decide (([e]:List Expr).length+([]:List Keyword).length+(if ([]:List Keyword).isEmpty then 0 else 1)<30))=true:=by rfl)
  (K5:(apos.endLine==cL.line)=true:=by rfl) (hs:starEach [e] X.env=(false,eval e X.env)::starEach [] X.env:=by rfl) (C8:(backTo cL (starEach [] X.env)).any (·.1)=false:=by rfl):
  JE X R (.Call (.Attribute o "append" apos) [e] [] cL) (TM to t):=
 .of (Te PySem.F.plainAttrs_list PySem.F.slot_list_append PySem.F.type_list_append (r:=ER) vE ho ha IL Pe K5 hs C8) λσ H G L ρ M q x rl n h hx=>by refine ⟨G,L,ρ,M,_,x,rl,n,h,hx,λv H1 ⟨d1,G1,L1,M1,e1,r1,n1,⟨k,xs,ed,hm⟩,h1⟩=>?_⟩;subst ed;obtain ⟨a,rfl,hk⟩:=n1;obtain ⟨_,vs,hH,_⟩:=r1.gD k a _ hk hm;refine ⟨.inl ⟨rfl,vs,.of hH⟩,G1,L1,ρ,M1,_,x,r1,n.mono e1,h1,hx.on e1,λus H2 ⟨ds,G2,L2,M2,e2,r2,n2,k',xs',y,ek,ed,YI,hz,h2⟩=>?_⟩;cases ek;subst ed;obtain ⟨u,rfl,n3⟩:=bo n2;have O9:=e2.l.get hk;obtain ⟨_,Lh,VP,RN⟩:=r2.gD k a _ O9 YI;refine ⟨a,Lh,u,rfl,rfl,VP,by rw [<-RN.length];exact hz,.bw,G2,L2,_,(e1.trans e2).trans (r2.KY O9),r2.setM (m:= .lst (xs'++[y])) O9 ⟨_,ao,RN.app ⟨_,_,rfl,n3,rfl⟩⟩,rfl,h2⟩
def yF(to ti tv:DE):DS:=λDn ρ M=>tv ρ M (λy M1=>to ρ M1 (λd M2=>ti ρ M2 (λdi M3=>∃k i xs j,d= .loc k/\di= .int i/\M3[k]? =some (.lst xs)/\Ih xs.length i=some j/\Dn.nx ρ (M3.set k (.lst (xs.set j y)))) Dn.x) Dn.x) Dn.x
theorem nD(ho:JE X R o to)(hi:JE X R i ti)(hv:JE X R value tv)(hs:swapsWithSole [.Subscript o i uC] value pos.line X.env=pure false:=by rfl)(hw:swappedStores [.Subscript o i uC] value X.env=pure none:=by rfl)
  (h1:(assignEach [.Subscript o i uC] X.env).map (·.2)=[assign (.Subscript o i uC) X.env]:=by rfl)
  (ha:∀v,assign (.Subscript o i uC) X.env v=(do
   let ov<-holding [v] (eval o X.env)
   let iv<-holding [v,ov] (eval i X.env)
   standAt uC
   holding [v,ov,iv] (setItem ov iv v)
   release [v,ov,iv] []):=by intro _;rfl):JS X R (.Assign [.Subscript o i uC] value pos) (yF to ti tv):=
 .of (JL hv (PL (t:=NU) ho hi Lc ha) hs hw h1) λσ H G L ρ M Dn rl n h hx=>by refine ⟨G,L,ρ,M,_,_,rl,n,h,hx,λv H1 ⟨dv,G1,L1,M1,e1,r1,n1,h1⟩=>?_⟩;refine ⟨G1,L1,ρ,M1,_,_,r1,n.mono e1,h1,hx.on e1,λov H2 ⟨d,G2,L2,M2,e2,r2,n2,h2⟩=>?_⟩;refine ⟨G2,L2,ρ,M2,_,_,r2,(n.mono e1).mono e2,h2,(hx.on e1).on e2,λiv H3 ⟨di,G3,L3,M3,e3,r3,n3,k,i,xs,j,ed,ei,hm,hj,h3⟩=>?_⟩;subst ed ei;obtain ⟨a,rfl,hk⟩:=n2;have n3:iv= .int i:=n3;subst n3;have Bl:=e3.l.get hk;obtain ⟨_,vs,hH,dn⟩:=r3.gD k a _ Bl hm;have GN:=e2.trans e3;have Vz:=Den.mono GN.g GN.l _ _ n1;refine ⟨a,vs,i,j,rfl,rfl,hH,by rw [<-dn.length];exact hj,ρ,G3,L3,_,((e1.trans e2).trans e3).trans (r3.KY Bl),r3.setM (m:= .lst (xs.set j dv)) Bl ⟨_,ao,.of (Ej Vz j dn.pair)⟩,(((n.mono e1).mono e2).mono e3).mono (r3.KY (o:= .own a) Bl),h3⟩
end
structure Src(K:fI)(a:Addr)(xs:List Dt)(ok:Ms->Prop)(G0:Hp)(L0:List Addr):Prop where
 at_:∀G L M H,dI G0 G->Pre L0 L->Rl K G L M H->ok M->∃vs,gu K H a vs/\Χ K G L xs vs
def kY(M:Ms):Dt->Option (List Dt×(Ms->Prop))
 |.lst xs=>some (xs,λ_=>True)
 |.kj ns=>some (ns.map .int,λ_=>True)
 |.loc k=>match M[k]? with
  |some (.lst xs)=>some (xs,λM'=>M'[k]? =some (.lst xs))
  |_=>none
 |_=>none
theorem qV{K:fI}{G:Hp}{L:List Addr}{M:Ms}{H:Hp}{d:Dt}{v:V}{xs:List Dt}{ok:Ms->Prop}(r:Rl K G L M H)(n:Den K G L d v)(h:kY M d=some (xs,ok)):∃a vs,v= .ref a/\gu K H a vs/\Src K a xs ok G L/\ok M:=by
 cases d with
 |lst ds=>
  cases h;obtain ⟨a,vs,rfl,e,m⟩:=n;exact ⟨a,vs,rfl,.of (r.sub _ _ e),⟨λG' L' M' H' g l r' _=>⟨vs,.of (r'.sub _ _ (g _ _ e)),Χ.mono g l _ _ m⟩⟩,trivial⟩
 |kj ns=>
  cases h;obtain ⟨a,rfl,e⟩:=n;exact ⟨a,_,rfl,r.sub.seq e,⟨λG' L' M' H' g l r' _=>⟨_,r'.sub.seq (g.seq e),iR⟩⟩,trivial⟩
 |loc k=>
  obtain ⟨a,rfl,e⟩:=n;have h:(match M[k]? with|some (.lst xs)=>some (xs,λM':Ms=>M'[k]? =some (.lst xs))|_=>none)=some (xs,ok):=h;split at h
  ·rename_i ys hm;cases h;obtain ⟨_,vs,e1,m1⟩:=r.gD k a _ e hm;refine ⟨a,vs,rfl,.of e1,⟨λG' L' M' H' g l r' hk=>?_⟩,hm⟩;obtain ⟨_,Lh,e2,m2⟩:=r'.gD k a _ (l.get e) hk;exact ⟨Lh,.of e2,m2⟩
  ·cases h
 |_=>cases h
theorem KI{K:fI}{G:Hp}{L:List Addr}{a:Addr}{xs:List Dt}{ok:Ms->Prop}(s:Src K a xs ok G L):QO K (Vm K a) xs ok G L where
 go:=λi G1 L1 M1 H1 d g l r k e=>by
  obtain ⟨vs,hs,n⟩:=s.at_ G1 L1 M1 H1 g l r k;obtain ⟨v,e1,n1⟩:=n.get e
  exact ⟨⟨vs,v,hs,e1⟩,λv' H' ⟨eH,y⟩=>by
   subst eH;have e2:=y vs hs;rw [e1] at e2;cases e2
   exact ⟨G1,.refl _ _ _,r,n1⟩⟩
 stop:=λi G1 L1 M1 H1 g l r k e=>by obtain ⟨vs,hs,n⟩:=s.at_ G1 L1 M1 H1 g l r k;exact ⟨vs,hs,by rw [<-n.length];exact e⟩
def qg(M:Ms):Dt->Option (List Dt×(Ms->Prop))
 |.loc k=>kY M (.loc k)
 |d=>(Tv M d).map λxs=>(xs,λ_=>True)
def e_(t:DE):DK:=λρ M q x=>t ρ M (λd M1=>match qg M1 d with
 |some (xs,ok)=>q xs ok M1
 |none=>False) x
theorem bf{X:Cx}{R:St->XK}{tg e:Expr}{te:DE}(h:JE X R e te):JK X R tg e (e_ te):=by
 intro ζ s σ H Q I ⟨G,L,ρ,M,q,x,rl,n,ht,hx,hQ⟩;refine bA (h ζ s σ H (Fin X.K G L H _) I ⟨G,L,ρ,M,_,x,rl,n,ht,hx,λ_ _ f=>f⟩) λu s1 ⟨v,H1,I1,rv,d,G1,L1,M1,e1,r1,n1,h1⟩=>?_
 (try dsimp only at h1)
 cases hi:qg M1 d with
 |none=>rw [hi] at h1;exact h1.elim
 |some p=>
  obtain ⟨xs,ok⟩:=p;rw [hi] at h1;have fin:∀J,QO X.K J xs ok G1 L1->Q J H1:=λJ y=>hQ J H1 ⟨xs,ok,G1,L1,M1,e1,r1,y,h1⟩;have up:∀{J},ok=(λ_=>True)->Yl X.K J xs G1 L1->QO X.K J xs ok G1 L1:=λeo y=>by subst eo;exact ⟨λi G L M H d g l r _ e=>y.go i G L M H d g l r e,λi G L M H g l r _ e=>y.stop i G L M H g l r e⟩
  cases d with
  |loc k=>
   obtain ⟨a,vs,rfl,hs,sr,_⟩:=qV r1 n1 hi;cases rv;exact wU I1 hs (fin _ (KI sr))
  |lst ds=>
   cases hi;obtain ⟨a,vs,rfl,e,m⟩:=n1;cases rv;exact wU I1 (vs:=vs) (.of (r1.sub _ _ e)) (fin _ (up rfl (Er (λG' g=> .of (g _ _ e)) m)))
  |kj ns=>
   cases hi;obtain ⟨a,rfl,e⟩:=n1;cases rv;exact wU I1 (r1.sub.seq e) (fin _ (up rfl (Er (λG' g=>g.seq e) iR)))
  |tup ds=>
   cases hi;obtain ⟨a,vs,rfl,e,m⟩:=n1;cases rv;exact Kt I1 (vs:=vs) (.of (r1.sub _ _ e)) (fin _ (up rfl (KG (λG' g=> .of (g _ _ e)) m)))
  |kt ds=>
   cases hi;obtain ⟨a,vs,rfl,e,m⟩:=n1;cases rv;exact Kt I1 (r1.sub.Si e) (fin _ (up rfl (KG (λG' g=>g.Si e) m)))
  |str z=>
   cases hi;cases n1;obtain ⟨t,rfl⟩:=rv;exact Pu I1 (fin _ (up rfl Ro))
  |_=>cases hi
def xr(g:Dt->En->(En->Prop)->Prop)(tb:DS)(Dn:lG)(ok:Ms->Prop):List Dt->En->Ms->Prop
 |[],ρ,M=>ok M/\Dn.nx ρ M
 |x::xs,ρ,M=>ok M/\g x ρ λρ'=>tb {Dn with nx:=xr g tb Dn ok xs,ct:=xr g tb Dn ok xs,bk:=Dn.nx} ρ' M
def vY(ti:DK)(g:Dt->En->(En->Prop)->Prop)(tb:DS):DS:=λDn ρ M=>ti ρ M (λxs ok M1=>xr g tb Dn ok xs ρ M1) Dn.x
section
variable{X:Cx}{R:St->XK}{tg iter:Expr}{body:List Stmt}{ti:DK}{gg:TG}{g:Dt->En->(En->Prop)->Prop}{tb:DS}{pos:Pos}
theorem dF(hi:JK X R tg iter ti)(hg:PG X tg gg)(gd:GD X.K gg g)(hb:CU X R body tb)(hp:PassesOwn (model X.prog X.w) X.A X.env X.xe:=by first|exact PassesOwn.never|exact PassesOwn.leaving)(hc:X.calm=true:=by rfl)(hs:∀x,foldedSetIterable iter X.env x=pure x:=by intro _;rfl):
  JS X R (.For tg iter body [] pos) (vY ti g tb):= .of (CA hp hc hi hg hb hs) λσ H G L ρ M Dn rl n h hx=>by
 refine ⟨G,L,ρ,M,_,_,rl,n,h,hx,λJ H1 ⟨xs,ok,G1,L1,M1,e1,r1,y,h1⟩=>?_⟩;refine ⟨λi m σ' H'=>m+i=xs.length/\e9 X.K G1 L1 H1 (λρ' M'=>xr g tb Dn ok (xs.drop i) ρ' M') σ' H',⟨xs.length,rfl,ρ,G1,L1,M1,.refl _ _ _,r1,n.mono e1,by rw [ace];exact h1⟩,?_⟩;rintro i m σ' H' ⟨hm,ρ',G',L',M',e',r',n',h'⟩;by_cases hi:i<xs.length
 ·right;have hd:xs[i]? =some xs[i]:=aaa hi;rw [abb hi] at h';obtain ⟨aY,h'⟩:=h';obtain ⟨go,yl⟩:=y.go i G' L' M' H' _ e'.g e'.l r' aY hd;refine ⟨go,e9 X.K G1 L1 H1 (λρ' M'=>xr g tb Dn ok (xs.drop (i+1)) ρ' M'),λσ2 H2 f=>⟨m-1,by omega,by omega,f⟩,λv H2 hy=>?_⟩;obtain ⟨G2,e2,r2,n2⟩:=yl v H2 hy;refine gd G2 L' M' H2 _ v ρ' σ' _ _ r2 n2 (n'.mono e2) h' λρ3 σ3 n3 h3=>?_;refine ⟨G2,L',ρ3,M',_,r2,n3,h3,hx.on (e1.trans (e'.trans e2)),⟨λ_ _ f=>e9.back (e'.trans e2) f,λ_ _ f=>Fin.back (e1.trans (e'.trans e2)) f,λ_ _ f=>e9.back (e1.trans (e'.trans e2)) f,λ_ _ f=>e9.back (e'.trans e2) f⟩⟩
 ·left;rw [abO (by omega)] at h';exact ⟨y.stop i G' L' M' H' e'.g e'.l r' h'.1 (by omega),ρ',G',L',M',e1.trans e',r',n',h'.2⟩
end
def nN(te:DE)(cs:En)(ok:Ms->Prop):List Dt->List Dt->Ms->(List Dt->Ms->Prop)->Prop
 |[],Ζ,M,k=>ok M/\k Ζ M
 |x::xs,Ζ,M,k=>ok M/\te (some x::cs) M (λd M1=>nN te cs ok xs (Ζ++[d]) M1 k) k4
def oM(ti:DK)(te:DE)(ae:List Nat):DE:=λρ M q x=>ti ρ M (λxs ok M1=>xs.length<=sizeLine/\nN te (pK ae ρ) ok xs [] M1 (λys M2=>q (.lst ys) M2)) x
def EL(ti:DK)(te:DE)(ae:List Nat):DE:=λρ M q x=>ti ρ M (λxs ok M1=>xs.length<=sizeLine/\nN te (pK ae ρ) ok xs [] M1 (λys M2=>q (.loc M2.length) (M2++[.lst ys]))) x
theorem qP{te:DE}{cs:En}{ok:Ms->Prop}:∀xs,nN te cs ok xs=i8 (gN 0) sR te (none::cs) ok xs
 |[]=>rfl
 |x::xs=>funext λΖ=>funext λM=>funext λk=>by show (ok M/\te (some x::cs) M (λd M1=>nN te cs ok xs (Ζ++[d]) M1 k) k4)=(ok M/\te (some x::cs) M (λd M1=>i8 (gN 0) sR te (none::cs) ok xs (Ζ++[d]) M1 k) k4);rw [qP xs]
section
variable{X:Cx}{R:St->XK}{elt iter:Expr}{x:Str}{px:Pos}{scope:Scope}{pos:Pos}{ti:DK}{te:DE}{ys:List Str}{ae:List Nat}
theorem fA(S:ay X scope [x] ys ae)(hi:JK X R (.Name x px) iter ti)(he:∀C s H fp,JE (Cx.comp X (x::ys) scope C s H fp) (λ_=>E0) elt te)(hc:X.calm=true:=by rfl)(hs:∀x,foldedSetIterable iter X.env x=pure x:=by intro _;rfl):JE X R (.ListComp elt [⟨.Name x px,iter,[],0⟩] scope pos) (oM ti te ae):=Rz false S hi (gH S (i:=0) rfl) ba (gK (Nat.zero_lt_succ 0)) (λ_ _ _ _=>k_) he hc hs λρ M q x h=>by unfold oM at h;simp only [qP] at h;exact h
theorem Kv(S:ay X scope [x] ys ae)(hi:JK X R (.Name x px) iter ti)(he:∀C s H fp,JE (Cx.comp X (x::ys) scope C s H fp) (λ_=>E0) elt te)(hc:X.calm=true:=by rfl)(hs:∀x,foldedSetIterable iter X.env x=pure x:=by intro _;rfl):JE X R (.ListComp elt [⟨.Name x px,iter,[],0⟩] scope pos) (EL ti te ae):=Rz true S hi (gH S (i:=0) rfl) ba (gK (Nat.zero_lt_succ 0)) (λ_ _ _ _=>k_) he hc hs λρ M q x h=>by unfold EL at h;simp only [qP] at h;exact h
theorem iq{i:Nat}{y:Str}{py tZ:Pos}(hN:X.N.Nodup)(QR:X.N[i]? =some y)(hy:Loc X.env.scope y)(S:ay X scope [x] ys ae)(hi:JK X R (.Name x px) iter ti)(he:∀C s H fp,JE (Cx.comp X (x::ys) scope C s H fp) (λ_=>E0) elt te)(hc:X.calm=true:=by rfl)(O8:swapsWith (.ListComp elt [⟨.Name x px,iter,[],0⟩] scope pos) (some (.Name y py)) tZ.line X.env=pure true:=by rfl)(hs:∀x,foldedSetIterable iter X.env x=pure x:=by intro _;rfl)(hf:X.fn y=true\/X.env.scope.names.lookup y=some .local:=by first|exact .inl rfl|exact .inr rfl|assumption):JS X R (.Assign [.Name y py] (.ListComp elt [⟨.Name x px,iter,[],0⟩] scope pos) tZ) (JN i (oM ti te ae)):=ZS false S hi (gH S (i:=0) rfl) ba (gK (Nat.zero_lt_succ 0)) (λ_ _ _ _=>k_) he hc hs hN QR hy O8 hf λρ M q x h=>by unfold oM at h;simp only [qP] at h;exact h
end
theorem vN:∀{ns:List Int}{us:List Value},ax (ns.map V.int) us->∃ts:List (Int×Tok),us=ts.map (λp=>Value.int p.1 p.2)/\ts.map (·.1)=ns
 |[],_,h=>by cases h;exact ⟨[],rfl,rfl⟩
 |n::ns,_,h=>by
  cases h with
  |cons r t=>
   obtain ⟨tk,rfl⟩:=r;obtain ⟨ts,rfl,rfl⟩:=vN t;exact ⟨(n,tk)::ts,rfl,rfl⟩
def Tb(K:fI):List V->Hp->VK->Prop:=λxs H Q=>∃(p:Addr) (ns:List Int),xs=[.ref p]/\gu K H p (ns.map V.int)/\Q (.int ns.sum) H
theorem Ji{X:Cx}(hc:X.calm=true):dw X (.builtin "sum") (Tb X.K):=by
 intro ζ s σ H xs us Q I r h;obtain ⟨p,ns,rfl,hq,q⟩:=h;obtain ⟨u,rfl,r1⟩:=kX r;cases r1;obtain ⟨its,rv,pl,hz⟩:=I.list hq;obtain ⟨ts,rfl,rfl⟩:=vN rv;have e:(ts.map λp=>Value.int p.1 p.2).toArray=intItems ts.toArray:=by simp [intItems]
 have hl:=pl.isList;rw [e] at hl;refine sum_intListG (I.ok.hd hc) hl λh' tk t' hk=>?_;refine ⟨.int (ts.map (·.1)).sum,H,I.kept hk,⟨t',?_⟩,q⟩;rw [preSum_eq,List.take_of_length_le (by simp)]
def P5:List Dt->Ms->DQ->Prop
 |[d],M,q=>∃ns:List Int,kU M d=some (ns.map .int)/\(∃xs ok,kY M d=some (xs,ok))/\q (.int ns.sum) M
 |_,_,_=>False
theorem sj{K:fI}{G:Hp}{L:List Addr}:∀{ns:List Int}{vs:List V},Χ K G L (ns.map Dt.int) vs->vs=ns.map V.int
 |[],_,h=>h
 |_::_,_,⟨v,r,e,h1,h2⟩=>by have h1:v=_:=h1;rw [e,h1,sj h2];rfl
theorem nM{M:Ms}{d:Dt}{xs:List Dt}{ok:Ms->Prop}(h:kY M d=some (xs,ok)):kU M d=some xs:=by
 cases d with
 |lst ds=>cases h;rfl
 |kj ns=>cases h;rfl
 |loc k=>
  have h:(match M[k]? with|some (.lst xs)=>some (xs,λM':Ms=>M'[k]? =some (.lst xs))|_=>none)=some (xs,ok):=h;show (match M[k]? with|some (.lst xs)=>some xs|_=>none)=some xs;split at h
  ·rename_i ys hm;cases h;rfl
  ·cases h
 |_=>cases h
theorem WZ{K:fI}:DN K (Tb K) P5:=by
 intro G0 L0 H0 G L M H vs ds q e r n h;unfold P5 at h;split at h
 ·rename_i d;obtain ⟨v,rfl,n1⟩:=bo n;obtain ⟨ns,hs,⟨xs,ok,hl⟩,hq⟩:=h;obtain ⟨a,us,rfl,sq,sr,aY⟩:=qV r n1 hl;rw [nM hl] at hs;cases hs;obtain ⟨ws,ZT,dn⟩:=sr.at_ G L M H (.refl _) (.refl _) r aY;rw [sj dn] at ZT;exact ⟨a,ns,rfl,ZT,.int ns.sum,G,L,M,e,r,rfl,hq⟩
 ·exact h.elim
theorem Gd:bootBuiltins "sum"=some (.builtin "sum"):=by decide+kernel
theorem Ci:bootBuiltins "enumerate"=some (.type "enumerate"):=by decide+kernel
section
variable{X:Cx}{R:St->XK}{e a b:Expr}{t:DA}{ta tb:DE}{p pos:Pos}
theorem OE(hm:X.mg "sum"=none)(ha:JA X R [e] t)(hc:X.calm=true:=by rfl)(hg:Gl X "sum":=by rfl)(he:starEach [e] X.env=(false,eval e X.env)::starEach [] X.env:=by rfl)(gq:(backTo pos (starEach [] X.env)).any (·.1)=false:=by rfl):JE X R (.Call (.Name "sum" p) [e] [] pos) (C4 P5 t):=
 h9 (Ji hc) WZ hm Gd ha hg (by decide) (by decide) he gq
def SX:Dt->Dt->Ms->DQ->Prop:=λd e M q=>∃u xs us,vD d=some u/\kU M e=some xs/\hJ xs=some us/\q (.bl (Q7 u us)) M
def Dk:Dt->Dt->Ms->DQ->Prop:=λd e M q=>∃u xs us,vD d=some u/\kU M e=some xs/\hJ xs=some us/\q (.bl (!Q7 u us)) M
theorem WB{K:fI}:ow K (Vf K false) SX:=by intro G0 L0 H0 G L M H v1 v2 d1 d2 q e r n1 n2 ⟨u,xs,us,h1,h2,h3,hq⟩;obtain ⟨rfl,fu⟩:=kQ h1 n1;obtain ⟨a,vs,rfl,sq,dn⟩:=nj r n2 h2;obtain ⟨rfl,fs⟩:=fg h3 dn;exact ⟨a,vs,rfl,sq,fu,fs,.bl _,G,L,M,e,r,rfl,hq⟩
theorem Nu{K:fI}:ow K (Vf K true) Dk:=by intro G0 L0 H0 G L M H v1 v2 d1 d2 q e r n1 n2 ⟨u,xs,us,h1,h2,h3,hq⟩;obtain ⟨rfl,fu⟩:=kQ h1 n1;obtain ⟨a,vs,rfl,sq,dn⟩:=nj r n2 h2;obtain ⟨rfl,fs⟩:=fg h3 dn;exact ⟨a,vs,rfl,sq,fu,fs,.bl _,G,L,M,e,r,rfl,hq⟩
theorem HD(ja:JE X R a ta)(jb:JE X R b tb)(hm:behindInMarks .In b=false:=by rfl):JT X R (.Compare a [.In] [b] pos) (oP (lj SX ta tb)):=js Gn WB ja jb hm
theorem vi(ja:JE X R a ta)(jb:JE X R b tb)(hm:behindInMarks .NotIn b=false:=by rfl):JT X R (.Compare a [.NotIn] [b] pos) (oP (lj Dk ta tb)):=js xG Nu ja jb hm
end
theorem Inv.vG{X:Cx}{ζ:List (Addr×Obj)}{σ:St}{H:Hp}{s:Shared}{h':Heap}{its:List Addr}{T:Addr}{o:HO}{t':Nat}(I:Inv X ζ σ H s)(k:∀b u,b∉its->s.heap.get? b=some u->h'.get? b=some u)(f:∀b∈its,tR X ζ H b)(hT:s.heap.objs.size<=T)(new:bT X.prog X.w (upd H T o) h' T o):
  Inv X ζ σ (upd H T o) {s with heap:=h',toks:=t'}:=by
 have hn:=I.aY.fresh hT;have Ti:∀b u,H b=some u->b∉its:=λb u e z=>by rw [(f b z).1] at e;cases e
 refine I.call (ch:=its) (g':=s.gens) (d':=s.drawn) (t':=t') ⟨λb u q _ _ hb=>k b u hb q,λb u q _ _ hb=>⟨u.slots,k b u hb q⟩,λb u q n _=>?_,λb u q hb=>⟨u,k b u hb q⟩,λb xs q=>?_,λb u xs q=>?_,λb ps q=>⟨#[],?_⟩⟩ (λb u e=>?_) I.bare λb hb=>?_
 ·rw [Κ (aaI (aat (Heap.lt_size q) hT))];exact n
 ·rw [Κ (bP q hn)];exact q
 ·rw [Κ (bP q hn)];exact q
 ·rw [Κ (bP q hn),q];simp
 ·by_cases hb:b=T
  ·subst hb;rw [ao] at e;cases e;exact new
  ·rw [Κ hb] at e;refine (I.aY b u e).Bu (λc v hc q=>k c v ?_ q) (λc q=>by rw [Κ (bP q hn)];exact q) λc xs q=>by rw [Κ (bP q hn)];exact q
   rcases hc with z|z
   ·rw [z];exact Ti b u e
   ·exact Ti c _ z
 ·obtain ⟨f0,f1,f2,f3,f4,f5⟩:=f b hb;exact ⟨f3,f1,f4,f5⟩
def Ite(K:fI)(l:Addr):It:=
 ⟨λi H=>∃xs x,gu K H l xs/\xs[i]? =some x,λi H v H'=>∃p x,H p=none/\v= .ref p/\H'=upd H p (.tup [.int i,x])/\∀xs,gu K H l xs->xs[i]? =some x,λi H=>∃xs,gu K H l xs/\xs.length<=i⟩
theorem FG{P:Program}{w:World}{K:fI}{elts:List Expr}{x1:Nat}{tp:Pos}(l it e:Addr)(lI:e≠it):Turn P w K (.Tuple elts x1 tp) (Ite K l) [e,it] e (λi h=>(∃old,IsEnum h e it i old)/\h.IsListIter it l i) where
 mem:=by simp
 obj:=λi h st b hb=>by
  obtain ⟨⟨old,he⟩,hi⟩:=st;rcases aaC.mp hb with rfl|hb
  ·exact ⟨_,he,λv z=>by
    have z':Data.fields _=Data.cell v:=z
    cases z'⟩
  ·have e:b=it:=by simpa using hb
   subst e;obtain ⟨o,e,c,d⟩:=hi;exact ⟨o,e,λv z=>by rw [d] at z;cases z⟩
 keep:=λi h h' st k=>by obtain ⟨⟨old,he⟩,hi⟩:=st;exact ⟨⟨old,k e (by simp) _ he⟩,hi.at λo q=>k it (by simp) o q⟩
 item:=by
  intro X hP hw hK hc i ζ s σ H E I hf st hg;subst hP hw hK;obtain ⟨⟨old,he⟩,hi⟩:=st;obtain ⟨xs,x,hq,hx⟩:=hg;obtain ⟨its,rv,p,hz⟩:=I.list hq;obtain ⟨u,hu,ru⟩:=rv.get hx;refine wpAny_pyNext_enum_item he hi p.isList (x:=u) (by simpa using hu) lI λh' ho DJ hT hsz hk=>?_;refine ⟨_,rfl,wpAny_letOwnedTupleGo_enum (s:={s with heap:=h',toks:=s.toks+1}) ho λh2 he2 sb=>?_⟩;have sb:Heap.SameBut e h' h2:=sb;have elt:e<s.heap.objs.size:=Heap.lt_size he;have ilt:it<s.heap.objs.size:=by obtain ⟨o,q,_⟩:=hi;exact Heap.lt_size q
  have neT:s.heap.objs.size≠e:=acf elt;have hT2:h2.get? s.heap.objs.size=some {cls:= .type "tuple",data:= .seq #[.int i s.toks,u]}:=(sb.2 _ neT).trans hT;have I2:Inv X ζ σ (upd H s.heap.objs.size (.tup [.int i,x])) {s with heap:=h2,toks:=s.toks+1}:=by
   refine I.vG (its:=[e,it]) (λb o hb q=>?_) hf (aai _) ?_
   ·have h1:b≠e:=λz=>hb (by simp [z]);have h3:b≠it:=λz=>hb (by simp [z]);exact (sb.2 b h1).trans (hk b o h1 h3 q)
   ·refine ⟨by simp [sizeLine_eq],[.int i s.toks,u],.cons ⟨_,rfl⟩ (.cons ru .nil),?_⟩;exact ⟨_,hT2,rfl,0,rfl⟩
  have iter:h2.IsListIter it l (i+1):=DJ.at λo q=>(sb.2 it (Ne.symm lI)).trans q;refine ⟨.ref s.heap.objs.size,_,I2,rfl,⟨s.heap.objs.size,x,I.aY.fresh (Nat.le_refl _),rfl,rfl,λys hy=>by rw [I.gF hy hq];exact hx⟩,⟨⟨u,by simpa using he2⟩,iter⟩,λb hb=>?_⟩;have nb:b≠s.heap.objs.size:=by
   rcases aaC.mp hb with rfl|hb
   ·exact aaI elt
   ·have:b=it:=by simpa using hb
    subst this;exact aaI ilt
  rw [Κ nb];exact (hf b hb).1
 done:=by intro X hP hw hK hc i ζ s σ H E I hf st hg;subst hP hw hK;obtain ⟨⟨old,he⟩,hi⟩:=st;obtain ⟨xs,hq,hx⟩:=hg;obtain ⟨its,rv,p,hz⟩:=I.list hq;have hl:=rv.length;obtain ⟨f0,f1,f2,f3,f4,f5⟩:=hf it (by simp);refine wpAny_pyNext_enum_end (I.ok.hd hc) he hi p.isList (by simp;omega) λh' ext=>⟨rfl,I.turned (t':=s.toks) (λb o hb q=>ext b o hb q) f0 f1 f3 f4 f5⟩
 self:=λ_ _ _ _ _ st h=>by obtain ⟨⟨old,he⟩,_⟩:=st;exact wpAny_pyIter_enum he h
def iT:Nat->List Dt->List Dt
 |_,[]=>[]
 |n,x::xs=> .tup [.int n,x]::iT (n+1) xs
theorem jq:∀(n:Nat) (xs:List Dt),(iT n xs).length=xs.length
 |_,[]=>rfl
 |n,_::xs=>by unfold iT;rw [List.length_cons,List.length_cons,jq]
theorem pN:∀{n i:Nat}{xs:List Dt}{d:Dt},(iT n xs)[i]? =some d->∃x,xs[i]? =some x/\d= .tup [.int ((n+i:Nat):Int),x]
 |n,i,[],d,h=>by simp [iT] at h
 |n,0,x::xs,d,h=>by unfold iT at h;simp at h;exact ⟨x,rfl,by rw [<-h];simp⟩
 |n,i+1,x::xs,d,h=>by unfold iT at h;obtain ⟨y,h1,h2⟩:=pN (n:=n+1) (i:=i) (xs:=xs) (d:=d) (by simpa using h);exact ⟨y,by simpa using h1,by rw [h2,show n+1+i=n+(i+1) by omega]⟩
theorem IV{K:fI}{G:Hp}{L:List Addr}{a:Addr}{xs:List Dt}{ok:Ms->Prop}(s:Src K a xs ok G L):QO K (Ite K a) (iT 0 xs) ok G L where
 go:=λi G1 L1 M1 H1 d g l r k e=>by obtain ⟨vs,hs,n⟩:=s.at_ G1 L1 M1 H1 g l r k;obtain ⟨y,ey,rfl⟩:=pN e;obtain ⟨v,e1,n1⟩:=n.get ey;refine ⟨⟨vs,v,hs,e1⟩,λv' H' ⟨p,x,hp,ev,eH,hx⟩=>?_⟩;subst ev eH;have e2:=hx vs hs;rw [e1] at e2;cases e2;refine ⟨_,r.Ry hp,r.M9 hp,n_ (ds:=[.int ((0+i:Nat):Int),y]) r hp ⟨_,_,rfl,?_,_,_,rfl,n1,rfl⟩⟩;show V.int i=V.int _;rw [Nat.zero_add]
 stop:=λi G1 L1 M1 H1 g l r k e=>by obtain ⟨vs,hs,n⟩:=s.at_ G1 L1 M1 H1 g l r k;exact ⟨vs,hs,by rw [<-n.length,<-jq 0];exact e⟩
def UH(t:DA):DK:=λρ M q x=>t ρ M (λds M1=>∃d xs ok,ds=[d]/\kY M1 d=some (xs,ok)/\q (iT 0 xs) ok M1) x
theorem x8{X:Cx}{R:St->XK}{elts:List Expr}{x1:Nat}{tp:Pos}{a:Expr}{t:DA}{p pos:Pos}(hm:X.mg "enumerate"=none)(ha:JA X R [a] t)(hg:Gl X "enumerate":=by rfl)(hs:starEach [a] X.env=[(false,eval a X.env)]:=by rfl):JK X R (.Tuple elts x1 tp) (.Call (.Name "enumerate" p) [a] [] pos) (UH t):=by
 intro ζ s σ H Q I ⟨G,L,ρ,M,q,x,rl,n,ht,hx,hQ⟩;refine Call_ (mC I hg hm Ci (PyProof.Rows.callWith_type1 (bA (ha pos ζ s σ H (NP X.K G L H _) I ⟨G,L,ρ,M,_,x,rl,n,ht,hx,λ_ _ f=>f⟩) λus s1 ⟨vs,H1,I1,rv,ds,G1,L1,M1,e1,r1,n1,d,xs,ok,ed,hl,h1⟩=>?_) hs rfl));subst ed;obtain ⟨v,rfl,n2⟩:=bo n1;obtain ⟨b,ws,rfl,sq,sr,_⟩:=qV r1 n2 hl;obtain ⟨u,rfl,ru⟩:=ax.one rv;cases ru;obtain ⟨its,_,pl,_⟩:=I1.list sq;refine call_enumerate_list pl.isList λh' he hi hz hk=>?_;have I2:Inv X ζ σ H1 {s1 with heap:=h'}:=I1.kept (t':=s1.toks) hk;refine wpAny_pyIter_enum (s:={s1 with heap:=h'}) he ⟨s1.heap.objs.size+1,[s1.heap.objs.size+1,s1.heap.objs.size],_,_,H1,rfl,I2,FG b s1.heap.objs.size (s1.heap.objs.size+1) (acf (abc _)),⟨⟨_,he⟩,hi⟩,λc hc=>?_,hQ _ _ ⟨_,ok,G1,L1,M1,e1,r1,IV sr,h1⟩⟩;have hc:s1.heap.objs.size<=c:=by
  rcases aaC.mp hc with rfl|hc
  ·exact Nat.le_succ _
  ·have:c=s1.heap.objs.size:=by simpa using hc
   rw [this];exact aai _
 have f:=I1.BG (H':=H1) hc (I1.aY.fresh hc);exact f
def Jf(M:Ms):Dt->Option Value
 |.loc k=>match M[k]? with
  |some (.lst _)=>some (.type "list")
  |_=>none
 |d=>OB d
def Ox(K:fI):List Dt->Ms->DQ->Prop:=λds M q=>∃d c t t' b,ds=[d,c]/\Jf M d=some t/\T5 c=some t'/\PySem.W.kitOne K t t'=some b/\q (.bl b) M
section
variable{K:fI}
theorem C_{G:Hp}{L:List Addr}{M:Ms}{H:Hp}{d:Dt}{v:V}{t:Value}(r:Rl K G L M H)(n:Den K G L d v)(h:Jf M d=some t):lD K H v t:=by
 by_cases hd:∃k,d= .loc k
 ·obtain ⟨k,rfl⟩:=hd;obtain ⟨a,rfl,e⟩:=n;have h:(match M[k]? with|some (.lst _)=>some (Value.type "list")|_=>none)=some t:=h;split at h
  ·rename_i xs hm;cases h;obtain ⟨_,vs,e1,_⟩:=r.gD k a _ e hm;exact .lst e1
  ·cases h
 ·refine G7 r n ?_;cases d with
  |loc k=>exact absurd ⟨k,rfl⟩ hd
  |_=>exact h
theorem UT:DN K (λxs H Q=>∃x c t t' b,xs=[x,c]/\lD K H x t/\Nk c=some t'/\PySem.W.kitOne K t t'=some b/\Q (.bl b) H) (Ox K):=by intro G0 L0 H0 G L M H vs ds q e r n ⟨d,c,t,t',b,ed,h1,h2,hb,h⟩;subst ed;obtain ⟨v,u,rfl,n1,n2⟩:=gP n;exact ⟨v,u,t,t',b,rfl,C_ r n1 h1,NC n2 h2,hb,bx e r h⟩
end
section
variable{X:Cx}{R:St->XK}{e e2:Expr}{t:DA}{p pos:Pos}
theorem ym(K:fI)(hm:X.mg "isinstance"=none)(ha:JA X R [e,e2] t)(he:starEach [e,e2] X.env=(false,eval e X.env)::starEach [e2] X.env:=by rfl)(gq:(backTo pos (starEach [e2] X.env)).any (·.1)=false:=by rfl)(hg:Gl X "isinstance":=by rfl)(hK:X.K=K:=by rfl):JE X R (.Call (.Name "isinstance" p) [e,e2] [] pos) (C4 (Ox K) t):=by subst hK;exact h9 Ag UT hm pC ha hg (by decide) (by decide) he gq
theorem vj:∀{zs:List Str}{us:List Value},Paired (λ(z:Str) (u:Value)=>∃tk,u= .str z tk) zs us->ax (zs.map V.str) us
 |_,_,.nil=> .nil
 |_,_,.cons h t=> .cons h (vj t)
theorem Ks{x:Str}{zs:List Str}(hm:∃a o its n,X.mg x=some (.ref a)/\X.K.lookup a=some o/\o.cls= .type "tuple"/\o.data= .seq its n/\its.size<=sizeLine/\Paired (λ(z:Str) (u:Value)=>∃tk,u= .str z tk) zs its.toList)(hg:Gl X x:=by rfl)(hd:(x==("__debug__":Str))=false:=by decide):JE X R (.Name x pos) (dC (.kt (zs.map .str))):=by obtain ⟨a,o,its,n,h1,h2,h3,h4,h5,h6⟩:=hm;exact Pm (v:= .ref a) (Dm hg h1 rfl hd) λG L=>⟨a,zs.map V.str,rfl,.inr ⟨o,its,n,h2,h3,h4,h5,vj h6⟩,u6⟩
end
theorem gx{te:DE}{cs:En}{ok:Ms->Prop}{f:Dt->Dt}:∀{xs Ζ:List Dt}{M:Ms}{k:List Dt->Ms->Prop},ok M->(∀x∈xs,∀q:DQ,q (f x) M->te (some x::cs) M q k4)->k (Ζ++xs.map f) M->nN te cs ok xs Ζ M k
 |[],Ζ,M,k,ho,_,h=>⟨ho,by simpa using h⟩
 |x::xs,Ζ,M,k,ho,hf,h=>⟨ho,hf x List.mem_cons_self _ (gx ho (λy hy=>hf y (List.mem_cons_of_mem _ hy)) (by simpa using h))⟩
theorem cc{g:Dt->En->(En->Prop)->Prop}{tb:DS}{Dn:lG}{ok:Ms->Prop}(J:List Dt->En->Ms->Prop)(aY:∀xs ρ M,J xs ρ M->ok M)
  (step:∀x xs ρ M,J (x::xs) ρ M->(∀ρ M,J xs ρ M->xr g tb Dn ok xs ρ M)->g x ρ λρ'=>tb {Dn with nx:=xr g tb Dn ok xs,ct:=xr g tb Dn ok xs,bk:=Dn.nx} ρ' M)
  (fin:∀ρ M,J [] ρ M->Dn.nx ρ M):∀(xs:List Dt) (ρ:En) (M:Ms),J xs ρ M->xr g tb Dn ok xs ρ M
 |[],ρ,M,h=>⟨aY _ _ _ h,fin _ _ h⟩
 |x::xs,ρ,M,h=>⟨aY _ _ _ h,step x xs ρ M h λρ' M' h'=>cc J aY step fin xs ρ' M' h'⟩
section
variable{K:fI}{G:Hp}{L:List Addr}
mutual
theorem OR:∀(d:Dt) (v:V),Den K G L d v->d.under L.length
 |.bw,_,_=>trivial
 |.bl _,_,_=>trivial
 |.int _,_,_=>trivial
 |.str _,_,_=>trivial
 |.tup ds,_,⟨a,vs,e,h1,h2⟩=>fE ds vs h2
 |.lst ds,_,⟨a,vs,e,h1,h2⟩=>fE ds vs h2
 |.obj C ns ds,_,⟨a,dx,vs,e,h1,hl,h2⟩=>fE ds vs h2
 |.loc k,_,⟨a,e,h1⟩=>(aaf.mp h1).1
 |.ref _,_,_=>trivial
 |.ty _,_,_=>trivial
 |.kj _,_,_=>trivial
 |.kt ds,_,⟨a,vs,e,h1,h2⟩=>fE ds vs h2
 |.exc _ _ ds,_,⟨a,od,vs,e,h1,h2,h3,h4⟩=>fE ds vs h4
 |.Sl _ _ _ _ ds,_,⟨vs,e,h2,h3,h4⟩=>fE ds vs h4
theorem fE:∀(ds:List Dt) (vs:List V),Χ K G L ds vs->Dt.bC L.length ds
 |[],_,_=>trivial
 |d::ds,_,⟨v,r,e,h1,h2⟩=>⟨OR d v h1,fE ds r h2⟩
end
theorem Rl.un{M:Ms}{H:Hp}(r:Rl K G L M H):∀m∈M,MO.under M.length m:=λm hm=>by
 obtain ⟨k,hk,e⟩:=aa0 hm;have em:M[k]? =some m:=by rw [aaa hk,e]
 have el:L[k]? =some (L[k]'(by rw [r.len];exact hk)):=aaa _;obtain ⟨_,q⟩:=r.gD k _ m el em;rw [<-r.len];cases m with
 |lst ds=>obtain ⟨vs,_,h⟩:=q;exact fE _ _ h
 |ins C ns ds=>obtain ⟨dx,vs,_,_,h⟩:=q;exact fE _ _ h
 |fF ks ds=>obtain ⟨vs,_,_,h⟩:=q;exact fE _ _ h
 |raw u=>trivial
end
def tV(M0:Ms)(q:DQ):DQ:=λd M=>∃E d',M=M0++E/\Hv M0.length E d d'/\q d' M0
theorem Fin.tV{K:fI}{G0:Hp}{L0:List Addr}{M0:Ms}{H0:Hp}{q:DQ}{v:V}{H:Hp}(r0:Rl K G0 L0 M0 H0)(f:Fin K G0 L0 H0 (tV M0 q) v H):Fin K G0 L0 H0 q v H:=by obtain ⟨d,G,L,M,ex,r,dn,E,d',e,fz,hq⟩:=f;exact Fin.yL r0 ⟨d,G,L,M,ex,r,dn,M0,E,d',e,rfl,r0.un,fz,hq⟩
def S4(t:DE):DE:=λρ M q x=>t ρ M (tV M q) x
theorem b9{X:Cx}{R:St->XK}{e:Expr}{t:DE}(h:JE X R e t):JE X R e (S4 t):= .of h λσ H G L ρ M q x rl n ht hx=>⟨G,L,ρ,M,_,x,rl,n,ht,hx,λv H1 f=>Fin.tV rl f⟩
theorem LM{M0:Ms}{q:DQ}{d:Dt}(hu:d.under M0.length)(h:q d M0):tV M0 q d M0:=⟨[],d,by simp,.old hu,h⟩
theorem iG{M0 E:Ms}{q:DQ}{d d':Dt}(f:Hv M0.length E d d')(h:q d' M0):tV M0 q d (M0++E):=⟨E,d',rfl,f,h⟩
def f_(f:Expr->Option Dt):List Expr->Option (List Dt)
 |[]=>some []
 |e::es=>match f e,f_ f es with
  |some d,some ds=>some (d::ds)
  |_,_=>none
def gS:Nat->Expr->Option Dt
 |0,e=>match e with
  |.Constant (.int i) _ _=>some (.int i)
  |.Constant (.str x) _ _=>some (.str x)
  |_=>none
 |n+1,e=>match e with
  |.Constant (.int i) _ _=>some (.int i)
  |.Constant (.str x) _ _=>some (.str x)
  |.Tuple es _ _=>if es.length<=100 then (f_ (gS n) es).map .tup else none
  |.List es _=>if es.length<=100 then (f_ (gS n) es).map .lst else none
  |_=>none
theorem Cy{n:Nat}{e:Expr}{d:Dt}{es:List Expr}{env:Env}(h:gS n e=some d):starEach (e::es) env=(false,eval e env)::starEach es env:=by cases n <;> (unfold gS at h;split at h <;> first|rfl|cases h)
theorem jY{f:Expr->Option Dt}:∀{es:List Expr}{ds:List Dt},f_ f es=some ds->ds.length=es.length
 |[],ds,h=>by cases h;rfl
 |e::es,ds,h=>by
  unfold f_ at h;split at h
  ·rename_i d mS h1 h2;cases h;rw [aax,aax,jY h2]
  ·cases h
section
variable{X:Cx}{R:St->XK}
theorem sZ{n:Nat}(ih:∀(e:Expr) (d:Dt),gS n e=some d->JE X R e (dC d)):∀(es:List Expr) (ds:List Dt),f_ (gS n) es=some ds->JA X R es (λ_ M q _=>q ds M)
 |[],ds,h=>by cases h;exact θ
 |e::es,ds,h=>by
  unfold f_ at h;split at h
  ·rename_i d mS h1 h2;cases h;exact ι (ih e d h1) (sZ ih es mS h2) (hs:=Cy h1)
  ·cases h
theorem Eo{n:Nat}(h:n<=100):n<=sizeLine:=aap h (by decide)
theorem JE.imp{e:Expr}{t t':DE}(h:JE X R e t)(hi:∀ρ M q x,t' ρ M q x->t ρ M q x):JE X R e t':= .of h λσ H G L ρ M q x rl n ht hx=>⟨G,L,ρ,M,q,x,rl,n,hi _ _ _ _ ht,hx,λ_ _ f=>f⟩
theorem eR:∀(n:Nat) {e:Expr}{d:Dt},gS n e=some d->JE X R e (dC d)
 |0,e,d,h=>by
  unfold gS at h;split at h
  ·cases h;exact ω
  ·cases h;exact jI
  ·cases h
 |n +1,e,d,h=>by
  unfold gS at h;split at h
  ·cases h;exact ω
  ·cases h;exact jI
  ·split at h
   ·rename_i es _ _ hl;cases hc:f_ (gS n) es with
    |none=>rw [hc] at h;cases h
    |some ds=>
     rw [hc] at h;cases h;exact (c7 (sZ (λe d=>eR n) es ds hc)).imp λρ M q x hq=>⟨Eo (by rw [jY hc];exact hl),hq⟩
   ·cases h
  ·split at h
   ·rename_i es _ hl;cases hc:f_ (gS n) es with
    |none=>rw [hc] at h;cases h
    |some ds=>
     rw [hc] at h;cases h;exact (lH (sZ (λe d=>eR n) es ds hc)).imp λρ M q x hq=>⟨Eo (by rw [jY hc];exact hl),hq⟩
   ·cases h
  ·cases h
end
theorem FC:bootBuiltins "zip"=some (.type "zip"):=by decide+kernel
theorem Inv.LO{X:Cx}{ζ:List (Addr×Obj)}{σ:St}{H:Hp}{s:Shared}{h':Heap}{its:List Addr}{t':Nat}(I:Inv X ζ σ H s)(k:∀b u,b∉its->s.heap.get? b=some u->h'.get? b=some u)(f:∀b∈its,tR X ζ H b):
  Inv X ζ σ H {s with heap:=h',toks:=t'}:=by
 have Ti:∀b u,H b=some u->b∉its:=λb u e z=>by rw [(f b z).1] at e;cases e
 refine I.call (ch:=its) (g':=s.gens) (d':=s.drawn) (t':=t') ⟨λb u q _ _ hb=>k b u hb q,λb u q _ _ hb=>⟨u.slots,k b u hb q⟩,λb u q n _=>n,λb u q hb=>⟨u,k b u hb q⟩,λb xs q=>q,λb u xs q=>q,λb ps q=>⟨#[],by rw [q];simp⟩⟩ (λb u e=>?_) I.bare λb hb=>?_
 ·refine (I.aY b u e).Bu (λc v hc q=>k c v ?_ q) (λc q=>q) λc xs q=>q;rcases hc with z|z
  ·rw [z];exact Ti b u e
  ·exact Ti c _ z
 ·obtain ⟨f0,f1,f2,f3,f4,f5⟩:=f b hb;exact ⟨f3,f1,f4,f5⟩
def ZK(K:fI)(l1 l2:Addr):It:=
 ⟨λi H=>∃xs ys x y,gu K H l1 xs/\gu K H l2 ys/\xs[i]? =some x/\ys[i]? =some y,
  λi H v H'=>∃p x y,H p=none/\v= .ref p/\H'=upd H p (.tup [x,y])/\(∀xs,gu K H l1 xs->xs[i]? =some x)/\∀ys,gu K H l2 ys->ys[i]? =some y,
  λi H=>∃xs ys,gu K H l1 xs/\gu K H l2 ys/\(xs.length<=i\/ys.length<=i)⟩
theorem JO{P:Program}{w:World}{K:fI}{elts:List Expr}{x1:Nat}{tp:Pos}{l1 l2 i1 i2 TI TO z:Addr}(D:ZipApart z TI TO i1 i2 l1 l2):Turn P w K (.Tuple elts x1 tp) (ZK K l1 l2) [z,TI,TO,i1,i2] z (λi h=>(∃a b,IsZip h z TI TO .none/\IsPair h TI (.ref i1) (.ref i2)/\IsPair h TO a b)/\h.IsListIter i1 l1 i/\h.IsListIter i2 l2 i) where
 mem:=by simp
 obj:=λi h st b hb=>by
  obtain ⟨⟨a,c,hz,HX,Li⟩,h1,h2⟩:=st;simp only [List.mem_cons,List.not_mem_nil,or_false] at hb;rcases hb with rfl|rfl|rfl|rfl|rfl
  ·exact ⟨_,hz,λv z=>by
    have z':Data.fields _=Data.cell v:=z
    cases z'⟩
  ·exact ⟨_,HX,λv z=>by
    have z':Data.seq _=Data.cell v:=z
    cases z'⟩
  ·exact ⟨_,Li,λv z=>by
    have z':Data.seq _=Data.cell v:=z
    cases z'⟩
  ·obtain ⟨o,e,c,d⟩:=h1;exact ⟨o,e,λv z=>by rw [d] at z;cases z⟩
  ·obtain ⟨o,e,c,d⟩:=h2;exact ⟨o,e,λv z=>by rw [d] at z;cases z⟩
 keep:=λi h h' st k=>by obtain ⟨⟨a,c,hz,HX,Li⟩,h1,h2⟩:=st;exact ⟨⟨a,c,k z (by simp) _ hz,k TI (by simp) _ HX,k TO (by simp) _ Li⟩,h1.at λo q=>k i1 (by simp) o q,h2.at λo q=>k i2 (by simp) o q⟩
 item:=by
  intro X hP hw hK hc i ζ s σ H E I hf st hg;subst hP hw hK;obtain ⟨⟨a,c,hz,HX,Li⟩,h1,h2⟩:=st;obtain ⟨xs,ys,x,y,UL,RK,hx,hy⟩:=hg;obtain ⟨Y',Zf,p1,_⟩:=I.list UL;obtain ⟨u1,hu1,ru1⟩:=Zf.get hx;obtain ⟨HS,Zs,p2,_⟩:=I.list RK;obtain ⟨u2,hu2,ru2⟩:=Zs.get hy;refine wpAny_pyNext_zip_item D hz HX Li h1 h2 p1.isList p2.isList (x:=u1) (y:=u2) (by simpa using hu1) (by simpa using hu2) λh' hz' Yt Xa h2' hT hsz hk=>?_;refine ⟨_,rfl,wpAny_letOwnedTupleGo_zip (s:={s with heap:=h'}) hz' λh3 hz3 sb=>?_⟩;have sb:Heap.SameBut z h' h3:=sb;have zlt:z<s.heap.objs.size:=Heap.lt_size hz;have neT:s.heap.objs.size≠z:=acf zlt;have hT3:h3.get? s.heap.objs.size=some {cls:= .type "tuple",data:= .seq #[u1,u2]}:=(sb.2 _ neT).trans hT;have lt:∀b∈[z,TI,TO,i1,i2],b<s.heap.objs.size:=λb hb=>by
   simp only [List.mem_cons,List.not_mem_nil,or_false] at hb;rcases hb with rfl|rfl|rfl|rfl|rfl
   ·exact zlt
   ·exact Heap.lt_size HX
   ·exact Heap.lt_size Li
   ·obtain ⟨o,q,_⟩:=h1;exact Heap.lt_size q
   ·obtain ⟨o,q,_⟩:=h2;exact Heap.lt_size q
  have I2:Inv X ζ σ (upd H s.heap.objs.size (.tup [x,y])) {s with heap:=h3,toks:=s.toks}:=by
   refine I.vG (its:=[z,TI,TO,i1,i2]) (λb o hb q=>?_) hf (aai _) ?_
   ·simp only [List.mem_cons,List.not_mem_nil,or_false,not_or] at hb;obtain ⟨b1,b2,b3,b4,b5⟩:=hb;exact (sb.2 b b1).trans (hk b o b1 b3 b4 b5 q)
   ·refine ⟨by simp [sizeLine_eq],[u1,u2],.cons ru1 (.cons ru2 .nil),?_⟩;exact ⟨_,hT3,rfl,0,rfl⟩
  refine ⟨.ref s.heap.objs.size,_,I2,rfl,⟨s.heap.objs.size,x,y,I.aY.fresh (aai _),rfl,rfl,λzs XR=>by rw [I.gF XR UL];exact hx,λzs XR=>by rw [I.gF XR RK];exact hy⟩,⟨⟨u1,u2,hz3,(sb.2 _ D.TIz).trans (hk _ _ D.TIz D.TITO D.TIi1 D.TIi2 HX),(sb.2 _ D.TOz).trans Yt⟩,Xa.at λo q=>(sb.2 i1 D.i1z).trans q,h2'.at λo q=>(sb.2 i2 D.i2z).trans q⟩,λb hb=>?_⟩;rw [Κ (aaI (lt b hb))];exact (hf b hb).1
 done:=by intro X hP hw hK hc i ζ s σ H E I hf st hg;subst hP hw hK;obtain ⟨⟨a,c,hz,HX,Li⟩,h1,h2⟩:=st;obtain ⟨xs,ys,UL,RK,hx⟩:=hg;obtain ⟨Y',Zf,p1,_⟩:=I.list UL;obtain ⟨HS,Zs,p2,_⟩:=I.list RK;have Yy:=Zf.length;have Fh:=Zs.length;refine wpAny_pyNext_zip_end (I.ok.hd hc) D hz HX Li h1 h2 p1.isList p2.isList (by rcases hx with hx|hx;(left;simp;omega);(right;simp;omega)) λh' ext=>⟨rfl,I.LO (t':=s.toks) (its:=[z,TI,TO,i1,i2]) (λb o hb q=>?_) hf⟩;simp only [List.mem_cons,List.not_mem_nil,or_false,not_or] at hb;obtain ⟨b1,b2,b3,b4,b5⟩:=hb;exact ext b o b1 b3 b4 b5 q
 self:=λ_ _ _ _ _ st h=>by obtain ⟨⟨a,c,hz,_,_⟩,_⟩:=st;exact wpAny_pyIter_zip hz h
def qA(xs ys:List Dt):List Dt:=(xs.zip ys).map λp=> .tup [p.1,p.2]
theorem HM{xs ys:List Dt}{i:Nat}{d:Dt}(h:(qA xs ys)[i]? =some d):∃x y,xs[i]? =some x/\ys[i]? =some y/\d= .tup [x,y]:=by
 unfold qA at h;rw [aal] at h;cases e:(xs.zip ys)[i]? with
 |none=>rw [e] at h;cases h
 |some p=>
  rw [e] at h;cases h;obtain ⟨h1,h2⟩:=List.getElem?_zip_eq_some.mp e;exact ⟨p.1,p.2,h1,h2,rfl⟩
theorem yX(xs ys:List Dt):(qA xs ys).length=min xs.length ys.length:=by unfold qA;rw [List.length_map,List.length_zip]
theorem MM{K:fI}{G:Hp}{L:List Addr}{a b:Addr}{xs ys:List Dt}{ok RB:Ms->Prop}(s:Src K a xs ok G L)(s':Src K b ys RB G L):QO K (ZK K a b) (qA xs ys) (λM=>ok M/\RB M) G L where
 go:=λi G1 L1 M1 H1 d g l r k e=>by obtain ⟨vs,hs,n⟩:=s.at_ G1 L1 M1 H1 g l r k.1;obtain ⟨Vh,VS,n'⟩:=s'.at_ G1 L1 M1 H1 g l r k.2;obtain ⟨x,y,ex,ey,rfl⟩:=HM e;obtain ⟨v,e1,n1⟩:=n.get ex;obtain ⟨v',e1',n1'⟩:=n'.get ey;refine ⟨⟨vs,Vh,v,v',hs,VS,e1,e1'⟩,λw H' ⟨p,x2,y2,hp,ev,eH,hx,hy⟩=>?_⟩;subst ev eH;have e2:=hx vs hs;rw [e1] at e2;cases e2;have e3:=hy Vh VS;rw [e1'] at e3;cases e3;exact ⟨_,r.Ry hp,r.M9 hp,n_ (ds:=[x,y]) r hp ⟨_,_,rfl,n1,_,_,rfl,n1',rfl⟩⟩
 stop:=λi G1 L1 M1 H1 g l r k e=>by obtain ⟨vs,hs,n⟩:=s.at_ G1 L1 M1 H1 g l r k.1;obtain ⟨Vh,VS,n'⟩:=s'.at_ G1 L1 M1 H1 g l r k.2;refine ⟨vs,Vh,hs,VS,?_⟩;rw [<-n.length,<-n'.length];rw [yX] at e;omega
def V2(t:DA):DK:=λρ M q x=>t ρ M (λds M1=>∃d d' xs ys ok RB,ds=[d,d']/\kY M1 d=some (xs,ok)/\kY M1 d'=some (ys,RB)/\q (qA xs ys) (λM=>ok M/\RB M) M1) x
theorem Bj{X:Cx}{R:St->XK}{elts:List Expr}{x1:Nat}{tp:Pos}{a a':Expr}{t:DA}{p pos:Pos}(hm:X.mg "zip"=none)(ha:JA X R [a,a'] t)(hg:Gl X "zip":=by rfl)(hs:starEach [a,a'] X.env=(false,eval a X.env)::starEach [a'] X.env:=by rfl)(gq:(backTo pos (starEach [a'] X.env)).any (·.1)=false:=by rfl):JK X R (.Tuple elts x1 tp) (.Call (.Name "zip" p) [a,a'] [] pos) (V2 t):=by
 intro ζ s σ H Q I ⟨G,L,ρ,M,q,x,rl,n,ht,hx,hQ⟩;refine Call_ (mC I hg hm FC (PyProof.Rows.callWith_type1 (bA (ha pos ζ s σ H (NP X.K G L H _) I ⟨G,L,ρ,M,_,x,rl,n,ht,hx,λ_ _ f=>f⟩) λus s1 ⟨vs,H1,I1,rv,ds,G1,L1,M1,e1,r1,n1,d,d',xs,ys,ok,RB,ed,hl,Yg,h1⟩=>?_) hs gq));subst ed;obtain ⟨v,v',rfl,n2,n2'⟩:=gP n1;obtain ⟨b,ws,rfl,sq,sr,_⟩:=qV r1 n2 hl;obtain ⟨b',ws',rfl,sq',sr',_⟩:=qV r1 n2' Yg;cases rv with
 |cons ru rv=>
  cases rv with
  |cons ru' rv=>
   cases rv;cases ru;cases ru';obtain ⟨its,_,pl,_⟩:=I1.list sq;obtain ⟨its',_,zO,_⟩:=I1.list sq';have lt1:b<s1.heap.objs.size:=by obtain ⟨o,q,_⟩:=pl.isList;exact Heap.lt_size q
   have lt2:b'<s1.heap.objs.size:=by obtain ⟨o,q,_⟩:=zO.isList;exact Heap.lt_size q
   refine call_zip_2 pl.isList zO.isList λh' hz HX Li hi DJ hsz hk=>?_;have I2:Inv X ζ σ H1 {s1 with heap:=h'}:=I1.kept (t':=s1.toks) hk;have D:ZipApart (s1.heap.objs.size+4) (s1.heap.objs.size+2) (s1.heap.objs.size+3) s1.heap.objs.size (s1.heap.objs.size+1) b b':=by have ne:∀i j:Nat,i≠j->s1.heap.objs.size+i≠s1.heap.objs.size+j:=λi j h z=>h (Nat.add_left_cancel z);have n1:∀i:Nat,b≠s1.heap.objs.size+i:=λi=>aaI (aat lt1 (abv _ _));have n2:∀i:Nat,b'≠s1.heap.objs.size+i:=λi=>aaI (aat lt2 (abv _ _));exact ⟨ne 2 4 (by decide),ne 3 4 (by decide),ne 0 4 (by decide),ne 1 4 (by decide),ne 2 3 (by decide),ne 2 0 (by decide),ne 2 1 (by decide),ne 3 0 (by decide),ne 3 1 (by decide),ne 0 1 (by decide),n1 4,n1 3,n1 0,n1 1,n2 4,n2 3,n2 0,n2 1⟩
   refine wpAny_pyIter_zip (s:={s1 with heap:=h'}) hz ⟨s1.heap.objs.size+4,[s1.heap.objs.size+4,s1.heap.objs.size+2,s1.heap.objs.size+3,s1.heap.objs.size,s1.heap.objs.size+1],_,_,H1,rfl,I2,JO D,⟨⟨_,_,hz,HX,Li⟩,hi,DJ⟩,λc hc=>?_,hQ _ _ ⟨_,_,G1,L1,M1,e1,r1,MM sr sr',h1⟩⟩;have hc:s1.heap.objs.size<=c:=by
    simp only [List.mem_cons,List.not_mem_nil,or_false] at hc;rcases hc with rfl|rfl|rfl|rfl|rfl
    ·exact abv _ _
    ·exact abv _ _
    ·exact abv _ _
    ·exact aai _
    ·exact abv _ _
   have f:=I1.BG (H':=H1) hc (I1.aY.fresh hc);exact f
section
variable{X:Cx}{R:St->XK}{elt iter c:Expr}{x y:Str}{px py tp:Pos}{scope:Scope}{pos:Pos}{ti:DK}{tc:DT}{te:DE}{ys:List Str}{ae:List Nat}{kk:Nat}
theorem K4(S:ay X scope [x] ys ae)(hi:JK X R (.Name x px) iter ti)(ht:∀C s H fp,JT (Cx.comp X (x::ys) scope C s H fp) (λ_=>E0) c tc)(he:∀C s H fp,JE (Cx.comp X (x::ys) scope C s H fp) (λ_=>E0) elt te)(hc:X.calm=true:=by rfl)(hs:∀x,foldedSetIterable iter X.env x=pure x:=by intro _;rfl):JE X R (.ListComp elt [⟨.Name x px,iter,[c],0⟩] scope pos) (Bk 1 ti (gN 0) tc te ae):=Rz false S hi (gH S (i:=0) rfl) ba (gK (Nat.zero_lt_succ 0)) (λC s H fp=>EJ (ht C s H fp)) he hc hs λ_ _ _ _ h=>h
theorem IP(S:ay X scope [x,y] ys ae)(hi:JK X R (.Tuple [.Name x px, .Name y py] kk tp) iter ti)(ht:∀C s H fp,JT (Cx.comp X (x::y::ys) scope C s H fp) (λ_=>E0) c tc)(he:∀C s H fp,JE (Cx.comp X (x::y::ys) scope C s H fp) (λ_=>E0) elt te)(hc:X.calm=true:=by rfl)(hs:∀x,foldedSetIterable iter X.env x=pure x:=by intro _;rfl):JE X R (.ListComp elt [⟨.Tuple [.Name x px, .Name y py] kk tp,iter,[c],0⟩] scope pos) (Bk 2 ti (g2 0 1) tc te ae):=Rz false S hi (we hc S) mz (oQ (Nat.zero_lt_succ 1) (abc 1)) (λC s H fp=>EJ (ht C s H fp)) he hc hs λ_ _ _ _ h=>h
end
theorem fX{g:Dt->En->(En->Prop)->Prop}{tc:DT}{te:DE}{ρ0:En}{ok:Ms->Prop}{M:Ms}{k:List Dt->Ms->Prop}(ho:ok M)(b:Dt->Bool)(f:Dt->Dt):∀(xs Ζ:List Dt),(∀x∈xs,∀(q:DQ) (p:Ms->Prop),(b x=true->q (f x) M)->(b x=false->p M)->g x ρ0 λρ'=>tc ρ' M (λb' M1=>match b' with|true=>te ρ' M1 q k4|false=>p M1) k4)->
  k (Ζ++(xs.filter b).map f) M->i8 g tc te ρ0 ok xs Ζ M k
 |[],Ζ,_,h=>⟨ho,by simpa using h⟩
 |x::xs,Ζ,ht,h=>⟨ho,ht x List.mem_cons_self _ _ (λhb=>fX ho b f xs _ (λy hy=>ht y (List.mem_cons_of_mem _ hy)) (by simpa [hb] using h)) λhb=>fX ho b f xs _ (λy hy=>ht y (List.mem_cons_of_mem _ hy)) (by simpa [hb] using h)⟩
theorem vn(xs:List V)(k:Nat):qy xs (some (k:Int)) none=xs.drop k:=by
 unfold qy;rw [HT.n9,HT.zp];by_cases h:k<=xs.length
 ·rw [ab5 h,abB (by rw [abj];omega)]
 ·rw [Nat.min_eq_right (by omega),List.drop_eq_nil_of_le (Nat.le_refl _),List.drop_eq_nil_of_le (by omega)];simp
def X3(te tl:DE):DE:=λρ M q x=>te ρ M (λd M1=>tl ρ M1 (λdi M2=>∃ds n,d= .tup ds/\di= .int (n:Nat)/\1<=n/\1<=ds.length/\q (.tup (ds.drop n)) M2) x) x
theorem Gm{X:Cx}{R:St->XK}{e l:Expr}{te tl:DE}{pos p2:Pos}(he:JE X R e te)(hl:JE X R l tl):JE X R (.Subscript e (.Slice (some l) none none p2) pos) (X3 te tl):=
 .of (nV PR he (jy hl) yx) λσ H G L ρ M q x rl n h hx=>by
  refine ⟨G,L,ρ,M,_,x,rl,n,h,hx,λv H1 ⟨d1,G1,L1,M1,e1,r1,n1,h1⟩=>?_⟩;refine ⟨G1,L1,ρ,M1,_,x,r1,n.mono e1,h1,hx.on e1,λv2 H2 ⟨d2,G2,L2,M2,e2,r2,n2,ds,k,ed,ei,k1,l1,h2⟩=>?_⟩;subst ed ei;obtain ⟨a,vs,rfl,ea,m⟩:=Den.mono e2.g e2.l _ _ n1;have n2:v2= .int k:=n2;subst n2;have lv:=m.length;refine ⟨k,rfl,a,vs,rfl,.of (r2.sub _ _ ea),λz=>?_,λp hp=>?_⟩
  ·rw [HT.n9] at z;omega
  ·rw [vn];exact jE (e1.trans e2) r2 hp (n_ r2 hp (Χ.of (nF k m.pair))) h2
section
variable{κ:Type} [DecidableEq κ]
def jR(Ο:List (κ×V))(k:κ):Option V:=(Ο.find? λkv=>decide (kv.1=k)).map (·.2)
def iN(Ο:List (κ×V))(k:κ)(v:V):List (κ×V):=
 if (Ο.any λkv=>decide (kv.1=k))=true then Ο.map (λkv=>if kv.1=k then (kv.1,v) else kv) else Ο++[(k,v)]
theorem eV{p:κ×V}{r:List (κ×V)}{k:κ}(e:p.1=k):jR (p::r) k=some p.2:=by simp [jR,List.find?_cons,e]
theorem eF{p:κ×V}{r:List (κ×V)}{k:κ}(e:¬p.1=k):jR (p::r) k=jR r k:=by simp [jR,List.find?_cons,e]
theorem oj(k:κ):∀Ο:List (κ×V),(Ο.any λkv=>decide (kv.1=k))=(jR Ο k).isSome
 |[]=>rfl
 |p::r=>by
  rw [abM];by_cases e:p.1=k
  ·simp only [eV e,decide_eq_true e,Bool.true_or,Option.isSome_some]
  ·rw [eF e,decide_eq_false e,Bool.false_or];exact oj k r
theorem uW(k j:κ)(y:V):∀Ο:List (κ×V),jR Ο k=none->jR (Ο++[(k,y)]) j=if j=k then some y else jR Ο j
 |[],_=>by
  by_cases e:k=j
  ·rw [if_pos e.symm];exact eV (p:=(k,y)) e
  ·rw [if_neg (λz=>e z.symm)];exact eF (p:=(k,y)) e
 |p::r,hn=>by
  rw [List.cons_append];have hk:¬p.1=k:=λz=>by rw [eV z] at hn;cases hn
  rw [eF hk] at hn;have ih:=uW k j y r hn;by_cases e:p.1=j
  ·rw [eV e,eV e,if_neg (λz=>hk (e.trans z))]
  ·rw [eF e,eF e,ih]
theorem kS(Ο:List (κ×V))(k:κ)(v:V):(iN Ο k v).length<=Ο.length+1:=by
 unfold iN;split
 ·rw [aac];omega
 ·rw [aah,aax,ab6];omega
theorem Ib{Ο:List (κ×V)}{k:κ}(v:V)(h:jR Ο k=none):iN Ο k v=Ο++[(k,v)]:=by unfold iN;rw [oj,h];exact if_neg (by decide)
theorem j3.iX{o:Option V}{u:Option Value}(r:j3 o u):o.isSome=u.isSome:=by
 cases o with
 |none=>cases u with
  |none=>rfl
  |some _=>exact (show False from r).elim
 |some _=>cases u with
  |none=>exact (show False from r).elim
  |some _=>rfl
theorem KV.val{Ο:List (κ×V)}{vs:List (κ×Value)}(r:KV Ο vs)(k:κ):j3 (jR Ο k) (valueAt vs k):=by
 unfold KV at r
 induction r with
 |nil=>exact True.intro
 |@cons p q ps qs h t ih=>
  obtain ⟨h1,h2⟩:=h;by_cases e:p.1=k
  ·have e':q.1=k:=h1.symm.trans e;have b:valueAt (q::qs) k=some q.2:=by simp [valueAt,List.find?_cons,e']
   rw [eV e,b];exact h2
  ·have e':¬q.1=k:=λz=>e (h1.trans z);have b:valueAt (q::qs) k=valueAt qs k:=by simp [valueAt,List.find?_cons,e']
   rw [eF e,b];exact ih
theorem KV.any{Ο:List (κ×V)}{vs:List (κ×Value)}(r:KV Ο vs)(k:κ):(Ο.any λkv=>decide (kv.1=k))=vs.any λkv=>decide (kv.1=k):=by
 unfold KV at r
 induction r with
 |nil=>rfl
 |cons h t ih=>rw [abM,abM,ih,h.1]
theorem KV.Qf{Ο:List (κ×V)}{vs:List (κ×Value)}(r:KV Ο vs)(k:κ){y:V}{u:Value}(ry:aC y u):
  KV (Ο.map λkv=>if kv.1=k then (kv.1,y) else kv) (vs.map λkv=>if kv.1=k then (kv.1,u) else kv):=by
 unfold KV at r⊢
 induction r with
 |nil=>exact .nil
 |@cons p q ps qs h t ih=>
  rw [aaA,aaA];refine .cons ?_ ih;obtain ⟨h1,h2⟩:=h;by_cases e:p.1=k
  ·rw [if_pos e,if_pos (h1.symm.trans e)];exact ⟨h1,ry⟩
  ·rw [if_neg e,if_neg (λz=>e (h1.trans z))];exact ⟨h1,h2⟩
theorem KV.put{Ο:List (κ×V)}{vs:List (κ×Value)}(r:KV Ο vs)(k:κ){y:V}{u:Value}(ry:aC y u):KV (iN Ο k y) (stored vs k u):=by
 unfold iN stored;rw [r.any k];by_cases e:(vs.any λkv=>decide (kv.1=k))=true
 ·rw [if_pos e,if_pos e];exact r.Qf k ry
 ·rw [if_neg e,if_neg e];exact Paired.snoc r ⟨rfl,ry⟩
theorem KV.length{Ο:List (κ×V)}{vs:List (κ×Value)}(r:KV Ο vs):Ο.length=vs.length:=Paired.length r
end
theorem tJ{P:Program}{w:World}{k:Key}{u:Value}(r:aC (kV k) u):(bB P w).is k u=true:=by
 cases k with
 |inl i=>obtain ⟨t,e⟩:=(show∃t,u=Value.int i t from r);subst e;exact zA P w i t
 |inr x=>obtain ⟨t,e⟩:=(show∃t,u=Value.str x t from r);subst e;exact zZ P w x t
theorem vV{P:Program}{w:World}:∀{ks:List Key}{us:List Value},ax (ks.map kV) us->ItemsAre (bB P w) ks us
 |[],_,r=>by rw [List.map_nil] at r;cases r;exact .nil
 |k::ks,_,r=>by
  rw [aaA] at r;cases r with
  |cons h t=>exact .cons (tJ h) (vV t)
abbrev KT(H:Hp):List (List Key×V)->List (List Key×Addr×Value)->Prop:=Paired λp q=>p.1=q.1/\H q.2.1=some (.tup (p.1.map kV))/\aC p.2 q.2.2
theorem KT.val{H:Hp}{Ο:List (List Key×V)}{xs:List (List Key×Addr×Value)}(r:KT H Ο xs)(k:List Key):j3 (jR Ο k) ((atKey xs k).map (·.2)):=by
 induction r with
 |nil=>exact True.intro
 |@cons p q ps qs h t ih=>
  obtain ⟨h1,_,h2⟩:=h;by_cases e:p.1=k
  ·have e':q.1=k:=h1.symm.trans e;have b:atKey (q::qs) k=some q.2:=by simp [atKey,List.find?_cons,e']
   rw [eV e,b];exact h2
  ·have e':¬q.1=k:=λz=>e (h1.trans z);have b:atKey (q::qs) k=atKey qs k:=by simp [atKey,List.find?_cons,e']
   rw [eF e,b];exact ih
theorem KT.Qf{H:Hp}{Ο:List (List Key×V)}{xs:List (List Key×Addr×Value)}(r:KT H Ο xs)(k:List Key){y:V}{u:Value}(ry:aC y u):
  KT H (Ο.map λkv=>if kv.1=k then (kv.1,y) else kv) (xs.map (putAt k u)):=by
 induction r with
 |nil=>exact .nil
 |@cons p q ps qs h t ih=>
  rw [aaA,aaA];refine .cons ?_ ih;obtain ⟨h1,h2,h3⟩:=h;unfold putAt;by_cases e:p.1=k
  ·rw [if_pos e,if_pos (h1.symm.trans e)];exact ⟨h1,h2,ry⟩
  ·rw [if_neg e,if_neg (λz=>e (h1.trans z))];exact ⟨h1,h2,h3⟩
theorem KT.put{H:Hp}{Ο:List (List Key×V)}{xs:List (List Key×Addr×Value)}(r:KT H Ο xs)(k:List Key){b:Addr}{y:V}{u:Value}(hb:H b=some (.tup (k.map kV)))(ry:aC y u):
  KT H (iN Ο k y) (storedH xs k b u):=by
 have e:(Ο.any λkv=>decide (kv.1=k))=(atKey xs k).isSome:=by rw [oj,(r.val k).iX,Option.isSome_map]
 unfold iN storedH;rw [e];by_cases q:(atKey xs k).isSome=true
 ·rw [if_pos q,if_pos q];exact r.Qf k ry
 ·rw [if_neg q,if_neg q];exact Paired.snoc r ⟨rfl,hb,ry⟩
theorem KT.keeps{H H':Hp}{Ο:List (List Key×V)}{xs:List (List Key×Addr×Value)}(r:KT H Ο xs)(ht:∀b ys,H b=some (.tup ys)->H' b=some (.tup ys)):KT H' Ο xs:=
 Paired.Qn r λ_ _ z=>⟨z.1,ht _ _ z.2.1,z.2.2⟩
section
variable{P:Program}{w:World}{H:Hp}{h:Heap}{a:Addr}
theorem NX{u:HO}(ok:lE P w H h)(e:Rd H a u):bT P w H h a u:=e.ok ok
theorem om{Ο:List (Key×V)}(ok:lE P w H h)(e:Rd H a (.dK Ο)):Ο.length<=sizeLine/\(a==sysModules)=false/\∃vs,KV Ο vs/\h.DictOf (bB P w) a vs:=
 show bT P w H h a (.dK Ο) from NX ok e
theorem D0{Ο:List (Key×V)}(ok:lE P w H h)(e:H a=some (.dK Ο)):Ο.length<=sizeLine/\(a==sysModules)=false/\∃vs,KV Ο vs/\h.DictOf (bB P w) a vs:=om ok (.inl e)
theorem sA{ks:List Key}(ok:lE P w H h)(e:H a=some (.tup (ks.map kV))):(tupleKind (bB P w)).is h ks a:=by obtain ⟨_,its,r,o,h1,h2,n,h3⟩:=(show bT P w H h a (.tup (ks.map kV)) from ok a _ e);exact ⟨o,its.toArray,n,h1,h2,h3,by simpa using vV r⟩
theorem vq{Ο:List (List Key×V)}(ok:lE P w H h)(e:Rd H a (.dT Ο)):Ο.length<=sizeLine/\(a==sysModules)=false/\
  ∃xs,KT H Ο xs/\h.DictOfH (tupleKind (bB P w)) a xs:=by
 obtain ⟨z,y,xs,r,o,es,ep,h1,h2,h3,h4,h5⟩:=(show bT P w H h a (.dT Ο) from NX ok e);refine ⟨z,y,xs,r,o,es,ep,h1,h2,h3,h4,λx hx=>?_,h5⟩;have all:∀{l:List (List Key×V)} {m:List (List Key×Addr×Value)},KT H l m->∀x∈m,(tupleKind (bB P w)).is h x.1 x.2.1:=by
  intro l m q
  induction q with
  |nil=>intro x hx;exact nomatch hx
  |@cons p q ps qs hq t ih=>
   intro x hx;rcases aaC.mp hx with e|hx
   ·subst e;exact sA ok (by rw [<-hq.1];exact hq.2.1)
   ·exact ih x hx
 exact all r x hx
theorem SQ{Ο:List (List Key×V)}(ok:lE P w H h)(e:H a=some (.dT Ο)):Ο.length<=sizeLine/\(a==sysModules)=false/\
  ∃xs,KT H Ο xs/\h.DictOfH (tupleKind (bB P w)) a xs:=vq ok (.inl e)
end
def xI(H:Hp)(a:Addr)(y:V)(r:Option V):Prop:=
 (∃Ο k,Rd H a (.dK Ο)/\y=kV k/\r=jR Ο k)\/∃Ο k b,Rd H a (.dT Ο)/\y= .ref b/\H b=some (.tup (k.map kV))/\r=jR Ο k
def Jt(H:Hp)(a:Addr)(y v:V)(H':Hp):Prop:=
 (∃Ο k,H a=some (.dK Ο)/\y=kV k/\Ο.length<sizeLine/\H'=upd H a (.dK (iN Ο k v)))\/
 ∃Ο k b,H a=some (.dT Ο)/\y= .ref b/\H b=some (.tup (k.map kV))/\Ο.length<sizeLine/\H'=upd H a (.dT (iN Ο k v))
theorem Jt.k{H:Hp}{a:Addr}{Ο:List (Key×V)}{k:Key}{v:V}(e:H a=some (.dK Ο))(hl:Ο.length<sizeLine):Jt H a (kV k) v (upd H a (.dK (iN Ο k v))):= .inl ⟨Ο,k,e,rfl,hl,rfl⟩
section
variable{X:Cx}{ζ:List (Addr×Obj)}{σ:St}{H:Hp}{s:Shared}{a:Addr}{y v:V}{u r:Value}{o:Option V}{A:Around}{E:Value->Shared->Prop}
theorem Inv.big(I:Inv X ζ σ H s):sysModules<s.heap.objs.size:=by have h:mainGlobals<s.heap.objs.size:=(I.mod.glob.keeps I.bk).lt;exact Nat.lt_trans (by decide) h
theorem Hf{Q:Value->Shared->Prop}(hu:A.units+1<cLine)(I:Inv X ζ σ H s)(g:xI H a y (some v))(ry:aC y u)(h:∀w' s',Inv X ζ σ H s'->aC v w'->Q w' s'):
  wpAny (model X.prog X.w) A (getItem (.ref a) u) Q E s:=by
 rcases g with ⟨Ο,k,e,ey,l⟩|⟨Ο,k,b,e,ey,eb,l⟩
 ·subst ey;obtain ⟨z,hd,vs,rel,dd⟩:=om I.aY e;obtain ⟨w',hw,Hb⟩:=j3.some_of (v:=v) (o:=valueAt vs k) (by rw [l];exact rel.val k);exact wpAny_getItem_of (tJ ry) dd.mapOf hw (h w' _ (I.tok _) Hb)
 ·subst ey;cases (show u=Value.ref b from ry);obtain ⟨z,hd,xs,rel,dd⟩:=vq I.aY e;obtain ⟨w',hw,Hb⟩:=j3.some_of (v:=v) (o:=(atKey xs k).map (·.2)) (by rw [l];exact rel.val k);obtain ⟨p,hp,WH⟩:=Option.map_eq_some_iff.mp hw;refine wpAny_getItem_heap (tupleKind_room_in1 hu) (sA I.aY eb) dd hp ?_;rw [WH];exact h w' _ (I.tok _) Hb
theorem X0{Q:Value->Shared->Prop}(hu:A.units+1<cLine)(I:Inv X ζ σ H s)(g:xI H a y o)(ry:aC y u)(h:∀s',Inv X ζ σ H s'->Q (.bool o.isSome) s'):
  wpAny (model X.prog X.w) A (compareOp .In u (.ref a)) Q E s:=by
 rcases g with ⟨Ο,k,e,ey,l⟩|⟨Ο,k,b,e,ey,eb,l⟩
 ·subst ey;obtain ⟨z,hd,vs,rel,dd⟩:=om I.aY e;refine wpAny_in_of (tJ ry) hd dd.mapOf ?_;rw [<-(rel.val k).iX,<-l];exact h _ (I.tok _)
 ·subst ey;cases (show u=Value.ref b from ry);obtain ⟨z,hd,xs,rel,dd⟩:=vq I.aY e;refine wpAny_in_heap (tupleKind_room_in1 hu) (sA I.aY eb) hd dd ?_;have q:=(rel.val k).iX;rw [Option.isSome_map] at q;rw [<-q,<-l];exact h _ (I.tok _)
theorem LB{Q:Value->Shared->Prop}(hu:A.units+1<cLine)(I:Inv X ζ σ H s)(g:xI H a y o)(ry:aC y u)(h:∀s',Inv X ζ σ H s'->Q (.bool (!o.isSome)) s'):
  wpAny (model X.prog X.w) A (compareOp .NotIn u (.ref a)) Q E s:=by
 rcases g with ⟨Ο,k,e,ey,l⟩|⟨Ο,k,b,e,ey,eb,l⟩
 ·subst ey;obtain ⟨z,hd,vs,rel,dd⟩:=om I.aY e;refine wpAny_notIn_of (tJ ry) hd dd.mapOf ?_;rw [<-(rel.val k).iX,<-l];exact h _ (I.tok _)
 ·subst ey;cases (show u=Value.ref b from ry);obtain ⟨z,hd,xs,rel,dd⟩:=vq I.aY e;refine wpAny_notIn_heap (tupleKind_room_in1 hu) (sA I.aY eb) hd dd ?_;have q:=(rel.val k).iX;rw [Option.isSome_map] at q;rw [<-q,<-l];exact h _ (I.tok _)
theorem qO{h':Heap}{t':Nat}{ob:HO}(I:Inv X ζ σ H s)(mu:RD (H a))(hs:Heap.SameBut a s.heap h')(he:∃q,h'.get? a=some q)(new:bT X.prog X.w (upd H a ob) h' a ob):
  Inv X ζ σ (upd H a ob) {s with heap:=h',toks:=t'}:=
 I.write (x:=a) (e:=a) mu (.inl rfl) (λb q hb z=>(hs.2 b hb).trans z) he new
theorem tj{P:Program}{w:World}{H':Hp}{h':Heap}{Ο:List (Key×V)}{vs:List (Key×Value)}(z:Ο.length<=sizeLine)(hd:(a==sysModules)=false)(rel:KV Ο vs)(dd:h'.DictOf (bB P w) a vs):
  bT P w H' h' a (.dK Ο):=⟨z,hd,vs,rel,dd⟩
theorem GF{H':Hp}{Q:Unit->Shared->Prop}(hu:A.units+1<cLine)(I:Inv X ζ σ H s)(g:Jt H a y v H')(ry:aC y u)(rv:aC v r)(h:∀s',Inv X ζ σ H' s'->Q () s'):
  wpAny (model X.prog X.w) A (setItem (.ref a) u r) Q E s:=by
 rcases g with ⟨Ο,k,e,ey,l,eH⟩|⟨Ο,k,b,e,ey,eb,l,eH⟩
 ·subst ey eH;obtain ⟨z,hd,vs,rel,dd⟩:=D0 I.aY e;have hz:vs.length<=sizeLine:=by rw [<-rel.length];exact z
  have hl:(iN Ο k v).length<=sizeLine:=by have:=kS Ο k v;omega
  refine wpAny_setItem_pairs (hsz:=hz) (tJ ry) dd λh' NJ hs=>h _ ?_;have he:∃q,h'.get? a=some q:=let ⟨q,_,_,hq,_⟩:=NJ;⟨q,hq⟩
  exact qO I (by rw [e];exact True.intro) hs he (tj hl hd (rel.put k rv) NJ)
 ·subst ey eH;cases (show u=Value.ref b from ry);obtain ⟨z,hd,xs,rel,dd⟩:=SQ I.aY e;have hz:xs.length<=sizeLine:=by rw [<-Paired.length rel];exact z
  have hl:(iN Ο k v).length<=sizeLine:=by have:=kS Ο k v;omega
  refine wpAny_setItem_heap (hsz:=hz) (tupleKind_room_in1 hu) (sA I.aY eb) dd λh' NJ hs=>h _ ?_;obtain ⟨q,es,ep,hq,h2,h3,h4,_,h5⟩:=NJ;refine qO I (by rw [e];exact True.intro) hs ⟨q,hq⟩ ⟨hl,hd,_,(rel.put k eb rv).keeps λc ys ec=>?_,q,es,ep,hq,h2,h3,h4,h5⟩;rw [Κ (Tf ec e (λz=>nomatch z))];exact ec
end
section
variable{X:Cx}{ζ:List (Addr×Obj)}{σ:St}{H:Hp}{s:Shared}{a:Addr}{Ο:List (Key×V)}{k:Key}{u:Value}{A:Around}{E:Value->Shared->Prop}
theorem TZ{Q:Value->Shared->Prop}(I:Inv X ζ σ H s)(e:Rd H a (.dK Ο))(h:∀t s',Inv X ζ σ H s'->Q (.int Ο.length t) s'):wpAny (model X.prog X.w) A (call (.builtin "len") [.ref a]) Q E s:=by obtain ⟨z,hd,vs,rel,dd⟩:=om I.aY e;refine call_len_dict hd dd (by rw [<-rel.length];rw [sizeLine_eq] at z;omega) ?_;rw [<-rel.length];exact h _ _ (I.tok _)
end
def CM(i:Expr):Prop:=∀ov iv,subscripted i false ov iv=operate [ov,iv] (getItem ov iv)
theorem x6{prog:Program}{w:World}{A:Around}{E:Value->Shared->Prop}{s:Shared}{env:Env}{value slice:Expr}{pos:Pos}{T id:String}{Q:Value->Shared->Prop}
  (hl:typeLookup (.type T) "__getitem__"=pure (some (.builtin id))) (hs:CM slice)
  (h:wpAny (model prog w) A (eval value env) (λo s₁=>wpAny (model prog w) A (eval slice env) (λi s₂=>s₂.TypeIs o T/\wpAny (model prog w) A (getItem o i) Q E s₂) E s₁) E s):
  wpAny (model prog w) A (eval (.Subscript value slice pos) env) Q E s:=by
 refine Subscript_ (wpAny_mono h (λo s₁ h₁=>wpAny_mono h₁ (λi s₂ h₂=>?_) λ_ _ x=>x) λ_ _ x=>x);obtain ⟨hT,h₂⟩:=h₂;unfold subscriptTail;refine wpAny_bind ?_;rw [getitemInPython_of_ne hT.not_modules];refine wpAny_bind (wpAny_specialOf hT hl ?_);have fin:wpAny (model prog w) A (subscripted slice false o i) (λr s₃=>wpAny (model prog w) A (letTemporaryGo value o r >>= λ_=>pure r) Q E s₃) E s₂:=by rw [hs o i];exact wpAny_operating (wpAny_mono h₂ (λr s₃ h₃=>wpAny_bind (wpAny_letTemporaryGo (wpAny_pure h₃))) λ_ _ x=>x)
 first
  |exact wpAny_pure (wpAny_bind fin)
  |exact wpAny_bind (wpAny_pure (wpAny_bind fin))
  |exact wpAny_bind fin
theorem AG{X:Cx}{ζ:List (Addr×Obj)}{σ:St}{H:Hp}{s:Shared}{a:Addr}{y:V}{o:Option V}(I:Inv X ζ σ H s)(g:xI H a y o):s.TypeIs (.ref a) "dict":=by
 rcases g with ⟨Ο,k,e,_,_⟩|⟨Ο,k,b,e,_,_,_⟩
 ·obtain ⟨_,_,vs,_,dd⟩:=om I.aY e;exact dd.typeIs
 ·obtain ⟨_,_,xs,_,dd⟩:=vq I.aY e;exact dd.typeIs
def T6(td ty:TE):TE:=λσ H Q=>td σ H λx H1=>ty σ H1 λy H2=>∃a v,x= .ref a/\xI H2 a y (some v)/\Q v H2
def U9(td ty tv:TE):TS:=λD σ H=>tv σ H λv H1=>td σ H1 λx H2=>ty σ H2 λy H3=>∃a H4,x= .ref a/\Jt H3 a y v H4/\D.nx σ H4
section
variable{X:Cx}{o i e value:Expr}{pos pos' uC:Pos}{td ty tv:TE}
theorem LI(hu:X.A.units+1<cLine)(ho:PE X o td)(hi:PE X i ty)(hs:CM i):PE X (.Subscript o i pos) (T6 td ty):=by intro ζ s σ H Q I h;refine x6 abV.lookup hs (bA (ho ζ s σ H _ I h) λu s1 ⟨x,H1,I1,rx,q1⟩=>bA (hi ζ s1 σ H1 _ I1 q1) λiv s2 ⟨y,H2,I2,ry,a,v,ex,g,q2⟩=>?_);subst ex;obtain rfl:u=Value.ref a:=rx;exact ⟨AG I2 g,Hf hu I2 g ry λw' s3 I3 Hb=>⟨v,H2,I3,Hb,q2⟩⟩
theorem MG(hu:X.A.units+1<cLine)(ho:PE X o td)(hi:PE X i ty)(hv:PE X value tv)(hs:swapsWith value (some (.Subscript o i pos')) pos.line X.env=pure false):
  PS X (.Assign [.Subscript o i pos'] value pos) (U9 td ty tv):=by
 intro ζ s σ H D I h;refine wpAny_Assign_Subscript (bA (hv ζ s σ H _ I h) λr s1 ⟨v,H1,I1,rv,q1⟩=>bA (ho ζ s1 σ H1 _ I1 q1) λu s2 ⟨x,H2,I2,rx,q2⟩=>bA (hi ζ s2 σ H2 _ I2 q2) λiv s3 ⟨y,H3,I3,ry,a,H4,ex,g,q3⟩=>?_) hs;subst ex;obtain rfl:u=Value.ref a:=rx;exact GF hu I3 g ry rv λs4 I4=>⟨σ,H4,I4,q3⟩
end
theorem zk{P:Program}{w:World}{H:Hp}(h:Heap)(hb:sysModules<h.objs.size):bT P w H (h.push {cls:= .type "dict",data:= .dict #[]}) h.objs.size (.dK []):=
 ⟨abP _,beq_eq_false_iff_ne.mpr (Ne.symm (aaI hb)),[],.nil,Heap.DictOf.new h⟩
def QT:TE:=λ_ H Q=>∀p,H p=none->Q (.ref p) (upd H p (.dK []))
section
variable{X:Cx}{pos:Pos}
theorem HP:PE X (.Dict [] [] pos) QT:=λζ s σ H Q I h=>
 wpAny_Dict_empty ⟨.ref s.heap.objs.size,_,I.laid (a:=s.heap.objs.size) (o:= .dK []) (t':=s.toks) (λ_ _ q=>Heap.get?_push_of_some _ q) (aai _) (zk s.heap I.big),rfl,h _ (I.aY.fresh (aai _))⟩
end
def BE:List (TE×TE)->St->Hp->(List (V×V)->Hp->Prop)->Prop
 |[],_,H,Q=>Q [] H
 |(tk,tv)::r,σ,H,Q=>tk σ H λx H1=>tv σ H1 λy H2=>BE r σ H2 λps H3=>Q ((x,y)::ps) H3
abbrev VV:List (V×V)->List (Value×Value)->Prop:=Paired λp q=>aC p.1 q.1/\aC p.2 q.2
def VG(X:Cx)(pos:Pos)(keys:List (Option Expr))(values:List Expr)(Mx:List (TE×TE)):Prop:=
 ∀(ζ:List (Addr×Obj)) (s:Shared) (σ:St) (H:Hp) (Q:List (V×V)->Hp->Prop),Inv X ζ σ H s->BE Mx σ H Q->
  wpAny (model X.prog X.w) X.A (evalPairs (pairTrees keys values X.env pos)) (λvs s'=>∃ps H',Inv X ζ σ H' s'/\VV ps vs/\Q ps H') X.xe s
theorem Mh{X:Cx}{pos:Pos}:VG X pos [] [] []:=λζ s σ H Q I h=>pairTrees_nil_walk ⟨[],H,I,.nil,h⟩
theorem J_{X:Cx}{pos:Pos}{k v:Expr}{ks:List (Option Expr)}{vs:List Expr}{tk tv:TE}{Mx:List (TE×TE)}(hk:PE X k tk)(hv:PE X v tv)(hr:VG X pos ks vs Mx):
  VG X pos (some k::ks) (v::vs) ((tk,tv)::Mx):=λζ s σ H Q I h=>
 pairTrees_cons_walk (bA (hk ζ s σ H _ I h) λu s1 ⟨x,H1,I1,rx,q1⟩=>bA (hv ζ s1 σ H1 _ I1 q1) λw2 s2 ⟨y,H2,I2,ry,q2⟩=>
  bA (hr ζ s2 σ H2 _ I2 q2) λws s3 ⟨ps,H3,I3,rel,q3⟩=>⟨(x,y)::ps,H3,I3,.cons ⟨rx,ry⟩ rel,q3⟩)
def iF(Ο more:List (Key×V)):List (Key×V):=more.foldl (λΖ kv=>iN Ζ kv.1 kv.2) Ο
theorem KV.merge:∀{more:List (Key×V)}{rs:List (Key×Value)}{Ο:List (Key×V)}{vs:List (Key×Value)},KV more rs->KV Ο vs->KV (iF Ο more) (merged vs rs):=by
 intro more rs Ο vs r;unfold KV at r
 induction r generalizing Ο vs with
 |nil=>intro q;exact q
 |@cons p q ps qs h t ih=>
  intro r0;have e:KV (iN Ο p.1 p.2) (stored vs q.1 q.2):=by have:=r0.put p.1 h.2;rw [<-h.1];exact this
  exact ih e
theorem ix:∀(more Ο:List (Key×V)),(iF Ο more).length<=Ο.length+more.length
 |[],Ο=>by show Ο.length<=Ο.length+0;omega
 |p::r,Ο=>by have h1:=ix r (iN Ο p.1 p.2);have h2:=kS Ο p.1 p.2;show (iF (iN Ο p.1 p.2) r).length<=_;rw [aax];omega
theorem sy{P:Program}{w:World}:∀{Ο:List (Key×V)}{ws:List (Value×Value)},VV (Ο.map λkv=>(kV kv.1,kv.2)) ws->∃rs,Carries (bB P w) ws rs/\KV Ο rs
 |[],_,r=>by rw [List.map_nil] at r;cases r;exact ⟨[],True.intro,.nil⟩
 |p::Ο,_,r=>by
  rw [aaA] at r;cases r with
  |@cons a b as bs h t=>
   obtain ⟨rs,c,q⟩:=sy (P:=P) (w:=w) t;obtain ⟨b1,b2⟩:=b;exact ⟨(p.1,b2)::rs,⟨tJ h.1,rfl,c⟩,.cons ⟨rfl,h.2⟩ q⟩
def U_(Mx:List (TE×TE)):TE:=λσ H Q=>∀p,H p=none->BE Mx σ (upd H p (.dK [])) λps H2=>H2 p=some (.dK [])/\∃Ο:List (Key×V),ps=Ο.map (λkv=>(kV kv.1,kv.2))/\Ο.length<=15/\Q (.ref p) (upd H2 p (.dK (iF [] Ο)))
theorem L7{X:Cx}{pos:Pos}{keys:List (Option Expr)}{values:List Expr}{Mx:List (TE×TE)}(h:VG X pos keys values Mx)(QV:keys.all (·.isSome)=true)(hl:keys.length=values.length)(h0:keys≠[])
  (h15:keys.length<=15):PE X (.Dict keys values pos) (U_ Mx):=by
 intro ζ s σ H Q I q;have hn:=I.aY.fresh (aai s.heap.objs.size);have I1:=I.laid (a:=s.heap.objs.size) (o:= .dK []) (h':=s.heap.push {cls:= .type "dict",data:= .dict #[]}) (t':=s.toks) (λ_ _ q=>Heap.get?_push_of_some _ q) (aai _) (zk s.heap I.big);refine wpAny_Dict_walk (knd:=bB X.prog X.w) QV hl h0 h15 (bA (h ζ _ σ _ _ I1 (q _ hn)) λws s2 ⟨ps,H2,I2,rel,e,Ο,ep,lk,q2⟩=>?_);subst ep;obtain ⟨rs,c,rk⟩:=sy (P:=X.prog) (w:=X.w) rel;obtain ⟨z,hd,vs0,r0,dd⟩:=D0 I2.aY e;cases r0;refine ⟨rs,c,dd,λh' NJ hs=>⟨.ref s.heap.objs.size,_,?_,rfl,q2⟩⟩;have hz:(iF [] Ο).length<=sizeLine:=by have h1:=ix Ο [];rw [ab6] at h1;rw [sizeLine_eq];omega
 have he:∃q,h'.get? s.heap.objs.size=some q:=let ⟨q,_,_,hq,_⟩:=NJ;⟨q,hq⟩
 exact qO I2 (by rw [e];exact True.intro) hs he (tj hz hd (rk.merge .nil) NJ)
structure M1(X:Cx)(o:Expr)(m:Str)(apos:Pos)(e:Expr)(cL:Pos):Prop where
 base:attributeBase o m X.env (eval o X.env)=eval o X.env
 few:((backTo cL (starEach [e] X.env)).all (λx=> !x.1)&&(backToKw cL (keywordEach [] X.env)).all (λx=>x.1.isSome)
  &&decide (([e]:List Expr).length+([]:List Keyword).length+(if ([]:List Keyword).isEmpty then 0 else 1)<30))=true
 line:(apos.endLine==cL.line)=true
 trees:backTo cL (starEach [e] X.env)=[(false,eval e X.env)]
def ZR(H:Hp)(a:Addr):Prop:=(∃Ο,Rd H a (.dK Ο))\/∃Ο,Rd H a (.dT Ο)
theorem Px{X:Cx}{ζ:List (Addr×Obj)}{σ:St}{H:Hp}{s:Shared}{a:Addr}(I:Inv X ζ σ H s)(d:ZR H a):
  s.TypeIs (.ref a) "dict"/\(∀b,Value.ref a= .ref b->∃ob,s.heap.get? b=some ob/\ob.dict=none)/\(a==sysModules)=false:=by
 rcases d with ⟨Ο,e⟩|⟨Ο,e⟩
 ·obtain ⟨_,hd,vs,_,dd⟩:=om I.aY e;refine ⟨dd.typeIs,λb q=>?_,hd⟩;cases q;obtain ⟨ob,_,_,h1,h2,_⟩:=dd;exact ⟨ob,h1,h2.2.1⟩
 ·obtain ⟨_,hd,xs,_,dd⟩:=vq I.aY e;refine ⟨dd.typeIs,λb q=>?_,hd⟩;cases q;obtain ⟨ob,_,_,h1,h2,_⟩:=dd;exact ⟨ob,h1,h2.2.1⟩
section
variable{X:Cx}{ζ:List (Addr×Obj)}{σ:St}{H:Hp}{s:Shared}{a:Addr}{Ο:List (Key×V)}{A:Around}{E:Value->Shared->Prop}
theorem KL{Q:Value->Shared->Prop}(I:Inv X ζ σ H s)(e:Rd H a (.dK Ο))(h:∀p s',H p=none->Inv X ζ σ (upd H p (.dK Ο)) s'->Q (.ref p) s'):wpAny (model X.prog X.w) A (call (.type "dict") [.ref a]) Q E s:=by obtain ⟨z,hd,vs,rel,dd⟩:=om I.aY e;refine kt_call_dict hd dd (by rw [<-rel.length];exact z) λh' NJ hs=>?_;refine h _ _ (I.aY.fresh (aai _)) (I.laid (a:=s.heap.objs.size) (o:= .dK Ο) (t':=s.toks) (λb q hq=>?_) (aai _) (tj z (beq_eq_false_iff_ne.mpr (Ne.symm (aaI I.big))) rel NJ));exact (hs.2 b (aaI (Heap.lt_size hq))).trans (Heap.get?_push_of_some _ hq)
end
end L2
namespace Att
open PySem PySem.W PySem.Calls PyProof.Rows
end Att
namespace L2
open PySem PySem.Spec PyProof.Rows
end L2
/- THE YE Mv (shape;LID,My.* are Ue):
  My.Adr:a structure of Ly addresses Zu Wy U5 names (classes,FZ);My.Txt K t:a structure (Prop) of Ly equations qD K;
  My.B5:{K} {implicit addresses ..} (e1:nsIn K mainGlobals "law"=some (some (.ref f))) (e2:K.lookup f=some ⟨oc,od,.func (fnOf "law" "law" params body scope dV kV doc pm an aT ct),sl⟩) (e3:codeIn K aT "law"=true) .. :∃t,My.Txt K t
set_option maxRecDepth 100000 in
set_option maxHeartbeats 0 in
theorem PySem.Challenge.cw_LID_holds : PySem.Challenge.rw_LID.Holds := by
 w_on;o_law;k_head;(case hw=>w_witness2)
 k_fill
 refine L2.yD (l:=PySem.Challenge.rw_LID) (n:=63) (k:=40) (x:="script") (CX:=fun w=> ..) (sp:=fun _=>My.P2) rfl (by decide) rfl ⟨rfl,by decide,by decide⟩ (fun w h Y=>PySem.W.kIn_of Y) ?F ?S ?C
 case F=>
  intro w mg fa h KX G MI;have T:∃t,My.Txt (L2.Yh KX) t:=by
   dsimp only [L2.Yh]
   refine' My.B5 ?e1 ?e2 ?e3 ..
   (case e1=>PySem.W.k_is)
   (case e2=>PySem.W.k_is)
   ..
  obtain ⟨t,T⟩:=T;have e0:=MI.symm.trans (PySem.W.mg_of KX G T.law);cases e0;exact ⟨_,λs u=> .of_eq rfl,λbase kb nb=>My.B6 T kb nb⟩
 case S=>exact λw H a ns hl hO hS=> ..
 case C=>exact ..
(Ly tactic k_is has no namespace:write k_is) -/
namespace L2
open PySem PySem.Spec PyProof.Rows
section
variable{X:Cx}
theorem GP:dw X (.builtin "len") (λxs H Q=>∃a Ο,xs=[V.ref a]/\H a=some (.dK Ο)/\Q (.int Ο.length) H):=by intro ζ s σ H xs us Q I r h;obtain ⟨a,Ο,rfl,ha,q⟩:=h;obtain ⟨u,rfl,ru⟩:=kX r;cases ru;exact TZ I (.inl ha) λt s' I'=>⟨.int Ο.length,H,I',⟨t,rfl⟩,q⟩
end
def Cw:Dt->Option Key
 |.int i=>some (.inl i)
 |.str z=>some (.inr z)
 |_=>none
def dR(ks:List Key)(ds:List Dt)(k:Key):Option Dt:=((ks.zip ds).find? λp=>decide (p.1=k)).map (·.2)
theorem lu{K:fI}{G:Hp}{L:List Addr}{d:Dt}{v:V}{k:Key}(h:Cw d=some k)(n:Den K G L d v):v=kV k:=by
 cases d with
 |int i=>cases h;exact n
 |str z=>cases h;exact n
 |_=>cases h
theorem pq{K:fI}{G:Hp}{L:List Addr}{k:Key}:∀{ks:List Key}{ds:List Dt}{vs:List V}{d:Dt},Χ K G L ds vs->dR ks ds k=some d->∃v,jR (ks.zip vs) k=some v/\Den K G L d v
 |[],_,_,_,_,h=>by cases h
 |_::_,[],_,_,_,h=>by cases h
 |c::ks,d0::ds,_,d,⟨v0,vs,e,n0,n⟩,h=>by
  subst e;rw [abh];by_cases hc:c=k
  ·have h':dR (c::ks) (d0::ds) k=some d0:=by unfold dR;rw [List.zip_cons_cons,List.find?_cons_of_pos (by simpa using hc)];rfl
   rw [h'] at h;cases h;exact ⟨v0,eV hc,n0⟩
  ·have h':dR (c::ks) (d0::ds) k=dR ks ds k:=by unfold dR;rw [List.zip_cons_cons,List.find?_cons_of_neg (by simpa using hc)]
   rw [h'] at h;obtain ⟨v,h1,h2⟩:=pq n h;exact ⟨v,by rw [eF hc];exact h1,h2⟩
def OH(to ti:DE):DE:=λρ M q x=>to ρ M (λd M1=>ti ρ M1 (λdi M2=>∃k ks ds key v,d= .loc k/\M2[k]? =some (.fF ks ds)/\Cw di=some key/\dR ks ds key=some v/\q v M2) x) x
theorem uS:∀(more Ζ:List (Key×V)),(∀p∈more,jR Ζ p.1=none)->(more.map (·.1)).Nodup->iF Ζ more=Ζ++more
 |[],Ζ,_,_=>by show Ζ=Ζ++[];rw [aaZ]
 |p::more,Ζ,h,nd=>by
  show iF (iN Ζ p.1 p.2) more=_;rw [Ib p.2 (h p aae),uS more _ (λq hq=>?_) (aby.mp nd).2]
  ·simp
  ·have e:=uW p.1 q.1 p.2 Ζ (h p aae);rw [show (Ζ++[(p.1,p.2)])=Ζ++[(p.1,p.2)] from rfl,e,if_neg]
   ·exact h q (aad _ hq)
   ·intro z;exact (aby.mp nd).1 (aag.mpr ⟨q,hq,z⟩)
section
variable{X:Cx}{R:St->XK}{o i e:Expr}{to ti te:DE}{pos p:Pos}{k':Nat}
theorem oS(hr:bM k' X.A)(ho:JE X R o to)(hi:JE X R i ti)(hs:CM i:=by intro _ _;rfl):JE X R (.Subscript o i pos) (OH to ti):=
 .of (LI (EH hr) ho hi hs) λσ H G L ρ M q x rl n h hx=>by refine ⟨G,L,ρ,M,_,x,rl,n,h,hx,λv H1 ⟨d1,G1,L1,M1,e1,r1,n1,h1⟩=>?_⟩;refine ⟨G1,L1,ρ,M1,_,x,r1,n.mono e1,h1,hx.on e1,λv2 H2 ⟨d2,G2,L2,M2,e2,r2,n2,k,ks,ds,key,y,ed,hm,hk,hg,h2⟩=>?_⟩;subst ed;obtain ⟨a,rfl,Im⟩:=n1;have O9:=e2.l.get Im;obtain ⟨_,vs,hH,hl,dn⟩:=r2.gD k a _ O9 hm;obtain ⟨u,hu,du⟩:=pq dn hg;refine ⟨a,u,rfl,.inl ⟨_,key,.inl hH,lu hk n2,hu.symm⟩,fin_same (e1.trans e2) r2 du h2⟩
end
structure Ru(K:fI)(w:World)(mg:Str->Option Value)(x:Str)(tab:List (Str×Str)):Prop where
 ex:∃a es n,mg x=some (.ref a)/\K.lookup a=some ⟨.type "dict",none,.dict es n, #[]⟩/\PySem.W.KeysLit w.params es.toList/\∀z y,tab.lookup z=some y->∃tk,PySem.W.nsIn K a z=some (some (.str y tk))
def Tw(tab:List (Str×Str))(ti:DE):DE:=λρ M q x=>ti ρ M (λd M1=>∃z y,d= .str z/\tab.lookup z=some y/\q (.str y) M1) x
def W3(tab:List (Str×Str))(ti:TE):TE:=λσ H Q=>ti σ H λv H1=>∃z y,v= .str z/\tab.lookup z=some y/\Q (.str y) H1
section
variable{X:Cx}{R:St->XK}{i:Expr}{pos p:Pos}{x:Str}{tab:List (Str×Str)}
theorem O4{ti:TE}(T:Ru X.K X.w X.mg x tab)(hi:PE X i ti)(hs:CM i)(hg:Gl X x)(uJ:(x==("__debug__":Str))=false):PE X (.Subscript (.Name x p) i pos) (W3 tab ti):=by obtain ⟨a,es,n,hm,hl,hk,ht⟩:=T.ex;intro ζ s σ H Q I h;refine x6 abV.lookup hs (qS I hg hm ?_ uJ);refine bA (hi ζ s σ H _ I h) λiv s2 ⟨v,H2,I2,rv,z,y,ev,hy,q2⟩=>?_;subst ev;obtain ⟨t,rfl⟩:=rv;obtain ⟨tk,hn⟩:=ht z y hy;have hM:=PySem.W.mapOf_K (prog:=X.prog) (w:=X.w) I2.qp hl hk;exact ⟨hM.typeIs,wpAny_getItem_of (strKind_is X.prog X.w z t) hM (PySem.W.find_K hl hn) ⟨.str y,H2,I2.tok _,⟨tk,rfl⟩,q2⟩⟩
theorem Og{ti:DE}(T:Ru X.K X.w X.mg x tab)(hi:JE X R i ti)(hs:CM i:=by intro _ _;rfl)(hg:Gl X x:=by rfl)(uJ:(x==("__debug__":Str))=false:=by decide):JE X R (.Subscript (.Name x p) i pos) (Tw tab ti):=
 .of (O4 T hi hs hg uJ) λσ H G L ρ M q x rl n h hx=>by refine ⟨G,L,ρ,M,_,x,rl,n,h,hx,λv H1 ⟨d1,G1,L1,M1,e1,r1,n1,z,y,ed,hy,h1⟩=>?_⟩;subst ed;exact ⟨z,y,n1,hy,bx e1 r1 h1⟩
end
inductive HN(K:fI)(H:Hp):Nat->V->V->Bool->Prop
 |flat {n:Nat} {x y:V} (h1:eC x=true) (h2:eC y=true):HN K H n x y (uz x y)
 |tup {n:Nat} {a b:Addr} {xs ys:List V} {f:Nat->Bool} (h1:m_ K H a xs) (h2:m_ K H b ys) (h:∀j x y,xs[j]? =some x->ys[j]? =some y->HN K H n x y (f j)):HN K H (n+1) (.ref a) (.ref b) ((List.range (min xs.length ys.length)).all f&&xs.length==ys.length)
 |lst {n:Nat} {a b:Addr} {xs ys:List V} {f:Nat->Bool} (h1:gu K H a xs) (h2:gu K H b ys) (hl:xs.length=ys.length) (h:∀j x y,xs[j]? =some x->ys[j]? =some y->HN K H n x y (f j)):HN K H (n+1) (.ref a) (.ref b) ((List.range xs.length).all f)
 |len {n:Nat} {a b:Addr} {xs ys:List V} (h1:gu K H a xs) (h2:gu K H b ys) (hl:xs.length≠ys.length):HN K H (n+1) (.ref a) (.ref b) false
theorem Lb{x:V}(h:eC x=true):uz x x=true:=by cases x <;> first|rfl|(show (_==_)=true;simp)|cases h
section
variable{X:Cx}{ζ:List (Addr×Obj)}{σ:St}{H:Hp}{s:Shared}
theorem Au(I:Inv X ζ σ H s){n:Nat}{x y:V}{b:Bool}(h:HN X.K H n x y b):x=y->b=true:=by
 induction h with
 |flat h1 h2=>intro e;subst e;exact Lb h1
 |@tup n a b xs ys f h1 h2 h ih=>
  intro e;cases e;cases I.uT h1 h2;rw [Nat.min_self,beq_self_eq_true,Bool.and_true];refine abl.mpr λj hj=>?_;have hj:=aaT.mp hj;exact ih j _ _ (aaa hj) (aaa hj) rfl
 |@lst n a b xs ys f h1 h2 hl h ih=>
  intro e;cases e;cases I.gF h1 h2;refine abl.mpr λj hj=>?_;have hj:=aaT.mp hj;exact ih j _ _ (aaa hj) (aaa hj) rfl
 |len h1 h2 hl=>
  intro e;cases e;cases I.gF h1 h2;exact absurd rfl hl
theorem cD{xs:List V}{its:List Value}(r:ax xs its){j:Nat}(h:j<its.toArray.size):∃x,xs[j]? =some x/\aC x its.toArray[j]:=by
 have hj:j<its.length:=by simpa using h
 have hx:j<xs.length:=by rw [r.length];exact hj
 obtain ⟨u,g,ru⟩:=r.get (aaa hx);rw [aaa hj] at g;cases g;exact ⟨_,List.getElem?_eq_getElem hx,by simpa using ru⟩
theorem wG(I:Inv X ζ σ H s){n:Nat}{x y:V}{b:Bool}(h:HN X.K H n x y b):∀{A:Around}{u v:Value},aC x u->aC y v->A.units+n<cLine->SeqAt.EqAt A s u v b:=by
 induction h with
 |flat h1 h2=>exact λru rv _=>wX ru rv h1 h2
 |@tup n a b xs ys f h1 h2 h ih=>
  intro A u v ru rv hu;cases ru;cases rv;by_cases e:a=b
  ·have:=Au I (.tup h1 h2 h) (congrArg V.ref e);rw [this,e];exact SeqAt.EqAt.same _
  ·obtain ⟨i1,v1,t1,_⟩:=I.tuple h1;obtain ⟨i2,v2,t2,_⟩:=I.tuple h2
   have:=SeqAt.RcAt.tuples (A:=A) (e:=f) (show s.heap.IsTuple a i1.toArray from t1) (show s.heap.IsTuple b i2.toArray from t2) (by omega) (λj g1 g2=>by
    obtain ⟨x,hx,rx⟩:=cD v1 g1;obtain ⟨y,hy,ry⟩:=cD v2 g2
    exact ih j x y hx hy rx ry (by show A.units+1+n<cLine;omega))
   rw [aas,aas,<-v1.length,<-v2.length] at this;exact SeqAt.EqAt.of_refs e this
 |@lst n a b xs ys f h1 h2 hl h ih=>
  intro A u v ru rv hu;cases ru;cases rv;by_cases e:a=b
  ·have:=Au I (.lst h1 h2 hl h) (congrArg V.ref e);rw [this,e];exact SeqAt.EqAt.same _
  ·obtain ⟨i1,v1,t1,_⟩:=I.list h1;obtain ⟨i2,v2,t2,_⟩:=I.list h2
   have:=SeqAt.RcAt.lists (A:=A) (e:=f) t1.isList t2.isList (by rw [aas,aas,<-v1.length,<-v2.length];exact hl) (by omega) (λj g1 g2=>by
    obtain ⟨x,hx,rx⟩:=cD v1 g1;obtain ⟨y,hy,ry⟩:=cD v2 g2
    exact ih j x y hx hy rx ry (by show A.units+1+n<cLine;omega))
   rw [aas,<-v1.length] at this;exact SeqAt.EqAt.of_refs e this
 |@len n a b xs ys h1 h2 hl=>
  intro A u v ru rv hu;cases ru;cases rv;have e:a≠b:=λe=>by subst e;cases I.gF h1 h2;exact hl rfl
  obtain ⟨i1,v1,t1,_⟩:=I.list h1;obtain ⟨i2,v2,t2,_⟩:=I.list h2;exact SeqAt.EqAt.of_refs e (SeqAt.RcAt.lists_lengths t1.isList t2.isList (by rw [List.size_toArray,List.size_toArray,<-v1.length,<-v2.length];simpa using hl) (by omega))
end
def TQ(K:fI)(n:Nat):R2:=λx y H Q=>∃a b c,x= .ref a/\y= .ref b/\HN K H n x y c/\Q (.bl c) H
def SD(K:fI)(n:Nat):R2:=λx y H Q=>∃a b c,x= .ref a/\y= .ref b/\HN K H n x y c/\Q (.bl (!c)) H
section
variable{X:Cx}
theorem Qa{n:Nat}(hu:X.A.units+n<cLine):jL X (compareOp .Eq) (TQ X.K n):=by
 intro ζ s σ H x y v u Q I rx ry h;obtain ⟨a,b,c,rfl,rfl,h,q⟩:=h;cases rx;cases ry;cases h with
 |flat h1 h2=>cases h1
 |@tup n _ _ xs ys f h1 h2 h=>
  obtain ⟨i1,v1,t1,_⟩:=I.tuple h1;obtain ⟨i2,v2,t2,_⟩:=I.tuple h2;refine SeqAt.eq_tupleAt (e:=f) (show s.heap.IsTuple a i1.toArray from t1) (show s.heap.IsTuple b i2.toArray from t2) (by omega) (λj g1 g2=>?_) ?_
  ·obtain ⟨x,hx,rx⟩:=cD v1 g1;obtain ⟨y,hy,ry⟩:=cD v2 g2;exact wG I (h j x y hx hy) rx ry (by show X.A.units+1+n<cLine;omega)
  ·rw [aas,aas,<-v1.length,<-v2.length];exact ⟨.bl _,H,I,rfl,q⟩
 |@lst n _ _ xs ys f h1 h2 hl h=>
  obtain ⟨i1,v1,t1,_⟩:=I.list h1;obtain ⟨i2,v2,t2,_⟩:=I.list h2;refine SeqAt.eq_listAt (e:=f) t1.isList t2.isList (by rw [aas,aas,<-v1.length,<-v2.length];exact hl) (by omega) (λj g1 g2=>?_) ?_
  ·obtain ⟨x,hx,rx⟩:=cD v1 g1;obtain ⟨y,hy,ry⟩:=cD v2 g2;exact wG I (h j x y hx hy) rx ry (by show X.A.units+1+n<cLine;omega)
  ·rw [aas,<-v1.length];exact ⟨.bl _,H,I,rfl,q⟩
 |@len n _ _ xs ys h1 h2 hl=>
  obtain ⟨i1,v1,t1,_⟩:=I.list h1;obtain ⟨i2,v2,t2,_⟩:=I.list h2;exact SeqAt.eq_list_lengthsAt t1.isList t2.isList (by rw [List.size_toArray,List.size_toArray,<-v1.length,<-v2.length];simpa using hl) (by omega) ⟨.bl _,H,I,rfl,q⟩
theorem QD{n:Nat}(hu:X.A.units+n<cLine):jL X (compareOp .NotEq) (SD X.K n):=by
 intro ζ s σ H x y v u Q I rx ry h;obtain ⟨a,b,c,rfl,rfl,h,q⟩:=h;cases rx;cases ry;cases h with
 |flat h1 h2=>cases h1
 |@tup n _ _ xs ys f h1 h2 h=>
  obtain ⟨i1,v1,t1,_⟩:=I.tuple h1;obtain ⟨i2,v2,t2,_⟩:=I.tuple h2;refine SeqAt.RcNeAt.tuples (e:=f) (show s.heap.IsTuple a i1.toArray from t1) (show s.heap.IsTuple b i2.toArray from t2) (by omega) (λj g1 g2=>?_) _ _ _ _ ?_
  ·obtain ⟨x,hx,rx⟩:=cD v1 g1;obtain ⟨y,hy,ry⟩:=cD v2 g2;exact wG I (h j x y hx hy) rx ry (by show X.A.units+1+n<cLine;omega)
  ·rw [aas,aas,<-v1.length,<-v2.length];exact ⟨.bl _,H,I,rfl,q⟩
 |@lst n _ _ xs ys f h1 h2 hl h=>
  obtain ⟨i1,v1,t1,_⟩:=I.list h1;obtain ⟨i2,v2,t2,_⟩:=I.list h2;refine SeqAt.RcNeAt.lists (e:=f) t1.isList t2.isList (by rw [aas,aas,<-v1.length,<-v2.length];exact hl) (by omega) (λj g1 g2=>?_) _ _ _ _ ?_
  ·obtain ⟨x,hx,rx⟩:=cD v1 g1;obtain ⟨y,hy,ry⟩:=cD v2 g2;exact wG I (h j x y hx hy) rx ry (by show X.A.units+1+n<cLine;omega)
  ·rw [aas,<-v1.length];exact ⟨.bl _,H,I,rfl,q⟩
 |@len n _ _ xs ys h1 h2 hl=>
  obtain ⟨i1,v1,t1,_⟩:=I.list h1;obtain ⟨i2,v2,t2,_⟩:=I.list h2;exact SeqAt.RcNeAt.lists_lengths t1.isList t2.isList (by rw [List.size_toArray,List.size_toArray,<-v1.length,<-v2.length];simpa using hl) (by omega) _ _ _ _ ⟨.bl _,H,I,rfl,q⟩
end
def nc(M:Ms):Dt->Option (List Dt)
 |.lst xs=>some xs
 |.kj ns=>some (ns.map .int)
 |.loc k=>match M[k]? with
  |some (.lst xs)=>some xs
  |_=>none
 |_=>none
inductive wH(M:Ms):Nat->Dt->Dt->Bool->Prop
 |flat {n:Nat} {d e:Dt} {x y:V} (h1:vD d=some x) (h2:vD e=some y):wH M n d e (uz x y)
 |tup {n:Nat} {ds es:List Dt} {f:Nat->Bool} (h:∀j d e,ds[j]? =some d->es[j]? =some e->wH M n d e (f j)):wH M (n+1) (.tup ds) (.tup es) ((List.range (min ds.length es.length)).all f&&ds.length==es.length)
 |lst {n:Nat} {d e:Dt} {ds es:List Dt} {f:Nat->Bool} (h1:nc M d=some ds) (h2:nc M e=some es) (hl:ds.length=es.length) (h:∀j d e,ds[j]? =some d->es[j]? =some e->wH M n d e (f j)):wH M (n+1) d e ((List.range ds.length).all f)
 |len {n:Nat} {d e:Dt} {ds es:List Dt} (h1:nc M d=some ds) (h2:nc M e=some es) (hl:ds.length≠es.length):wH M (n+1) d e false
theorem gc{K:fI}{G:Hp}{L:List Addr}{M:Ms}{H:Hp}{d:Dt}{v:V}{xs:List Dt}(r:Rl K G L M H)(n:Den K G L d v)(h:nc M d=some xs):∃a vs,v= .ref a/\gu K H a vs/\Χ K G L xs vs:=by
 cases d with
 |lst ds=>cases h;obtain ⟨a,vs,rfl,e,m⟩:=n;exact ⟨a,vs,rfl,.of (r.sub _ _ e),m⟩
 |kj ns=>cases h;obtain ⟨a,rfl,e⟩:=n;exact ⟨a,_,rfl,r.sub.seq e,iR⟩
 |loc k=>
  obtain ⟨a,rfl,e⟩:=n;have h:(match M[k]? with|some (.lst xs)=>some xs|_=>none)=some xs:=h;split at h
  ·rename_i ys hm;cases h;obtain ⟨_,vs,e1,m1⟩:=r.gD k a _ e hm;exact ⟨a,vs,rfl,.of e1,m1⟩
  ·cases h
 |_=>cases h
theorem Χ.back{K:fI}{G:Hp}{L:List Addr}{ds:List Dt}{vs:List V}{i:Nat}{v:V}(h:Χ K G L ds vs)(e:vs[i]? =some v):∃d,ds[i]? =some d/\Den K G L d v:=by
 have hi:i<ds.length:=by rw [h.length];exact (aaf.mp e).1
 obtain ⟨v',e',n⟩:=h.get (aaa hi);rw [e] at e';cases e';exact ⟨_,aaa hi,n⟩
theorem Ow{K:fI}{G:Hp}{L:List Addr}{M:Ms}{H:Hp}(r:Rl K G L M H){n:Nat}{d e:Dt}{b:Bool}(h:wH M n d e b):∀{v u:V},Den K G L d v->Den K G L e u->HN K H n v u b:=by
 induction h with
 |flat h1 h2=>
  intro v u n1 n2;obtain ⟨rfl,f1⟩:=kQ h1 n1;obtain ⟨rfl,f2⟩:=kQ h2 n2;exact .flat f1 f2
 |@tup n ds es f h ih=>
  intro v u n1 n2;obtain ⟨a,vs,rfl,e1,m1⟩:=n1;obtain ⟨b,us,rfl,e2,m2⟩:=n2;rw [m1.length,m2.length];refine .tup (.of (r.sub _ _ e1)) (.of (r.sub _ _ e2)) λj x y hx hy=>?_;obtain ⟨d,hd,dn⟩:=m1.back hx;obtain ⟨e,he,en⟩:=m2.back hy;exact ih j d e hd he dn en
 |@lst n d e ds es f h1 h2 hl h ih=>
  intro v u n1 n2;obtain ⟨a,vs,rfl,s1,m1⟩:=gc r n1 h1;obtain ⟨b,us,rfl,s2,m2⟩:=gc r n2 h2;rw [m1.length];refine .lst s1 s2 (by rw [<-m1.length,<-m2.length];exact hl) λj x y hx hy=>?_;obtain ⟨d,hd,dn⟩:=m1.back hx;obtain ⟨e,he,en⟩:=m2.back hy;exact ih j d e hd he dn en
 |@len n d e ds es h1 h2 hl=>
  intro v u n1 n2;obtain ⟨a,vs,rfl,s1,m1⟩:=gc r n1 h1;obtain ⟨b,us,rfl,s2,m2⟩:=gc r n2 h2;exact .len s1 s2 (by rw [<-m1.length,<-m2.length];exact hl)
def HJ(M:Ms)(d:Dt):Prop:=(∃ds,d= .tup ds)\/∃xs,nc M d=some xs
theorem qM{K:fI}{G:Hp}{L:List Addr}{M:Ms}{H:Hp}{d:Dt}{v:V}(r:Rl K G L M H)(n:Den K G L d v)(h:HJ M d):∃a,v= .ref a:=by
 rcases h with ⟨ds,rfl⟩|⟨xs,h⟩
 ·obtain ⟨a,vs,rfl,_⟩:=n;exact ⟨a,rfl⟩
 ·obtain ⟨a,vs,rfl,_⟩:=gc r n h;exact ⟨a,rfl⟩
def Ur(n:Nat):Dt->Dt->Ms->DQ->Prop:=λd e M q=>∃b,HJ M d/\HJ M e/\wH M n d e b/\q (.bl b) M
def Uc(n:Nat):Dt->Dt->Ms->DQ->Prop:=λd e M q=>∃b,HJ M d/\HJ M e/\wH M n d e b/\q (.bl (!b)) M
theorem V_{K:fI}{n:Nat}:ow K (TQ K n) (Ur n):=by intro G0 L0 H0 G L M H v1 v2 d1 d2 q e r n1 n2 ⟨b,h1,h2,h,hq⟩;obtain ⟨a,rfl⟩:=qM r n1 h1;obtain ⟨a',rfl⟩:=qM r n2 h2;exact ⟨a,a',b,rfl,rfl,Ow r h n1 n2,bx e r hq⟩
theorem WX{K:fI}{n:Nat}:ow K (SD K n) (Uc n):=by intro G0 L0 H0 G L M H v1 v2 d1 d2 q e r n1 n2 ⟨b,h1,h2,h,hq⟩;obtain ⟨a,rfl⟩:=qM r n1 h1;obtain ⟨a',rfl⟩:=qM r n2 h2;exact ⟨a,a',b,rfl,rfl,Ow r h n1 n2,bx e r hq⟩
section
variable{X:Cx}{R:St->XK}{a b e l u:Expr}{ta tb te tl tu:DE}{t:DA}{pos p p2:Pos}{k':Nat}
theorem TN{A:Around}{k n:Nat}(hr:bM k A)(hn:n<=64):A.units+n<cLine:=aaM (Nat.add_le_add_left hn _) hr.units
theorem R_(n:Nat)(hr:bM k' X.A)(ja:JE X R a ta)(jb:JE X R b tb)(hn:n<=64:=by decide)(hm:behindInMarks .Eq b=false:=by rfl):JE X R (.Compare a [.Eq] [b] pos) (lj (Ur n) ta tb):=vy (Qa (TN hr hn)) V_ ja jb hm
theorem BY(n:Nat)(hr:bM k' X.A)(ja:JE X R a ta)(jb:JE X R b tb)(hn:n<=64:=by decide)(hm:behindInMarks .NotEq b=false:=by rfl):JT X R (.Compare a [.NotEq] [b] pos) (oP (lj (Uc n) ta tb)):=js (QD (TN hr hn)) WX ja jb hm
theorem GK(xs:List V)(k:Nat):qy xs none (some (k:Int))=xs.take k:=by
 unfold qy;rw [HT.n9,HT.zp,ace,Nat.sub_zero];by_cases h:k<=xs.length
 ·rw [ab5 h]
 ·rw [Nat.min_eq_right (by omega),abB (aai _),abB (by omega)]
def T9(te tl:DE):DE:=λρ M q x=>te ρ M (λd M1=>tl ρ M1 (λdi M2=>∃ds n,nc M2 d=some ds/\di= .int (n:Nat)/\q (.loc M2.length) (M2++[.lst (ds.drop n)])) x) x
theorem pV(he:JE X R e te)(hl:JE X R l tl):JE X R (.Subscript e (.Slice (some l) none none p2) pos) (T9 te tl):=
 .of (nV xh he (jy hl) yx) λσ H G L ρ M q x rl n h hx=>by refine ⟨G,L,ρ,M,_,x,rl,n,h,hx,λv H1 ⟨d1,G1,L1,M1,e1,r1,n1,h1⟩=>?_⟩;refine ⟨G1,L1,ρ,M1,_,x,r1,n.mono e1,h1,hx.on e1,λv2 H2 ⟨d2,G2,L2,M2,e2,r2,n2,ds,k,ed,ei,h2⟩=>?_⟩;subst ei;obtain ⟨a,vs,rfl,sq,m⟩:=gc r2 (Den.mono e2.g e2.l _ _ n1) ed;have n2:v2= .int k:=n2;subst n2;refine ⟨k,rfl,a,vs,rfl,sq,λp hp=>?_⟩;rw [vn];exact jD (e1.trans e2) r2 hp (Χ.of (nF k m.pair)) h2
end
open PySem PySem.SeqAt
def Gv(M:Ms):Dt->Option (List Dt)
 |.lst xs=>some xs
 |.loc k=>match M[k]? with
  |some (.lst xs)=>some xs
  |_=>none
 |_=>none
theorem xK{K:fI}{G:Hp}{L:List Addr}{M:Ms}{H:Hp}{d:Dt}{v:V}{xs:List Dt}(r:Rl K G L M H)(n:Den K G L d v)(h:Gv M d=some xs):∃a vs,v= .ref a/\H a=some (.lst vs)/\Χ K G L xs vs:=by
 cases d with
 |lst ds=>cases h;obtain ⟨a,vs,rfl,e,m⟩:=n;exact ⟨a,vs,rfl,r.sub _ _ e,m⟩
 |loc k=>
  obtain ⟨a,rfl,e⟩:=n;have h:(match M[k]? with|some (.lst xs)=>some xs|_=>none)=some xs:=h;split at h
  ·rename_i ys hm;cases h;obtain ⟨_,vs,e1,m1⟩:=r.gD k a _ e hm;exact ⟨a,vs,rfl,e1,m1⟩
  ·cases h
 |_=>cases h
def Oa:Dt->Dt->Ms->DQ->Prop:=λd e M q=>∃xs ys,Gv M d=some xs/\Gv M e=some ys/\xs.length+ys.length<=sizeLine/\q (.lst (xs++ys)) M
theorem UR{K:fI}:ow K Qt Oa:=by intro G0 L0 H0 G L M H v1 v2 d1 d2 q e r n1 n2 ⟨xs,ys,h1,h2,hz,hq⟩;obtain ⟨p1,w1,rfl,e1,m1⟩:=xK r n1 h1;obtain ⟨p2,w2,rfl,e2,m2⟩:=xK r n2 h2;refine ⟨p1,p2,w1,w2,rfl,rfl,e1,e2,by rw [<-m1.length,<-m2.length];exact hz,λp hp=>?_⟩;exact jE e r hp (qR r hp (m1.app m2)) hq
section
variable{X:Cx}{R:St->XK}{a b:Expr}{ta tb:DE}{pos:Pos}
theorem mR(ja:JE X R a ta)(jb:JE X R b tb):JE X R (.BinOp a .Add b pos) (lj Oa ta tb):=xt Kl UR ja jb
end
section
variable{X:Cx}{R:St->XK}{e l:Expr}{te tl:DE}{pos p2:Pos}
def HA(te tl:DE):DE:=λρ M q x=>te ρ M (λd M1=>tl ρ M1 (λdi M2=>∃ds n,nc M2 d=some ds/\di= .int (n:Nat)/\q (.loc M2.length) (M2++[.lst (ds.take n)])) x) x
theorem wQ(he:JE X R e te)(hl:JE X R l tl):JE X R (.Subscript e (.Slice none (some l) none p2) pos) (HA te tl):=
 .of (nV xh he yx (jy hl)) λσ H G L ρ M q x rl n h hx=>by refine ⟨G,L,ρ,M,_,x,rl,n,h,hx,λv H1 ⟨d1,G1,L1,M1,e1,r1,n1,h1⟩=>?_⟩;refine ⟨G1,L1,ρ,M1,_,x,r1,n.mono e1,h1,hx.on e1,λv2 H2 ⟨d2,G2,L2,M2,e2,r2,n2,ds,k,ed,ei,h2⟩=>?_⟩;subst ei;obtain ⟨a,vs,rfl,sq,m⟩:=gc r2 (Den.mono e2.g e2.l _ _ n1) ed;have n2:v2= .int k:=n2;subst n2;refine ⟨k,rfl,a,vs,rfl,sq,λp hp=>?_⟩;rw [GK];exact jD (e1.trans e2) r2 hp (Χ.of (sO k m.pair)) h2
end
def zM(g:Dt->En->(En->Prop)->Prop)(te:DE)(ρ0:En)(ok:Ms->Prop):List Dt->List Dt->Ms->(List Dt->Ms->Prop)->Prop
 |[],Ζ,M,k=>ok M/\k Ζ M
 |x::xs,Ζ,M,k=>ok M/\g x ρ0 λρ'=>te ρ' M (λd M2=>zM g te ρ0 ok xs (Ζ++[d]) M2 k) k4
def pS(n:Nat)(ti:DK)(g:Dt->En->(En->Prop)->Prop)(te:DE)(ae:List Nat):DE:=λρ M q x=>ti ρ M (λxs ok M1=>xs.length<=sizeLine/\zM g te (List.replicate n none++pK ae ρ) ok xs [] M1 (λys M2=>q (.lst ys) M2)) x
theorem v9{g:Dt->En->(En->Prop)->Prop}{te:DE}{cs:En}{ok:Ms->Prop}:∀xs,zM g te cs ok xs=i8 g sR te cs ok xs
 |[]=>rfl
 |x::xs=>funext λΖ=>funext λM=>funext λk=>by show (ok M/\g x cs λρ'=>te ρ' M (λd M1=>zM g te cs ok xs (Ζ++[d]) M1 k) k4)=(ok M/\g x cs λρ'=>te ρ' M (λd M1=>i8 g sR te cs ok xs (Ζ++[d]) M1 k) k4);rw [v9 xs]
section
variable{X:Cx}{R:St->XK}{elt iter:Expr}{x y:Str}{px py tp:Pos}{scope:Scope}{pos:Pos}{ti:DK}{te:DE}{ys:List Str}{ae:List Nat}{kk:Nat}
theorem EK(S:ay X scope [x,y] ys ae)(hi:JK X R (.Tuple [.Name x px, .Name y py] kk tp) iter ti)(he:∀C s H fp,JE (Cx.comp X (x::y::ys) scope C s H fp) (λ_=>E0) elt te)(hc:X.calm=true:=by rfl)(hs:∀x,foldedSetIterable iter X.env x=pure x:=by intro _;rfl):JE X R (.ListComp elt [⟨.Tuple [.Name x px, .Name y py] kk tp,iter,[],0⟩] scope pos) (pS 2 ti (g2 0 1) te ae):=Rz false S hi (we hc S) mz (oQ (Nat.zero_lt_succ 1) (Nat.lt_succ_self 1)) (λ_ _ _ _=>k_) he hc hs λρ M q x h=>by unfold pS at h;simp only [v9] at h;exact h
end
theorem kZ{g:Dt->En->(En->Prop)->Prop}{te:DE}{ρ0:En}{ok:Ms->Prop}{M:Ms}{k:List Dt->Ms->Prop}(ho:ok M)(f:Dt->Dt):∀(xs Ζ:List Dt),(∀x∈xs,∀q:DQ,q (f x) M->g x ρ0 λρ'=>te ρ' M q k4)->k (Ζ++xs.map f) M->zM g te ρ0 ok xs Ζ M k
 |[],Ζ,_,h=>⟨ho,by simpa using h⟩
 |x::xs,Ζ,ht,h=>⟨ho,ht x List.mem_cons_self _ (kZ ho f xs _ (λy hy=>ht y (List.mem_cons_of_mem _ hy)) (by simpa using h))⟩
theorem Fc(xs:List V)(a b:Nat):qy xs (some (a:Int)) (some (b:Int))=(xs.drop a).take (b-a):=by
 unfold qy;rw [HT.n9,HT.n9];by_cases ha:a<=xs.length
 ·rw [ab5 ha];by_cases hb:b<=xs.length
  ·rw [ab5 hb]
  ·rw [Nat.min_eq_right (by omega),abB (by rw [abj];omega),abB (by rw [abj];omega)]
 ·have h1:min a xs.length=xs.length:=Nat.min_eq_right (by omega);rw [h1,List.drop_of_length_le (aai xs.length),List.drop_of_length_le (show xs.length<=a by omega)];simp
section
variable{X:Cx}{R:St->XK}{e l u a b:Expr}{te tl tu ta tb:DE}{pos p2:Pos}
def RQ(te tl tu:DE):DE:=λρ M q x=>te ρ M (λd M1=>tl ρ M1 (λdi M2=>∃n:Nat,di= .int n/\tu ρ M2 (λdu M3=>∃ds m,nc M3 d=some ds/\du= .int (m:Nat)/\q (.loc M3.length) (M3++[.lst ((ds.drop n).take (m-n))])) x) x) x
theorem uZ(he:JE X R e te)(hl:JE X R l tl)(hu:JE X R u tu):JE X R (.Subscript e (.Slice (some l) (some u) none p2) pos) (RQ te tl tu):=
 .of (nV xh he (jy hl) (jy hu)) λσ H G L ρ M q x rl n h hx=>by refine ⟨G,L,ρ,M,_,x,rl,n,h,hx,λv H1 ⟨d1,G1,L1,M1,e1,r1,n1,h1⟩=>?_⟩;refine ⟨G1,L1,ρ,M1,_,x,r1,n.mono e1,h1,hx.on e1,λv2 H2 ⟨d2,G2,L2,M2,e2,r2,n2,k,ek,h2⟩=>?_⟩;subst ek;have n2:v2= .int k:=n2;subst n2;refine ⟨k,rfl,G2,L2,ρ,M2,_,x,r2,(n.mono e1).mono e2,h2,(hx.on e1).on e2,λv3 H3 ⟨d3,G3,L3,M3,e3,r3,n3,ds,m,ed,em,h3⟩=>?_⟩;subst em;have GN:=e2.trans e3;obtain ⟨a,vs,rfl,sq,dn⟩:=gc r3 (Den.mono GN.g GN.l _ _ n1) ed;have n3:v3= .int m:=n3;subst n3;refine ⟨m,rfl,a,vs,rfl,sq,λp hp=>?_⟩;rw [Fc];exact jD (e1.trans GN) r3 hp (Χ.of (sO (m-k) (nF k dn.pair))) h3
def Oz:Dt->Dt->Ms->DQ->Prop:=λd e M q=>∃xs k,Gv M d=some xs/\e= .int k/\ -(2^63)<=k/\k<2^63/\xs.length*k.toNat<=sizeLine/\q (.loc M.length) (M++[.lst (List.replicate k.toNat xs).flatten])
theorem R4{K:fI}:ow K Pz Oz:=by intro G0 L0 H0 G L M H v1 v2 d1 d2 q e r n1 n2 ⟨xs,k,h1,h2,a,b,hz,hq⟩;obtain ⟨p1,w1,rfl,e1,m1⟩:=xK r n1 h1;subst h2;have n2:v2= .int k:=n2;subst n2;refine ⟨p1,k,w1,rfl,rfl,e1,a,b,by rw [<-m1.length];exact hz,λp hp=>?_⟩;exact jD e r hp (Χ.of (xU m1.pair k.toNat)) hq
theorem CV(ja:JE X R a ta)(jb:JE X R b tb):JE X R (.BinOp a .Mult b pos) (lj Oz ta tb):=xt Js R4 ja jb
end
def Lo(ks:List Key)(k:Key):Bool:=ks.any λc=>decide (c=k)
theorem og{k:Key}:∀{ks:List Key}{vs:List V},ks.length=vs.length->(jR (ks.zip vs) k).isSome=Lo ks k
 |[],[],_=>rfl
 |c::ks,v::vs,h=>by
  have h:ks.length=vs.length:=by simpa using h
  rw [abh];by_cases e:c=k
  ·rw [eV e];subst e;simp [Lo]
  ·rw [eF e,og h];unfold Lo;rw [abM,decide_eq_false e,Bool.false_or]
section
variable{X:Cx}{R:St->XK}{o i e a b:Expr}{to ti te ta tb:DE}{pos p:Pos}{k':Nat}
theorem Br:JE X R (.Dict [] [] pos) (λ_ M q _=>q (.loc M.length) (M++[.fF [] []])):=
 .of HP λσ H G L ρ M q x rl n h hx=>by intro p hp;exact ⟨.loc M.length,G,L++[p],_,rl.VH hp,rl.LK (m:= .fF [] []) hp ⟨[],ao,rfl,rfl⟩,⟨p,rfl,by rw [<-rl.len,List.getElem?_append_right (Nat.le_refl _)];simp⟩,h⟩
def Vc:Dt->Dt->Ms->DQ->Prop:=λdi d M q=>∃k ks ds key,d= .loc k/\M[k]? =some (.fF ks ds)/\Cw di=some key/\q (.bl (Lo ks key)) M
theorem Pp(hu:X.A.units+1<cLine):jL X (compareOp .In) (λy x H Q=>∃a o,x=V.ref a/\xI H a y o/\Q (.bl o.isSome) H):=by intro ζ s σ H x y u v Q I rx ry ⟨a,o,ex,g,q⟩;subst ex;obtain rfl:v=Value.ref a:=ry;exact X0 hu I g rx λs3 I3=>⟨.bl o.isSome,H,I3,rfl,q⟩
theorem Yj{K:fI}:ow K (λy x H Q=>∃a o,x=V.ref a/\xI H a y o/\Q (.bl o.isSome) H) Vc:=by intro G0 L0 H0 G L M H v1 v2 d1 d2 q e r n1 n2 ⟨k,ks,ds,key,ed,hm,hk,h⟩;subst ed;obtain ⟨a,rfl,Im⟩:=n2;obtain ⟨_,vs,hH,hl,dn⟩:=r.gD k a _ Im hm;refine ⟨a,_,rfl,.inl ⟨_,key,.inl hH,lu hk n1,rfl⟩,?_⟩;have Fh:ks.length=vs.length:=hl.trans dn.length;rw [og Fh];exact bx e r h
theorem Tq(hr:bM k' X.A)(ja:JE X R a ta)(jb:JE X R b tb)(hm:behindInMarks .In b=false:=by rfl):JE X R (.Compare a [.In] [b] pos) (lj Vc ta tb):=vy (Pp (EH hr)) Yj ja jb hm
end
def gZ(ks:List Key)(k:Key):List Key:=if Lo ks k=true then ks else ks++[k]
def lL{α:Type}(k:Key)(v:α):List Key->List α->List α
 |c::ks,x::xs=>(if c=k then v else x)::lL k v ks xs
 |_,_=>[]
def fb{α:Type}(ks:List Key)(k:Key)(xs:List α)(v:α):List α:=if Lo ks k=true then lL k v ks xs else xs++[v]
theorem pQ{α:Type}{k:Key}{v:α}:∀{ks:List Key}{xs:List α},ks.length=xs.length->(lL k v ks xs).length=ks.length
 |[],[],_=>rfl
 |_::ks,_::xs,h=>by
  have h:ks.length=xs.length:=by simpa using h
  show (lL k v ks xs).length+1=ks.length+1;rw [pQ h]
theorem uN{k:Key}{v:V}:∀{ks:List Key}{vs:List V},ks.length=vs.length->(ks.zip vs).map (λkv=>if kv.1=k then (kv.1,v) else kv)=ks.zip (lL k v ks vs)
 |[],[],_=>rfl
 |c::ks,x::vs,h=>by
  have h:ks.length=vs.length:=by simpa using h
  rw [abh,aaA,uN h];show _=(c,if c=k then v else x)::ks.zip (lL k v ks vs)
  congr 1
  show (if c=k then (c,v) else (c,x))=_;split <;> rfl
theorem pE{K:fI}{G:Hp}{L:List Addr}{k:Key}{d:Dt}{v:V}(n:Den K G L d v):∀{ks:List Key}{ds:List Dt}{vs:List V},Χ K G L ds vs->ks.length=ds.length->Χ K G L (lL k d ks ds) (lL k v ks vs)
 |[],[],_,h,_=>by cases h;rfl
 |c::ks,x::ds,_,⟨y,vs,e,n0,ns⟩,hl=>by
  subst e;have hl:ks.length=ds.length:=by simpa using hl
  refine ⟨_,_,rfl,?_,pE n ns hl⟩;show Den K G L (if c=k then d else x) (if c=k then v else y);split
  ·exact n
  ·exact n0
theorem KZ{k:Key}{v:V}{ks:List Key}{vs:List V}(h:ks.length=vs.length):iN (ks.zip vs) k v=(gZ ks k).zip (fb ks k vs v):=by
 unfold iN gZ fb;rw [oj,og h];split
 ·exact uN h
 ·rw [List.zip_append h];rfl
def wY(to ti tv:DE):DS:=λDn ρ M=>tv ρ M (λy M1=>to ρ M1 (λd M2=>ti ρ M2 (λdi M3=>∃k ks ds key,d= .loc k/\M3[k]? =some (.fF ks ds)/\Cw di=some key/\ks.length<1000/\Dn.nx ρ (M3.set k (.fF (gZ ks key) (fb ks key ds y)))) Dn.x) Dn.x) Dn.x
section
variable{X:Cx}{R:St->XK}{o i value:Expr}{to ti tv:DE}{pos pos':Pos}{k':Nat}
theorem ya(hr:bM k' X.A)(ho:JE X R o to)(hi:JE X R i ti)(hv:JE X R value tv)(hs:swapsWith value (some (.Subscript o i pos')) pos.line X.env=pure false:=by rfl):JS X R (.Assign [.Subscript o i pos'] value pos) (wY to ti tv):=
 .of (MG (EH hr) ho hi hv hs) λσ H G L ρ M Dn rl n h hx=>by
  refine ⟨G,L,ρ,M,_,_,rl,n,h,hx,λv H1 ⟨dv,G1,L1,M1,e1,r1,n1,h1⟩=>?_⟩;refine ⟨G1,L1,ρ,M1,_,_,r1,n.mono e1,h1,hx.on e1,λov H2 ⟨d,G2,L2,M2,e2,r2,n2,h2⟩=>?_⟩;refine ⟨G2,L2,ρ,M2,_,_,r2,(n.mono e1).mono e2,h2,(hx.on e1).on e2,λiv H3 ⟨di,G3,L3,M3,e3,r3,n3,k,ks,ds,key,ed,hm,hk,hlen,h3⟩=>?_⟩;subst ed;obtain ⟨a,rfl,Hr⟩:=n2;have Bl:=e3.l.get Hr;obtain ⟨_,vs,hH,hl,dn⟩:=r3.gD k a _ Bl hm;have GN:=e2.trans e3;have Vz:=Den.mono GN.g GN.l _ _ n1;have Fh:ks.length=vs.length:=hl.trans dn.length;obtain rfl:iv=kV key:=lu hk n3;have z:(ks.zip vs).length<sizeLine:=by rw [abi];exact aaM (Nat.min_le_left _ _) (Nat.lt_trans hlen (by decide))
  refine ⟨a,_,rfl,Jt.k hH z,ρ,G3,L3,_,((e1.trans e2).trans e3).trans (r3.KY Bl),r3.setM (m:= .fF (gZ ks key) (fb ks key ds dv)) Bl ⟨fb ks key vs v,by rw [ao,KZ Fh],?_,?_⟩,(((n.mono e1).mono e2).mono e3).mono (r3.KY (o:= .own a) Bl),h3⟩
  ·unfold gZ fb;split
   ·rw [pQ hl]
   ·rw [aah,aah,hl];rfl
  ·unfold fb;split
   ·exact pE Vz dn hl
   ·exact dn.app ⟨_,_,rfl,Vz,rfl⟩
end
section
variable{X:Cx}{R:St->XK}{o i e f a b v1 v2:Expr}{to ti te ta tb tx t1 t2:DE}{t:DA}{pos p apos cL:Pos}{k':Nat}
def D9:Dt->Dt->Ms->DQ->Prop:=λdi d M q=>∃k ks ds key,d= .loc k/\M[k]? =some (.fF ks ds)/\Cw di=some key/\q (.bl (!Lo ks key)) M
theorem GX(hu:X.A.units+1<cLine):jL X (compareOp .NotIn) (λy x H Q=>∃a o,x=V.ref a/\xI H a y o/\Q (.bl (!o.isSome)) H):=by intro ζ s σ H x y u v Q I rx ry ⟨a,o,ex,g,q⟩;subst ex;obtain rfl:v=Value.ref a:=ry;exact LB hu I g rx λs3 I3=>⟨.bl (!o.isSome),H,I3,rfl,q⟩
theorem M8{K:fI}:ow K (λy x H Q=>∃a o,x=V.ref a/\xI H a y o/\Q (.bl (!o.isSome)) H) D9:=by intro G0 L0 H0 G L M H v1 v2 d1 d2 q e r n1 n2 ⟨k,ks,ds,key,ed,hm,hk,h⟩;subst ed;obtain ⟨a,rfl,Im⟩:=n2;obtain ⟨_,vs,hH,hl,dn⟩:=r.gD k a _ Im hm;refine ⟨a,_,rfl,.inl ⟨_,key,.inl hH,lu hk n1,rfl⟩,?_⟩;have Fh:ks.length=vs.length:=hl.trans dn.length;rw [og Fh];exact bx e r h
theorem GS(hr:bM k' X.A)(ja:JE X R a ta)(jb:JE X R b tb)(hm:behindInMarks .NotIn b=false:=by rfl):JT X R (.Compare a [.NotIn] [b] pos) (oP (lj D9 ta tb)):=js (GX (EH hr)) M8 ja jb hm
theorem xA:dw X (.type "dict") (λxs H Q=>∃a Ο,xs=[V.ref a]/\Rd H a (.dK Ο)/\∀p,H p=none->Q (.ref p) (upd H p (.dK Ο))):=by
 intro ζ s σ H xs us Q I r ⟨a,Ο,ex,e,q⟩;subst ex;cases r with
 |cons r1 r2=>
  cases r2;cases r1;exact KL I e λp s' hp I'=>⟨.ref p,_,I',rfl,q p hp⟩
def K0:List Dt->Ms->DQ->Prop
 |[d],M,q=>∃k ks ds,d= .loc k/\M[k]? =some (.fF ks ds)/\q (.loc M.length) (M++[.fF ks ds])
 |_,_,_=>False
theorem UJ{K:fI}:DN K (λxs H Q=>∃a Ο,xs=[V.ref a]/\Rd H a (.dK Ο)/\∀p,H p=none->Q (.ref p) (upd H p (.dK Ο))) K0:=by
 intro G0 L0 H0 G L M H vs ds q e r n h;unfold K0 at h;split at h
 ·rename_i d;obtain ⟨v,rfl,n1⟩:=bo n;obtain ⟨k,ks,ds,ed,hm,h⟩:=h;subst ed;obtain ⟨a,rfl,hk⟩:=n1;obtain ⟨_,vs,hH,hl,dn⟩:=r.gD k a _ hk hm;refine ⟨a,_,rfl,.inl hH,λp hp=>?_⟩;exact ⟨.loc M.length,G,L++[p],_,e.trans (r.VH hp),r.LK (m:= .fF ks ds) hp ⟨vs,ao,hl,Χ.mono (.refl _) ⟨[p],rfl⟩ _ _ dn⟩,⟨p,rfl,by rw [<-r.len,List.getElem?_append_right (Nat.le_refl _)];simp⟩,h⟩
 ·exact h.elim
theorem Bs:bootBuiltins "dict"=some (.type "dict"):=by decide+kernel
theorem Ki(hm:X.mg "dict"=none)(ha:JA X R [e] t)(hg:Gl X "dict":=by rfl)(he:starEach [e] X.env=(false,eval e X.env)::starEach [] X.env:=by rfl)(gq:(backTo pos (starEach [] X.env)).any (·.1)=false:=by rfl):JE X R (.Call (.Name "dict" p) [e] [] pos) (C4 K0 t):=
 rL xA UJ hm Bs ha hg (by decide) (by decide) he gq
end
section
variable{X:Cx}{R:St->XK}{o e f v1 v2:Expr}{to te tx t1 t2:DE}{pos apos cL:Pos}
theorem Mq{K:fI}{G1:Hp}{L1:List Addr}{H1 G:Hp}{L:List Addr}{M:Ms}{H:Hp}{p:Addr}{ks:List Key}{ds:List Dt}{vs:List V}{q:DQ}(e:Ex G1 L1 H1 G L H)(r:Rl K G L M H)(N3:H1 p=none)(hg:G p=none)(hl:p∉L)(h:H p=some (.dK (ks.zip vs)))(hk:ks.length=ds.length)(n:Χ K G L ds vs)(k:q (.loc M.length) (M++[.fF ks ds])):Fin K G1 L1 H1 q (.ref p) H:=by
 refine ⟨.loc M.length,G,L++[p],M++[.fF ks ds],⟨e.g,e.l.trans ⟨[p],rfl⟩,e.fr,e.out,λb hb=>?_,e.DC⟩,⟨r.sub,by rw [List.length_append,List.length_append,r.len];rfl,List.nodup_append.mpr ⟨r.nd,by simp,λa ha b hb=>?_⟩,λk a m h1 h2=>?_⟩,⟨p,rfl,by rw [<-r.len,List.getElem?_append_right (Nat.le_refl _)];simp⟩,k⟩
 ·rcases aaP.mp hb with z|z
  ·exact e.new b z
  ·have e:b=p:=by simpa using z
   right;rw [e];exact N3
 ·have e:b=p:=by simpa using hb
  rw [e];exact λz=>hl (z▸ha)
 ·by_cases uD:k<L.length
  ·rw [aaq uD] at h1;rw [aaq (by rw [<-r.len];exact uD)] at h2;obtain ⟨q1,q2⟩:=r.gD k a m h1 h2;exact ⟨q1,q2.mono (.refl _) ⟨[p],rfl⟩ rfl⟩
  ·have e:k=L.length:=by have:=(aaf.mp h1).1;rw [aah] at this;simp at this;omega
   rw [e,aan (aai _)] at h1;rw [e,r.len,aan (aai _)] at h2;simp at h1 h2;subst h1 h2;exact ⟨hg,vs,h,hk,Χ.mono (.refl _) ⟨[p],rfl⟩ _ _ n⟩
end
def i7{α:Type}(is:List Nat)(xs:List α):List α:=is.filterMap λi=>xs[i]?
theorem Ct{α β:Type}{F:α->β->Prop}:∀{xs:List α}{ys:List β},Paired F xs ys->∀{i:Nat}{x:α},xs[i]? =some x->∃y,ys[i]? =some y/\F x y
 |_,_,.nil,i,x,h=>by simp at h
 |_,_,.cons r t,0,x,h=>by obtain rfl:=aav h;exact ⟨_,rfl,r⟩
 |_,_,.cons r t,i+1,x,h=>by obtain ⟨y,e,f⟩:=Ct t (show _=some x by simpa using h);exact ⟨y,by simpa using e,f⟩
theorem tF{α β:Type}{F:α->β->Prop}{xs:List α}{ys:List β}(p:Paired F xs ys):∀is:List Nat,Paired F (i7 is xs) (i7 is ys)
 |[]=> .nil
 |i::is=>by
  have ih:=tF p is;unfold i7 at ih⊢;rw [abY,abY];cases hx:xs[i]? with
  |none=>
   have:ys[i]? =none:=by rw [List.getElem?_eq_none_iff] at hx⊢;rw [<-Paired.length p];exact hx
   rw [this];exact ih
  |some x=>
   obtain ⟨y,hy,r⟩:=Ct p hx;rw [hy];exact .cons r ih
theorem Fw{a b:Nat}(its:List Value)(hb:0<b)(ha:a<=its.length):slicePick its.toArray (some (a:Int)) none (some (b:Int))=(i7 (sliceRange a its.length b) its).toArray:=by
 have hs:sliceBounds (some (a:Int)) none (some (b:Int)) its.length=((a:Int),(its.length:Int),(b:Int)):=by
  unfold sliceBounds;have h1:(b:Int) > 0:=by omega
  have h2:¬(a:Int)<0:=by omega
  simp only [Option.getD_some,h1,if_true,h2,if_false];refine Prod.ext ?_ rfl;show max (0:Int) (min (a:Int) (its.length:Int))=a;omega
 unfold slicePick;rw [aas,hs]
 congr 1
 unfold i7
 congr 1
 funext i
 simp
section
variable{X:Cx}{e l k:Expr}{te tl tk:TE}{pos p2:Pos}
def SI(K:fI)(a b:Nat)(te tl tk:TE):TE:=λσ H Q=>te σ H λx H1=>tl σ H1 λy H2=>∃i:Int,y= .int i/\some i=some (a:Int)/\tk σ H2 λz H3=>∃j:Int,z= .int j/\some j=some (b:Int)/\∃c xs,x= .ref c/\gu K H3 c xs/\a<=xs.length/\(sliceRange a xs.length b).length<=xs.length/\∀p,H3 p=none->Q (.ref p) (upd H3 p (.lst (i7 (sliceRange a xs.length b) xs)))
theorem KH{α:Type}{xs:List α}:∀is:List Nat,(i7 is xs).length<=is.length:=λis=>List.length_filterMap_le _ _
theorem MN{a b:Nat}(hb:0<b)(he:PE X e te)(hl:PE X l tl)(hk:PE X k tk):PE X (.Subscript e (.Slice (some l) none (some k) p2) pos) (SI X.K a b te tl tk):=by intro ζ s σ H Q I h;refine Subscript_ (bA (he ζ s σ H _ I h) λv s1 ⟨x,H1,I1,r1,q1⟩=>?_);refine wpAny_Slice (bA (jy hl ζ s1 σ H1 (λo H2=>o=some (a:Int)/\tk σ H2 λz H3=>∃j:Int,z= .int j/\some j=some (b:Int)/\∃c xs,x= .ref c/\gu X.K H3 c xs/\a<=xs.length/\(sliceRange a xs.length b).length<=xs.length/\∀p,H3 p=none->Q (.ref p) (upd H3 p (.lst (i7 (sliceRange a xs.length b) xs)))) I1 q1) λvl s2 ⟨o1,H2,I2,pl,el,q2⟩=>?_);rw [evalPart_none];refine wpAny_pure ?_;refine bA (jy hk ζ s2 σ H2 (λo H3=>o=some (b:Int)/\∃c xs,x= .ref c/\gu X.K H3 c xs/\a<=xs.length/\(sliceRange a xs.length b).length<=xs.length/\∀p,H3 p=none->Q (.ref p) (upd H3 p (.lst (i7 (sliceRange a xs.length b) xs)))) I2 q2) λvs s3 ⟨o,H3,I3,ps,eo,c,xs,ex,hx,ha,hn,q⟩=>?_;subst el eo ex;cases r1;have I4:Inv X ζ σ H3 {s3 with heap:=s3.heap.push {cls:= .type "slice",data:= .fields #[vl,.none,vs]}}:=I3.kept (t':=s3.toks) λb ob q=>Heap.get?_push_of_some _ q;obtain ⟨its,r,ht,hz⟩:=I4.list hx;have hlen:=r.length;show wpAny (model X.prog X.w) X.A (subscriptTail e (.Slice (some l) none (some k) p2) (.ref c) (.ref s3.heap.objs.size)) (EP X ζ σ Q) X.xe {s3 with heap:=s3.heap.push {cls:= .type "slice",data:= .fields #[vl,.none,vs]}};refine tail_any (ops:=[.ref c,.ref s3.heap.objs.size]) ht.isList.typeIs slot_list_getitem.lookup ?_ (by with_unfolding_all rfl);refine wpAny_getItem_list_slice ht.isList (Heap.IsSliceOf.new ..) pl .none ps (λz=>by injection z with z;omega) ?_ (by rw [aas] <;> omega);rw [Fw its hb (by omega),<-hlen];refine ⟨.ref _,_,I4.laid (t':=s3.toks) (o:= .lst (i7 (sliceRange a xs.length b) xs)) (λb ob q=>Heap.get?_push_of_some _ q) (aai _) ?_,rfl,q _ (I4.aY.fresh (aai _))⟩;exact ⟨aap (KH _) (aap hn hz),_,0,tF r _,Heap.get?_push_size _ rfl⟩
end
def Uh(td te:TE):TE:=λσ H Q=>td σ H λx H1=>∃a,x= .ref a/\ZR H1 a/\te σ H1 λy H2=>∃b Ο more,y= .ref b/\a≠b/\H2 a=some (.dK Ο)/\Rd H2 b (.dK more)/\Ο.length+more.length<=sizeLine/\Q .bw (upd H2 a (.dK (iF Ο more)))
section
variable{X:Cx}{o e:Expr}{apos cL:Pos}{td te:TE}
theorem Na(ho:PE X o td)(he:PE X e te)(m:M1 X o "update" apos e cL):PE X (.Call (.Attribute o "update" apos) [e] [] cL) (Uh td te):=by
 intro ζ s σ H Q I h;refine wpAny_Call_method m.base m.few m.line PySem.F.plainAttrs_dict PySem.F.slot_dict_update PySem.F.type_dict_update (bA (ho ζ s σ H _ I h) λu s1 ⟨x,H1,I1,rx,a,ex,d,q1⟩=>?_);subst ex;obtain rfl:u=Value.ref a:=rx;obtain ⟨t1,t2,_⟩:=Px I1 d;refine ⟨t1,t2,?_⟩;rw [m.trees];refine Calls.callWith_builtin rfl (Calls.evalArgs_plain (Calls.spliced_cons (bA (he ζ s1 σ H1 _ I1 q1) λiv s2 ⟨y,H2,I2,ry,b,Ο,more,ey,lI,hA,hB,hz,q2⟩=>Calls.spliced_nil ?_)));subst ey;obtain rfl:iv=Value.ref b:=ry;obtain ⟨z1,d1,vs,r1,dd1⟩:=D0 I2.aY hA;obtain ⟨z2,d2,rs,r2,VT⟩:=om I2.aY hB;refine call_meetsIn PySem.F.slot_dict_update dd1.typeIs PySem.F.entry_dict_update (PySem.F.args_dict_update_2 _ _) (meets_dict_update (bB X.prog X.w) a b lI d2) ⟨vs,rs,dd1,VT,by rw [<-r1.length,<-r2.length];exact hz,λh' hm _ hs=>?_⟩;have hex:∃q,h'.get? a=some q:=let ⟨q,_,_,hq,_⟩:=hm;⟨q,hq⟩
 exact ⟨.bw,_,qO (t':=s2.toks) I2 (by rw [hA];exact True.intro) hs hex (tj (aap (ix more Ο) hz) d1 (KV.merge r2 r1) hm),rfl,q2⟩
end
section
variable{X:Cx}{R:St->XK}{o e l k a b:Expr}{to te tl tk ta tb:DE}{pos p2 apos cL:Pos}{k':Nat}
def OF(a b:Nat)(te tl tk:DE):DE:=λρ M q x=>te ρ M (λd M1=>tl ρ M1 (λdi M2=>di= .int a/\tk ρ M2 (λdk M3=>∃ds,nc M3 d=some ds/\dk= .int b/\a<=ds.length/\(sliceRange a ds.length b).length<=ds.length/\q (.loc M3.length) (M3++[.lst (i7 (sliceRange a ds.length b) ds)])) x) x) x
theorem QP{a b:Nat}(he:JE X R e te)(hl:JE X R l tl)(hk:JE X R k tk)(hb:0<b:=by decide):JE X R (.Subscript e (.Slice (some l) none (some k) p2) pos) (OF a b te tl tk):=
 .of (MN hb he hl hk) λσ H G L ρ M q x rl n h hx=>by refine ⟨G,L,ρ,M,_,x,rl,n,h,hx,λv H1 ⟨d1,G1,L1,M1,e1,r1,n1,h1⟩=>?_⟩;refine ⟨G1,L1,ρ,M1,_,x,r1,n.mono e1,h1,hx.on e1,λv2 H2 ⟨d2,G2,L2,M2,e2,r2,n2,ei,h2⟩=>?_⟩;subst ei;have n2:v2= .int a:=n2;subst n2;refine ⟨_,rfl,rfl,G2,L2,ρ,M2,_,x,r2,(n.mono e1).mono e2,h2,(hx.on e1).on e2,λv3 H3 ⟨d3,G3,L3,M3,e3,r3,n3,ds,ed,ek,ha,hn,h3⟩=>?_⟩;subst ek;have n3:v3= .int b:=n3;subst n3;have GN:=e2.trans e3;obtain ⟨c,vs,rfl,sq,m⟩:=gc r3 (Den.mono GN.g GN.l _ _ n1) ed;have hl:=m.length;refine ⟨_,rfl,rfl,c,vs,rfl,sq,by rw [<-hl];exact ha,by rw [<-hl];exact hn,λp hp=>?_⟩;rw [<-hl];exact jD (e1.trans GN) r3 hp (Χ.of (tF m.pair _)) h3
def qb(ks:List Key):List Key->List Key
 |[]=>ks
 |k::r=>qb (gZ ks k) r
def rJ(ks:List Key)(ds:List Dt):List Key->List Dt->List Dt
 |k::r,d::An=>rJ (gZ ks k) (fb ks k ds d) r An
 |_,_=>ds
theorem QF{α:Type}{ks:List Key}{k:Key}{xs:List α}{v:α}(h:ks.length=xs.length):(gZ ks k).length=(fb ks k xs v).length:=by
 unfold gZ fb;split
 ·rw [pQ h]
 ·rw [aah,aah,h];rfl
theorem Rc{K:fI}{G:Hp}{L:List Addr}{ks:List Key}{k:Key}{ds:List Dt}{vs:List V}{d:Dt}{v:V}(n:Den K G L d v)(h:Χ K G L ds vs)(hl:ks.length=ds.length):Χ K G L (fb ks k ds d) (fb ks k vs v):=by
 unfold fb;split
 ·exact pE n h hl
 ·exact h.app ⟨_,_,rfl,n,rfl⟩
theorem Eu{K:fI}{G:Hp}{L:List Addr}:∀{vh:List Key}{An:List Dt}{Lh:List V}{ks:List Key}{ds:List Dt}{vs:List V},vh.length=An.length->Χ K G L An Lh->ks.length=ds.length->Χ K G L ds vs->
  ∃us,iF (ks.zip vs) (vh.zip Lh)=(qb ks vh).zip us/\(qb ks vh).length=(rJ ks ds vh An).length/\Χ K G L (rJ ks ds vh An) us
 |[],[],_,ks,ds,vs,_,h2,hl,h=>by cases h2;exact ⟨vs,rfl,hl,h⟩
 |k::vh,d::An,_,ks,ds,vs,Fh,⟨v,Lh,e,n0,ns⟩,hl,h=>by
  subst e;have Fh:vh.length=An.length:=by simpa using Fh
  obtain ⟨us,e1,e2,e3⟩:=Eu (ks:=gZ ks k) (ds:=fb ks k ds d) (vs:=fb ks k vs v) Fh ns (QF hl) (Rc n0 h hl);refine ⟨us,?_,e2,e3⟩;rw [abh];show iF (iN (ks.zip vs) k v) (vh.zip Lh)=(qb (gZ ks k) vh).zip us;rw [KZ (hl.trans h.length),e1]
def DY(to te:DE):DE:=λρ M q x=>to ρ M (λd M1=>(∃k ks ds,d= .loc k/\M1[k]? =some (.fF ks ds))/\te ρ M1 (λd2 M2=>∃k k2 ks ds vh An,d= .loc k/\d2= .loc k2/\k≠k2/\M2[k]? =some (.fF ks ds)/\M2[k2]? =some (.fF vh An)/\ks.length+vh.length<=1000/\q .bw (M2.set k (.fF (qb ks vh) (rJ ks ds vh An)))) x) x
theorem CQ(ho:JE X R o to)(he:JE X R e te)(m:M1 X o "update" apos e cL:=by exact ⟨rfl,rfl,rfl,rfl⟩):JE X R (.Call (.Attribute o "update" apos) [e] [] cL) (DY to te):=
 .of (Na ho he m) λσ H G L ρ M q x rl n h hx=>by
  refine ⟨G,L,ρ,M,_,x,rl,n,h,hx,λv H1 ⟨d1,G1,L1,M1,e1,r1,n1,⟨k0,ks0,ds0,ed0,hm0⟩,h1⟩=>?_⟩;subst ed0;obtain ⟨a,rfl,hk⟩:=n1;obtain ⟨_,vs0,hH0,_,_⟩:=r1.gD k0 a _ hk hm0;refine ⟨a,rfl,.inl ⟨_,.inl hH0⟩,G1,L1,ρ,M1,_,x,r1,n.mono e1,h1,hx.on e1,λv2 H2 ⟨d2,G2,L2,M2,e2,r2,n2,k,k2,ks,ds,vh,An,ed,ed2,lI,hm,YI,hz,h3⟩=>?_⟩;cases ed;subst ed2;have Bl:=e2.l.get hk;obtain ⟨b,rfl,UA⟩:=n2;obtain ⟨_,vs,hH,hl,dn⟩:=r2.gD k0 a _ Bl hm;obtain ⟨_,Lh,VP,Fh,RN⟩:=r2.gD k2 b _ UA YI;have z1:(ks.zip vs).length<=ks.length:=by rw [abi];exact Nat.min_le_left _ _
  have z2:(vh.zip Lh).length<=vh.length:=by rw [abi];exact Nat.min_le_left _ _
  have sz:(1000:Nat)<=sizeLine:=by decide
  obtain ⟨us,u1,u2,u3⟩:=Eu Fh RN hl dn;have ab:a≠b:=λz=>by subst z;have i1:=(aaf.mp Bl).1;have:=(List.getElem?_inj (l:=L2) i1 r2.nd).mp (Bl.trans UA.symm);exact lI this
  refine ⟨b,_,_,rfl,ab,hH,.inl VP,by omega,?_⟩;exact ⟨.bw,G2,L2,_,(e1.trans e2).trans (r2.KY Bl),r2.setM (m:= .fF (qb ks vh) (rJ ks ds vh An)) Bl ⟨us,by rw [ao,u1],u2,u3⟩,rfl,h3⟩
end
def Ko(P:Program)(w:World)(a:Addr)(Ο:List (Key×V))(ep:Nat)(h:Heap):Prop:=Ο.length<=sizeLine/\(a==sysModules)=false/\∃vs,KV Ο vs/\h.DictAt (bB P w) a vs ep
def B1(P:Program)(w:World)(a:Addr)(Ο:List (Key×V))(ep:Nat):HO:= .ext (Ko P w a Ο ep)
section
variable{P P':Program}{w w':World}{H:Hp}{h:Heap}{a:Addr}{Ο:List (Key×V)}{ep:Nat}
theorem EM(ok:lE P w H h)(e:H a=some (B1 P' w' a Ο ep)):Ko P' w' a Ο ep h:=(ok a _ e).1
theorem QC(x:Ko P' w' a Ο ep h):bT P w H h a (B1 P' w' a Ο ep):=by
 refine ⟨x,?_,λh1 h2 y k=>?_⟩
 ·obtain ⟨_,_,vs,_,o,es,e,_⟩:=x;exact ⟨o,e⟩
 ·obtain ⟨z,hd,vs,r,o,es,e,c⟩:=y;exact ⟨z,hd,vs,r,o,es,k _ e,c⟩
end
section
variable{X:Cx}{ζ:List (Addr×Obj)}{σ:St}{H:Hp}{s:Shared}{a:Addr}{Ο:List (Key×V)}{ep:Nat}
theorem Inv.OW(I:Inv X ζ σ H s)(mu:RD (H a))(x:Ko X.prog X.w a Ο ep s.heap):Inv X ζ σ (upd H a (B1 X.prog X.w a Ο ep)) s:=by
 have he:∃u,s.heap.get? a=some u:=let ⟨_,_,_,_,o,_,e,_⟩:=x;⟨o,e⟩
 exact I.write (x:=a) (e:=a) (h':=s.heap) (t':=s.toks) mu (.inl rfl) (λb u _ q=>q) he (QC x)
theorem Inv.walkOut(I:Inv X ζ σ H s)(e:H a=some (B1 X.prog X.w a Ο ep)):Inv X ζ σ (upd H a (.dK Ο)) s:=by
 obtain ⟨z,hd,vs,r,dd⟩:=EM I.aY e;have he:∃u,s.heap.get? a=some u:=let ⟨o,_,e,_⟩:=dd;⟨o,e⟩
 exact I.write (x:=a) (e:=a) (h':=s.heap) (t':=s.toks) (by rw [e];exact True.intro) (.inl rfl) (λb u _ q=>q) he (tj z hd r dd.dictOf)
theorem TC{P:Program}{w:World}{k:Key}{u:Value}(h:(bB P w).is k u=true):aC (kV k) u:=by
 rcases bu h with ⟨i,t,rfl,rfl⟩|⟨x,t,rfl,rfl⟩
 ·exact ⟨t,rfl⟩
 ·exact ⟨t,rfl⟩
end
def V6(P:Program)(w:World)(a:Addr)(Ο:List (Key×V))(ep:Nat):It:=
 ⟨λi H=>H a=some (B1 P w a Ο ep)/\i<Ο.length,λi H x H'=>H'=H/\∃kv,Ο[i]? =some kv/\x=kV kv.1,λi H=>H a=some (B1 P w a Ο ep)/\Ο.length<=i⟩
theorem GR{P:Program}{w:World}{K:fI}{tg:Expr}(a it:Addr)(Ο:List (Key×V))(ep:Nat):Turn P w K tg (V6 P w a Ο ep) [it] it (λi h=>h.IsKeyIter it a i Ο.length ep) where
 mem:=by simp
 obj:=λi h st b hb=>by
  have e:b=it:=by simpa using hb
  subst e;obtain ⟨o,e,c,d⟩:=st;exact ⟨o,e,λv z=>by rw [d] at z;cases z⟩
 keep:=λi h h' st k=>by obtain ⟨o,e,r⟩:=st;exact ⟨o,k it (by simp) o e,r⟩
 item:=by
  intro X hP hw hK hc i ζ s σ H E I hf st hg;subst hP hw hK;obtain ⟨hq,hi⟩:=hg;obtain ⟨z,hd,vs,rel,dd⟩:=EM I.aY hq;obtain ⟨f0,f1,f2,f3,f4,f5⟩:=hf it (by simp);have hx:Ο[i]? =some Ο[i]:=aaa hi;obtain ⟨q,RK,r1,r2⟩:=Ct rel hx;obtain ⟨k,v⟩:=q;have X4:s.heap.IsKeyIter it a i vs.length ep:=by rw [<-rel.length];exact st
  refine wpAny_pyNext_dict_item X4 dd RK λkey h' hk xT sb=>?_;have xT:h'.IsKeyIter it a (i+1) Ο.length ep:=by rw [rel.length];exact xT
  have I1:Inv X ζ σ H {s with heap:=h'}:=I.turned (t':=s.toks) (λb o hb e=>(sb.2 b hb).trans e) f0 f1 f3 f4 f5;obtain ⟨o,e,c,d⟩:=id xT;exact ⟨key,rfl,vk (s:={s with heap:=h'}) e c d (by decide) ⟨kV k,H,I1,TC hk,⟨rfl,Ο[i],hx,by rw [r1]⟩,xT,λb hb=>(hf b hb).1⟩⟩
 done:=by
  intro X hP hw hK hc i ζ s σ H E I hf st hg;subst hP hw hK;obtain ⟨hq,hi⟩:=hg;obtain ⟨z,hd,vs,rel,dd⟩:=EM I.aY hq;obtain ⟨f0,f1,f2,f3,f4,f5⟩:=hf it (by simp);have X4:s.heap.IsKeyIter it a i vs.length ep:=by rw [<-rel.length];exact st
  exact wpAny_pyNext_dict_end (I.ok.hd hc) X4 dd (abQ (by rw [<-rel.length];exact hi)) λh' eb=>⟨rfl,I.turned (t':=s.toks) (λb o hb e=>eb b o hb e) f0 f1 f3 f4 f5⟩
 self:=λ_ _ _ _ _ st h=>wpAny_pyIter_keyiter st h
section
variable{X:Cx}{tg:Expr}{ζ:List (Addr×Obj)}{σ:St}{H:Hp}{s:Shared}{a:Addr}{Ο:List (Key×V)}{Q:It->Hp->Prop}{E:Value->Shared->Prop}
theorem Mf(I:Inv X ζ σ H s)(e:H a=some (.dK Ο))(q:∀ep,Q (V6 X.prog X.w a Ο ep) (upd H a (B1 X.prog X.w a Ο ep))):wpAny (model X.prog X.w) X.A (pyIter (.ref a)) (Lk X ζ σ tg Q) E s:=by
 obtain ⟨z,hd,vs,rel,dd⟩:=D0 I.aY e;obtain ⟨ep,dd⟩:=dd.dictAt;refine wpAny_pyIter_dict hd dd ?_;have I1:=I.OW (by rw [e];exact True.intro) (show Ko X.prog X.w a Ο ep s.heap from ⟨z,hd,vs,rel,dd⟩);refine ⟨s.heap.objs.size,[s.heap.objs.size],_,_,_,rfl,I1.kept (t':=s.toks) λb o e=>Heap.get?_push_of_some _ e,GR a _ Ο ep,⟨_,Heap.get?_push_size _ rfl,rfl,by rw [rel.length];rfl⟩,λb hb=>?_,q ep⟩;have e:b=s.heap.objs.size:=by simpa using hb
 subst e;exact I1.BG (aai _) (I1.aY.fresh (aai _))
end
def ZP(P:Program)(w:World)(D:yJ):St->Hp->Prop:=λσ H=>∃a Ο ep,H a=some (B1 P w a Ο ep)/\D.nx σ (upd H a (.dK Ο))
section
variable{X:Cx}{st:Stmt}{t:TS}{o i:Expr}{td ty:TE}{pos:Pos}
theorem Gk(h:PS X st t):PS X st (λD σ H=>t {D with nx:=ZP X.prog X.w D} σ H):=by
 intro ζ s σ H D I h';refine bA (h ζ s σ H _ I h') λf s' sp=>?_;cases f with
 |next=>
  obtain ⟨σ',H',I',a,Ο,ep,e,q⟩:=sp;exact ⟨σ',_,I'.walkOut e,q⟩
 |brk=>exact sp
 |cont=>exact sp
 |ret u=>exact sp
def O_(P:Program)(w:World)(td ty:TE):TE:=λσ H Q=>td σ H λx H1=>ty σ H1 λy H2=>∃a Ο ep k v,x= .ref a/\H2 a=some (B1 P w a Ο ep)/\y=kV k/\jR Ο k=some v/\Q v H2
theorem HK(ho:PE X o td)(hi:PE X i ty)(hs:CM i):PE X (.Subscript o i pos) (O_ X.prog X.w td ty):=by intro ζ s σ H Q I h;refine x6 abV.lookup hs (bA (ho ζ s σ H _ I h) λu s1 ⟨x,H1,I1,rx,q1⟩=>bA (hi ζ s1 σ H1 _ I1 q1) λiv s2 ⟨y,H2,I2,ry,a,Ο,ep,k,v,ex,e,ey,l,q2⟩=>?_);subst ex ey;obtain rfl:u=Value.ref a:=rx;obtain ⟨z,hd,vs,rel,dd⟩:=EM I2.aY e;have dd:=dd.dictOf;obtain ⟨w',hw,Hb⟩:=j3.some_of (v:=v) (o:=valueAt vs k) (by rw [<-l];exact rel.val k);exact ⟨dd.typeIs,wpAny_getItem_of (tJ ry) dd.mapOf hw ⟨v,H2,I2.tok _,Hb,q2⟩⟩
end
def Ky:Key->Dt
 |.inl i=> .int i
 |.inr x=> .str x
theorem LZ{K:fI}{G:Hp}{L:List Addr}:∀k:Key,Den K G L (Ky k) (kV k)
 |.inl _=>rfl
 |.inr _=>rfl
theorem sV{K:fI}{G:Hp}{L:List Addr}:∀is:List Int,Χ K G L (is.map Dt.int) (is.map V.int)
 |[]=>rfl
 |_::is=>⟨_,_,rfl,rfl,sV is⟩
theorem yS{K:fI}{G:Hp}{L:List Addr}:∀{is:List Int}{vs:List V},Χ K G L (is.map Dt.int) vs->vs=is.map V.int
 |[],vs,h=>h
 |i::is,vs,h=>by obtain ⟨v,r,rfl,h1,h2⟩:=h;have h1:v= .int i:=h1;rw [h1,yS h2];rfl
def Oe(P:Program)(w:World)(ks:List Key)(is:List Int)(ep:Nat):Addr->HO:=λa=>B1 P w a (ks.zip (is.map V.int)) ep
def ue(g:Dt->En->(En->Prop)->Prop)(tb:DS)(Dn:lG)(k:Nat)(u:Addr->HO)(m:MO):List Key->En->Ms->Prop
 |[],ρ,M=>M[k]? =some (.raw u)/\Dn.nx ρ (M.set k m)
 |x::xs,ρ,M=>M[k]? =some (.raw u)/\g (Ky x) ρ λρ'=>tb {Dn with nx:=ue g tb Dn k u m xs,ct:=ue g tb Dn k u m xs,bk:=λρ M=>M[k]? =some (.raw u)/\Dn.nx ρ (M.set k m)} ρ' M
def UU(P:Program)(w:World)(te:DE)(g:Dt->En->(En->Prop)->Prop)(tb:DS):DS:=λDn ρ M=>te ρ M (λd M1=>∃k ks is,d= .loc k/\M1[k]? =some (.fF ks (is.map Dt.int))/\∀ep,ue g tb Dn k (Oe P w ks is ep) (.fF ks (is.map Dt.int)) ks ρ (M1.set k (.raw (Oe P w ks is ep)))) Dn.x
def Q1(P:Program)(w:World)(t:TE):TI:=λσ H R=>t σ H λv H1=>∃a Ο,v= .ref a/\H1 a=some (.dK Ο)/\∀ep,R (V6 P w a Ο ep) (upd H1 a (B1 P w a Ο ep))
theorem NG{X:Cx}{tg e:Expr}{t:TE}(h:PE X e t):PI X tg e (Q1 X.prog X.w t):=by intro ζ s σ H R I ht;refine bA (h ζ s σ H _ I ht) λu s1 ⟨v,H1,I1,rv,a,Ο,ev,ha,q⟩=>?_;subst ev;obtain rfl:u=Value.ref a:=rv;exact Mf I1 ha q
section
variable{X:Cx}{R:St->XK}{tg iter e o i:Expr}{body:List Stmt}{te to ti:DE}{gg:TG}{g:Dt->En->(En->Prop)->Prop}{tb:DS}{pos:Pos}
theorem MC(hi:JE X R iter te)(hg:PG X tg gg)(gd:GD X.K gg g)(hb:CU X R body tb)(hp:PassesOwn (model X.prog X.w) X.A X.env X.xe:=by first|exact PassesOwn.never|exact PassesOwn.leaving)(hc:X.calm=true:=by rfl)(hs:∀x,foldedSetIterable iter X.env x=pure x:=by intro _;rfl):
  JS X R (.For tg iter body [] pos) (UU X.prog X.w te g tb):= .of (Gk (CA hp hc (NG hi) hg hb hs)) λσ H G L ρ M Dn rl n h hx=>by
 refine ⟨G,L,ρ,M,_,_,rl,n,h,hx,λv H1 ⟨d,G1,L1,M1,e1,r1,n1,k,ks,is,ed,hk,h1⟩=>?_⟩;subst ed;obtain ⟨a,rfl,Hr⟩:=n1;obtain ⟨hGa,vs,hH,hl,dn⟩:=r1.gD k a _ Hr hk;have hvs:=yS dn;subst hvs;rw [aac] at hl;refine ⟨a,_,rfl,hH,λep=>?_⟩;have h1:=h1 ep;generalize hu:Oe X.prog X.w ks is ep=u at h1;have Vs:B1 X.prog X.w a (ks.zip (is.map V.int)) ep=u a:=by rw [<-hu];rfl
 have r2:Rl X.K G1 L1 (M1.set k (.raw u)) (upd H1 a (B1 X.prog X.w a (ks.zip (is.map V.int)) ep)):=r1.setM (m:= .raw u) Hr (show upd H1 a _ a=some (u a) by rw [ao,Vs]);have e2:Ex G1 L1 H1 G1 L1 (upd H1 a (B1 X.prog X.w a (ks.zip (is.map V.int)) ep)):=r1.KY Hr;have zl:(ks.zip (is.map V.int)).length=ks.length:=by rw [abi,aac];omega
 generalize VP:upd H1 a (B1 X.prog X.w a (ks.zip (is.map V.int)) ep)=H2 at r2 e2;have I0:=e1.trans e2;have out:∀{G':Hp} {L':List Addr} {H':Hp} {M':Ms} {ρ':En} {σ':St},Ex G1 L1 H2 G' L' H'->Rl X.K G' L' M' H'->lJ X.K G' L' ρ' σ'->M'[k]? =some (.raw u)->Dn.nx ρ' (M'.set k (.fF ks (is.map Dt.int)))->ZP X.prog X.w (uq X.K G L H Dn) σ' H':=λ{G' L' H' M' ρ' σ'} e' r' n' hm U6=>by have BD:=e'.l.get Hr;have SE:H' a=some (u a):=(r'.gD k a _ BD hm).2;refine ⟨a,ks.zip (is.map V.int),ep,by rw [Vs];exact SE,ρ',G',L',_,(I0.trans e').trans (r'.KY BD),r'.setM (m:= .fF ks (is.map Dt.int)) BD ⟨is.map V.int,ao,by rw [aac];exact hl,sV is⟩,n'.mono (r'.KY (o:= .own a) BD),U6⟩
 refine ⟨λi m σ' H'=>m+i=ks.length/\e9 X.K G1 L1 H2 (λρ' M'=>ue g tb Dn k u (.fF ks (is.map Dt.int)) (ks.drop i) ρ' M') σ' H',⟨ks.length,rfl,ρ,G1,L1,_,.refl _ _ _,r2,n.mono e1,by rw [ace];exact h1⟩,?_⟩;rintro i m σ' H' ⟨hm,ρ',G',L',M',e',r',n',h'⟩;have BD:=e'.l.get Hr;by_cases hi:i<ks.length
 ·right;rw [abb hi] at h';obtain ⟨LN,h'⟩:=h';have SE:H' a=some (u a):=(r'.gD k a _ BD LN).2;refine ⟨⟨by rw [Vs];exact SE,by omega⟩,e9 X.K G1 L1 H2 (λρ' M'=>ue g tb Dn k u (.fF ks (is.map Dt.int)) (ks.drop (i+1)) ρ' M'),λσ2 H3 f=>⟨m-1,by omega,by omega,f⟩,λv H3 hy=>?_⟩;obtain ⟨rfl,kv,ZX,rfl⟩:=hy;have Im:kv.1=ks[i]:=by rw [List.getElem?_zip_eq_some] at ZX;have:=ZX.1;rw [aaa hi] at this;exact (aav this).symm
  rw [Im];refine gd G' L' M' H3 _ _ ρ' σ' _ _ r' (LZ _) n' h' λρ3 σ3 n3 h3=>?_;refine ⟨G',L',ρ3,M',_,r',n3,h3,hx.on (I0.trans e'),⟨λ_ _ f=>e9.back e' f,λ_ _ f=>Fin.back (I0.trans e') f,λσ4 H4 f=>?_,λ_ _ f=>e9.back e' f⟩⟩;obtain ⟨ρ4,G4,L4,M4,e4,r4,n4,hm4,h4⟩:=f;exact out (e'.trans e4) r4 n4 hm4 h4
 ·left;rw [abO (by omega)] at h';have SE:H' a=some (u a):=(r'.gD k a _ BD h'.1).2;exact ⟨⟨by rw [Vs];exact SE,by omega⟩,out e' r' n' h'.1 h'.2⟩
def PB(P:Program)(w:World)(to ti:DE):DE:=λρ M q x=>to ρ M (λd M1=>ti ρ M1 (λdi M2=>∃k ks is ep key j,d= .loc k/\M2[k]? =some (.raw (Oe P w ks is ep))/\Cw di=some key/\dR ks (is.map Dt.int) key=some (.int j)/\q (.int j) M2) x) x
theorem M6(ho:JE X R o to)(hi:JE X R i ti)(hs:CM i:=by intro _ _;rfl):JE X R (.Subscript o i pos) (PB X.prog X.w to ti):=
 .of (HK ho hi hs) λσ H G L ρ M q x rl n h hx=>by refine ⟨G,L,ρ,M,_,x,rl,n,h,hx,λv H1 ⟨d1,G1,L1,M1,e1,r1,n1,h1⟩=>?_⟩;refine ⟨G1,L1,ρ,M1,_,x,r1,n.mono e1,h1,hx.on e1,λv2 H2 ⟨d2,G2,L2,M2,e2,r2,n2,k,ks,is,ep,key,j,ed,hm,hk,hg,h2⟩=>?_⟩;subst ed;obtain ⟨a,rfl,Im⟩:=n1;have O9:=e2.l.get Im;have hH:H2 a=some (Oe X.prog X.w ks is ep a):=(r2.gD k a _ O9 hm).2;obtain rfl:v2=kV key:=lu hk n2;obtain ⟨v,hv,dv⟩:=pq (K:=X.K) (G:=G2) (L:=L2) (sV is) hg;exact ⟨a,_,ep,key,v,rfl,hH,rfl,hv,_,G2,L2,M2,e1.trans e2,r2,dv,h2⟩
end
section
variable{X:Cx}{R:St->XK}{k1 v1 k2 v2:Expr}{s1 t1 s2 t2:DE}{pos:Pos}
structure Hn(K:fI)(G0:Hp)(L0:List Addr)(H0:Hp)(p:Addr)(G:Hp)(L:List Addr)(M:Ms)(H:Hp):Prop where
 ex:Ex G0 L0 (upd H0 p (.dK [])) G L H
 rl:Rl K G L M H
 at_:H p=some (.dK [])
 g:G p=none
 l:p∉L
theorem Hn.on{K:fI}{G0:Hp}{L0:List Addr}{H0:Hp}{p:Addr}{G:Hp}{L:List Addr}{M:Ms}{H:Hp}(a:Hn K G0 L0 H0 p G L M H){G':Hp}{L':List Addr}{M':Ms}{H':Hp}(e:Ex G L H G' L' H')(r:Rl K G' L' M' H'):Hn K G0 L0 H0 p G' L' M' H':=
 ⟨a.ex.trans e,r,e.out _ _ a.at_ a.l,e.fr _ a.g (by rw [a.at_];simp),λz=>(e.new _ z).elim a.l λq=>by rw [a.at_] at q;cases q⟩
theorem UQ{K:fI}{G:Hp}{L:List Addr}{M:Ms}{H:Hp}{p:Addr}(rl:Rl K G L M H)(hp:H p=none):Ex G L H G L (upd H p (.dK []))/\Hn K G L H p G L M (upd H p (.dK [])):=by
 have gn:G p=none:=rl.sub.free hp;have ln:p∉L:=rl.QH hp;have e0:Ex G L H G L (upd H p (.dK [])):=⟨.refl _,.refl _,λ_ h _=>h,λb u h1 _=>by rw [Κ (λz=>by rw [z,hp] at h1;cases h1)];exact h1,λ_ h=> .inl h,λb h=>by rw [Κ (λz=>h (by rw [z];exact hp))];exact h⟩
 have r0:Rl K G L M (upd H p (.dK [])):=⟨λb u e=>by rw [Κ (λz=>by rw [z,gn] at e;cases e)];exact rl.sub b u e,rl.len,rl.nd,λi a m h1 h2=>by
  obtain ⟨q1,q2⟩:=rl.gD i a m h1 h2
  exact ⟨q1,q2.mono (.refl _) (.refl _) (Κ λz=>q2.there (by rw [z];exact hp))⟩⟩
 exact ⟨e0,.refl _ _ _,r0,ao,gn,ln⟩
theorem Hn.fin{K:fI}{G0:Hp}{L0:List Addr}{H0:Hp}{p:Addr}{G:Hp}{L:List Addr}{M:Ms}{H:Hp}{ks:List Key}{ds:List Dt}{vs:List V}{q:DQ}(a:Hn K G0 L0 H0 p G L M H)(e0:Ex G0 L0 H0 G0 L0 (upd H0 p (.dK [])))(hp:H0 p=none)(hk:ks.length=ds.length)(n:Χ K G L ds vs)(k:q (.loc M.length) (M++[.fF ks ds])):Fin K G0 L0 H0 q (.ref p) (upd H p (.dK (ks.zip vs))):=by
 have e:=e0.trans a.ex;have gne:∀{b:Addr} {w:HO},G b=some w->b≠p:=λe z=>by rw [z,a.g] at e;cases e
 refine Mq (G:=G) (L:=L) (M:=M) (ks:=ks) (ds:=ds) (vs:=vs) ⟨e.g,e.l,e.fr,λb w h1 h2=>?_,e.new,λb h=>?_⟩ ⟨λb w e=>?_,a.rl.len,a.rl.nd,λi c m h1 h2=>?_⟩ hp a.g a.l ao hk n k
 ·rw [Κ (λz=>by rw [z,hp] at h1;cases h1)];exact e.out b w h1 h2
 ·by_cases hb:b=p
  ·rw [hb,ao];simp
  ·rw [Κ hb];exact e.DC b h
 ·rw [Κ (gne e)];exact a.rl.sub b w e
 ·obtain ⟨q1,q2⟩:=a.rl.gD i c m h1 h2;exact ⟨q1,q2.mono (.refl _) (.refl _) (Κ λz=>a.l (by rw [<-z];exact aam h1))⟩
def Kz(s1 t1:DE):DE:=λρ M q x=>s1 ρ M (λc1 M1=>t1 ρ M1 (λd1 M2=>∃y1,Cw c1=some y1/\q (.loc M2.length) (M2++[.fF [y1] [d1]])) x) x
theorem IB(Im:JE X R k1 s1)(hv1:JE X R v1 t1):JE X R (.Dict [some k1] [v1] pos) (Kz s1 t1):=
 .of (L7 (J_ Im hv1 Mh) rfl rfl (by simp) (by show 1<=15;decide)) λσ H G L ρ M q x rl n h hx=>by intro p hp;obtain ⟨e0,a0⟩:=UQ rl hp;refine ⟨G,L,ρ,M,_,x,a0.rl,n,h,hx.on e0,λu1 H1 ⟨d1,G1,L1,M1,e1,r1,n1,h1⟩=>?_⟩;have a1:=a0.on e1 r1;refine ⟨G1,L1,ρ,M1,_,x,r1,n.mono (e0.trans e1),h1,hx.on (e0.trans e1),λu2 H2 ⟨d2,G2,L2,M2,e2,r2,n2,y1,hy,h2⟩=>?_⟩;have a2:=a1.on e2 r2;obtain rfl:u1=kV y1:=lu hy n1;refine ⟨a2.at_,[(y1,u2)],rfl,by show 1<=15;decide,?_⟩;rw [uS _ [] (λ_ _=>rfl) (by simp),List.nil_append];exact a2.fin (ks:=[y1]) (ds:=[d2]) (vs:=[u2]) e0 hp rfl ⟨_,_,rfl,n2,rfl⟩ h2
end
def HF:List Dt->Ms->DQ->Prop
 |[d],M,q=>∃k ks ds,d= .loc k/\M[k]? =some (.fF ks ds)/\q (.int ks.length) M
 |_,_,_=>False
theorem Va{K:fI}:DN K (λxs H Q=>∃a Ο,xs=[V.ref a]/\H a=some (.dK Ο)/\Q (.int Ο.length) H) HF:=by
 intro G0 L0 H0 G L M H vs ds q e r n h;unfold HF at h;split at h
 ·obtain ⟨k,ks,ds,rfl,hm,h⟩:=h;obtain ⟨v,rfl,n1⟩:=bo n;obtain ⟨a,rfl,hk⟩:=n1;obtain ⟨_,vs,hH,hl,dn⟩:=r.gD k a _ hk hm;refine ⟨a,_,rfl,hH,.int ks.length,G,L,M,e,r,?_,h⟩;show V.int _=V.int _;rw [abi,<-dn.length,<-hl,Nat.min_self]
 ·exact h.elim
section
variable{X:Cx}{R:St->XK}{e:Expr}{t:DA}{p pos:Pos}
theorem Jl(hm:X.mg "len"=none)(ha:JA X R [e] t)(hg:Gl X "len":=by rfl)(he:starEach [e] X.env=(false,eval e X.env)::starEach [] X.env:=by rfl)(gq:(backTo pos (starEach [] X.env)).any (·.1)=false:=by rfl):JE X R (.Call (.Name "len" p) [e] [] pos) (C4 HF t):=
 h9 GP Va hm PySem.boot_len ha hg (by decide) (by decide) he gq
end
structure Ga(K:fI)(x:Str)(st:Stmt)(T:Addr)(its:Array Value)(f:Addr)(fd:FuncData):Prop where
 ex:∃(oc:Value) (od:Option Addr) (kV doc pm:Value) (an:Option Addr) (aT ct:Value) (Bc:Array (Option Value)),
  fd=PySem.W.fnOf x x (fZ st) (dH st) (τ st) (.ref T) kV doc pm an aT ct/\K.lookup f=some ⟨oc,od,.func fd,Bc⟩/\PySem.W.codeIn K aT x=true
 tup:∃o n,K.lookup T=some o/\o.data= .seq its n
 kp:PySem.W.keepIn K (.ref f)=true
section
variable{P:Program}{w:World}{K:fI}{mg:Str->Option Value}{base:Heap}
theorem Ga.df{x:Str}{st:Stmt}{U:Addr}{its:Array Value}{f:Addr}{fd:FuncData}{N ps:List Str}{k:Nat}{T:DF}(F:Ga K x st U its f fd)(S:Δ N ps (τ st))(len:∀ds M q x,T ds M q x->ds.length=ps.length)
  (rM:∀(aT:Value) (A:Around) (outer:List Env) (s:Shared) (H:Hp) (E:XK),bM k (A.deeper (envOfC x (τ st) s.heap.objs.size f aT))->
   ∃t,CU (uk (bU P w) P w K mg base N x (τ st) f aT A outer s H E) (λ_=>E) (dH st) t/\∀ds M q x,T ds M q x->t {nx:=λ_ M'=>q .bw M',rt:=q,x:=λ_=>x} (jW N ds) M):
  ah P w K mg base (bU P w) (k+1) f fd ps (cC K T):=by
 obtain ⟨oc,od,kV,doc,pm,an,aT,ct,Bc,rfl,lk,EO⟩:=F.ex;refine N4 lk EO S (λvs H Q E h=>?_) λA outer s H vs Q E hr h=>?_
 ·obtain ⟨G,L,ds,M,q,x,rl,n,hT,_⟩:=h;rw [<-n.length];exact len _ _ _ _ hT
 ·obtain ⟨t,j,ht⟩:=rM aT A outer s H E hr;obtain ⟨G,L,ds,M,q,x,rl,n,hT,hQ,hE⟩:=h;refine ⟨_,j,G,L,jW N ds,M,_,rl,y4 n,ht ds M q x hT,λσ ρ C fs M' G' L' H' od hx e r _ y=>hE C fs M' G' L' H' od hx e r y,⟨λσ' H' ⟨ρ',G',L',M',e,r,_,h⟩=>hQ _ _ ⟨.bw,G',L',M',e,r,rfl,h⟩,λv H' f=>hQ v H' f,λ_ _ ⟨_,_,_,_,_,_,_,h⟩=>h.elim,λ_ _ ⟨_,_,_,_,_,_,_,h⟩=>h.elim⟩⟩
theorem Ga.binds{x:Str}{st:Stmt}{U:Addr}{its:Array Value}{f:Addr}{fd:FuncData}{ps:List Str}{ds:List Value}(F:Ga K x st U its f fd)
  (h:∀(kV doc pm:Value) (an:Option Addr) (aT ct:Value) (us:List Value),(us++ds).length=ps.length->∃k,bindArgs (PySem.W.fnOf x x (fZ st) (dH st) (τ st) (.ref U) kV doc pm an aT ct) ⟨us,[]⟩=(seqItems? (.ref U) >>= k)/\k (some its)=pure (ps.zip (us++ds))):iu K fd ps ds:=by
 obtain ⟨oc,od,kV,doc,pm,an,aT,ct,Bc,rfl,lk,EO⟩:=F.ex;obtain ⟨o,n,l,e⟩:=F.tup;intro s us hK hl;obtain ⟨k,h1,h2⟩:=h kV doc pm an aT ct us hl;exact BindsTo.of_defaults rfl (hK _ _ l) e h1 h2
structure Mj(P:Program)(w:World)(K:fI)(mg:Str->Option Value)(base:Heap)(k:Nat)(x:Str)(ps:List Str)(T:DF)(QY:List Dt)(f:Addr)(fd:FuncData):Prop where
 ok:ah P w K mg base (bU P w) k f fd ps (cC K T)
 b:∃(ou:List V) (ds:List Value),iu K fd ps ds/\ax ou ds/\∀G L,Χ K G L QY ou
 m:mg x=some (.ref f)
 kp:PySem.W.keepIn K (.ref f)=true
end
theorem AE{K:fI}{G:Hp}{L:List Addr}:∀{ds es:List Dt}{vs us:List V},Χ K G L ds vs->Χ K G L es us->Χ K G L (ds++es) (vs++us)
 |[],_,vs,us,h,k=>by obtain rfl:vs=[]:=h;exact k
 |_::_,_,_,_,⟨v,r,e,a,b⟩,h=>by subst e;exact ⟨v,_,rfl,a,AE b h⟩
def O3(T:DF)(QY:List Dt)(t:DA):DE:=λρ M q x=>t ρ M (λds M1=>T (ds++QY) M1 q (λC fs M'=>x ρ C fs M')) x
section
variable{X:Cx}{R:St->XK}{T:DF}{k k':Nat}{f:Addr}{fd:FuncData}{ps:List Str}{QY:List Dt}{x:Str}{p pos:Pos}{e:Expr}{es:List Expr}{t:DA}
theorem OC(C:Mj X.prog X.w X.K X.mg X.base k x ps T QY f fd)(hr:bM k' X.A)(hx:cW (bU X.prog X.w) X R)(ha:JA X R (e::es) t)(hk:k<=k':=by decide)(hg:Gl X x:=by rfl)(uJ:(x==("__debug__":Str))=false:=by decide)
  (he:starEach (e::es) X.env=(false,eval e X.env)::starEach es X.env:=by rfl) (gq:(backTo pos (starEach es X.env)).any (·.1)=false:=by rfl):JE X R (.Call (.Name x p) (e::es) [] pos) (O3 T QY t):=by
 obtain ⟨ou,ds,hb,hv,hd⟩:=C.b;refine .of (z7 C.ok (hr.mono hk) hg C.m C.kp hb hv hx ha uJ he gq) λσ H G L ρ M q x rl n h hx=>?_;refine ⟨G,L,ρ,M,_,x,rl,n,h,hx,λvs H1 ⟨ds,G1,L1,M1,e1,r1,n1,h1⟩=>?_⟩;exact ⟨G1,L1,ds++QY,M1,q,_,r1,AE n1 (hd G1 L1),h1,λv H' f=>Fin.back e1 f,λC fs M' G' L' H' od hq e' r' y=>hx σ ρ C fs M' G' L' H' od hq (e1.trans e') r' (n.mono (e1.trans e')) y⟩
end
section
variable{X:Cx}{R:St->XK}{elt iter:Expr}{x z:Str}{px pz tp:Pos}{scope:Scope}{pos:Pos}{ti:DK}{te:DE}{ys:List Str}{ae:List Nat}{kk:Nat}
theorem As{i:Nat}{y:Str}{py tZ:Pos}(hN:X.N.Nodup)(QR:X.N[i]? =some y)(hy:Loc X.env.scope y)(S:ay X scope [x,z] ys ae)(hi:JK X R (.Tuple [.Name x px, .Name z pz] kk tp) iter ti)(he:∀C s H fp,JE (Cx.comp X (x::z::ys) scope C s H fp) (λ_=>E0) elt te)(hc:X.calm=true:=by rfl)(O8:swapsWith (.ListComp elt [⟨.Tuple [.Name x px, .Name z pz] kk tp,iter,[],0⟩] scope pos) (some (.Name y py)) tZ.line X.env=pure true:=by rfl)(hs:∀x,foldedSetIterable iter X.env x=pure x:=by intro _;rfl)(hf:X.fn y=true\/X.env.scope.names.lookup y=some .local:=by first|exact .inl rfl|exact .inr rfl|assumption):JS X R (.Assign [.Name y py] (.ListComp elt [⟨.Tuple [.Name x px, .Name z pz] kk tp,iter,[],0⟩] scope pos) tZ) (JN i (pS 2 ti (g2 0 1) te ae)):=ZS false S hi (we hc S) mz (oQ (Nat.zero_lt_succ 1) (Nat.lt_succ_self 1)) (λ_ _ _ _=>k_) he hc hs hN QR hy O8 hf λρ M q x h=>by unfold pS at h;simp only [v9] at h;exact h
end
end L2
namespace Fr0
def g(a b:Int):Int:=(Int.gcd a b:Nat)
theorem vU{a b:Int}(h:b≠0):0<g a b:=by have:=Int.gcd_pos_of_ne_zero_right a h;unfold g;omega
theorem Jd{a:Int}(h:0<=a):g a 0=a:=by unfold g;rw [Int.gcd_zero_right];omega
theorem IA{a b:Int}(hb:0<b):g b (a.fmod b)=g a b:=by
 unfold g;rw [abC a (aaj hb),Int.gcd_comm a b]
 congr 1
 refine Int.gcd_right_eq_iff.mpr λc hc=>?_;rw [Int.emod_def];constructor
 ·intro h;have:=Int.dvd_add h (Int.dvd_mul_of_dvd_left (c:=a/b) hc);rwa [Int.sub_add_cancel] at this
 ·intro h;exact Int.dvd_sub h (Int.dvd_mul_of_dvd_left (c:=a/b) hc)
theorem N_(a b:Int):g (if a<0 then -a else a) (if b<0 then -b else b)=g a b:=by unfold g;split <;> split <;> simp
def dv(t b:Int):Int:=if b<0 then -(g t b) else g t b
def aq(t b:Int):Int×Int:=(t.fdiv (dv t b),b.fdiv (dv t b))
theorem Dv{t b:Int}(h:b≠0):dv t b≠0:=by have:=vU (a:=t) h;unfold dv;split <;> omega
theorem A1{k p:Int}(h:k≠0):(k*p).fdiv k=p:=by rw [aaU];exact Int.mul_fdiv_cancel p h
theorem Kf{t b:Int}(h:b≠0):∃p q:Int,t=dv t b*p/\b=dv t b*q/\0<q/\Int.gcd p q=1:=by
 have hg:=vU (a:=t) h;have h0:0<Int.gcd t b:=Int.gcd_pos_of_ne_zero_right t h;obtain ⟨p,hp⟩:=Int.gcd_dvd_left t b;obtain ⟨q,hq⟩:=Int.gcd_dvd_right t b;have hc:Int.gcd p q=1:=by
  have e:=Int.gcd_ediv_gcd_ediv_gcd h0;have n0:(Int.gcd t b:Int)≠0:=by omega
  have e1:t/(Int.gcd t b:Int)=p:=by
   conv=>lhs;arg 1;rw [hp]
   exact abe p n0
  have e2:b/(Int.gcd t b:Int)=q:=by
   conv=>lhs;arg 1;rw [hq]
   exact abe q n0
  rwa [e1,e2] at e
 have A6:t=g t b*p:=hp;have vS:b=g t b*q:=hq;by_cases hb:b<0
 ·have hd:dv t b= -(g t b):=by unfold dv;rw [if_pos hb]
  refine ⟨-p, -q,?_,?_,?_,?_⟩
  ·rw [hd,Int.neg_mul_neg];exact A6
  ·rw [hd,Int.neg_mul_neg];exact vS
  ·have:g t b*q<0:=by rw [<-vS];exact hb
   by_cases q0:0<=q
   ·exact absurd (aa1 (aaj hg) q0) (by omega)
   ·omega
  ·simpa using hc
 ·have hd:dv t b=g t b:=by unfold dv;rw [if_neg hb]
  refine ⟨p,q,by rw [hd];exact A6,by rw [hd];exact vS,?_,hc⟩;have:0<g t b*q:=by rw [<-vS];omega
  exact Int.pos_of_mul_pos_right this hg
theorem gy {t b : Int}(h : b ≠ 0) : ∃ p q : Int, aq t b = (p, q) /\ 0<q /\ Int.gcd p q = 1 /\ t = dv t b*p /\ b = dv t b*q := by
  obtain ⟨p, q, hp, hq, h0, hc⟩ := Kf (t := t) h;have n0 := Dv (t := t) h;refine ⟨p, q,?_, h0, hc, hp, hq⟩;unfold aq
  have e1 : t.fdiv (dv t b) = p := by conv => lhs; arg 1; rw [hp]
                                      exact A1 n0
  have e2 : b.fdiv (dv t b) = q := by conv => lhs; arg 1; rw [hq]
                                      exact A1 n0
  rw [e1, e2]
theorem cv{t b:Int}(h:b≠0):t*(aq t b).2=b*(aq t b).1:=by
 obtain ⟨p,q,e,_,_,hp,hq⟩:=gy (t:=t) h;rw [e];show t*q=b*p
 calc t*q=dv t b*p*q:=by rw [<-hp]
  _=dv t b*q*p:=by rw [ab7,aaU p q,<-ab7]
  _=b*p:=by rw [<-hq]
theorem bK{t b:Int}(h:b≠0):0<(aq t b).2:=by obtain ⟨p,q,e,h0,_⟩:=gy (t:=t) h;rw [e];exact h0
theorem zf{t b:Int}(h:b≠0):Int.gcd (aq t b).1 (aq t b).2=1:=by obtain ⟨p,q,e,_,hc,_⟩:=gy (t:=t) h;rw [e];exact hc
theorem qa{k m n:Int}(h:k∣m*n)(hc:Int.gcd k m=1):k∣n:=by have:=(Int.dvd_gcd_mul_iff_dvd_mul (k:=k) (n:=m) (m:=n)).mpr h;rw [hc] at this;simpa using this
theorem CJ{p q p' q':Int}(hq:0<q)(vS:0<q')(h:Int.gcd p q=1)(h':Int.gcd p' q'=1)(e:p*q'=p'*q):p=p'/\q=q':=by
 have d1:q∣q':=by have:q∣p*q':=⟨p',by rw [e,aaU]⟩;exact qa this (by rw [Int.gcd_comm];exact h)
 have d2:q'∣q:=by have:q'∣p'*q:=⟨p,by rw [<-e,aaU]⟩;exact qa this (by rw [Int.gcd_comm];exact h')
 have eq:q=q':=Int.le_antisymm (abS vS d1) (abS hq d2);subst eq;exact ⟨Int.eq_of_mul_eq_mul_right (by omega) e,rfl⟩
theorem yg{t b p q:Int}(h:b≠0)(hq:0<q)(hc:Int.gcd p q=1)(e:t*q=b*p):aq t b=(p,q):=by
 have h1:=cv (t:=t) h;have h2:=bK (t:=t) h;have h3:=zf (t:=t) h;have h4:(aq t b).1*q=p*(aq t b).2:=by
  have:b*((aq t b).1*q)=b*(p*(aq t b).2):=by rw [<-ab7,<-h1,Int.mul_right_comm,e,ab7]
  exact aaK h this
 have:=CJ h2 hq h3 hc h4;exact Prod.ext this.1 this.2
theorem vt{p q:Int}(hq:0<q)(hc:Int.gcd p q=1):aq p q=(p,q):=yg (by omega) hq hc (aaU _ _)
theorem xC{t b:Int}(h:b≠0):(dv t b).natAbs<=b.natAbs:=by
 have e:(dv t b).natAbs=Int.gcd t b:=by unfold dv g;split <;> omega
 rw [e];exact Int.gcd_le_natAbs_right t h
theorem tU {t b : Int}(h : b ≠ 0) : (aq t b).1.natAbs <= t.natAbs := by
  obtain ⟨p, q, e, _, _, hp, _⟩ := gy (t := t) h;have n0 := Dv (t := t) h;rw [e];show p.natAbs <= t.natAbs
  have : t.natAbs = (dv t b).natAbs * p.natAbs := by conv => lhs; rw [hp]
                                                     exact aa2 _ _
  rw [this];exact Nat.le_mul_of_pos_left _ (by omega)
theorem ku {t b : Int}(h : b ≠ 0) : (aq t b).2.natAbs <= b.natAbs := by
  obtain ⟨p, q, e, _, _, _, hq⟩ := gy (t := t) h;have n0 := Dv (t := t) h;rw [e];show q.natAbs <= b.natAbs
  have : b.natAbs = (dv t b).natAbs * q.natAbs := by conv => lhs; rw [hq]
                                                     exact aa2 _ _
  rw [this];exact Nat.le_mul_of_pos_left _ (by omega)
theorem xQ{t b:Int}(h:0<b):aq t b=(t.fdiv (g t b),b.fdiv (g t b)):=by unfold aq dv;rw [if_neg (by omega)]
end Fr0
namespace Tx
open PySem PySem.NumText
end Tx
namespace Bz
abbrev Row:=Nat->Int
abbrev Fn:=List Nat->Int
def Lx(x:Row):Fn->Fn
 |_,[]=>0
 |F,c::cs=>x c*F cs-Lx x (λt=>F (c::t)) cs
theorem B4(x:Row):∀(cs:List Nat) (F G:Fn),Lx x (λt=>F t+G t) cs=Lx x F cs+Lx x G cs
 |[],F,G=>by simp [Lx]
 |c::cs,F,G=>by have:=B4 x cs (λt=>F (c::t)) (λt=>G (c::t));simp only [Lx];rw [this];grind
theorem lS(x:Row)(k:Int):∀(cs:List Nat) (F:Fn),Lx x (λt=>k*F t) cs=k*Lx x F cs
 |[],F=>by simp [Lx]
 |c::cs,F=>by have:=lS x k cs (λt=>F (c::t));simp only [Lx];rw [this];grind
theorem Ii(x:Row)(cs:List Nat)(F G:Fn):Lx x (λt=>F t-G t) cs=Lx x F cs-Lx x G cs:=by
 have h1:=B4 x cs F (λt=>(-1)*G t);have h2:=lS x (-1) cs G;have e:(λt=>F t-G t)=λt=>F t+(-1)*G t:=by funext t;grind
 rw [e,h1,h2];grind
theorem DP(x:Row):∀(cs:List Nat),Lx x (λ_=>0) cs=0
 |[]=>rfl
 |c::cs=>by simp only [Lx];rw [DP x cs];simp
theorem xE(x y:Row):∀(cs:List Nat) (F:Fn),Lx x (Lx y F) cs= - Lx y (Lx x F) cs
 |[],F=>rfl
 |c::cs,F=>by have ih:=xE x y cs (λt=>F (c::t));have e1:(λt=>Lx y F (c::t))=λt=>y c*F t-Lx y (λu=>F (c::u)) t:=rfl;have e2:(λt=>Lx x F (c::t))=λt=>x c*F t-Lx x (λu=>F (c::u)) t:=rfl;show x c*Lx y F cs-Lx x (λt=>Lx y F (c::t)) cs= -(y c*Lx x F cs-Lx y (λt=>Lx x F (c::t)) cs);rw [e1,e2,Ii,Ii,lS,lS,ih];grind
theorem Nd(x:Row)(cs:List Nat)(F:Fn):Lx x (Lx x F) cs=0:=by have:=xE x x cs F;omega
theorem wq(x:Row)(d:Nat):∀(cs:List Nat) (F:Fn),Lx x F (cs++[d])=Lx x (λt=>F (t++[d])) cs+(-1)^cs.length*(x d*F cs)
 |[],F=>by simp [Lx]
 |c::cs,F=>by have:=wq x d cs (λt=>F (c::t));show x c*F (cs++[d])-Lx x (λt=>F (c::t)) (cs++[d])=_;rw [this];show _=(x c*F (cs++[d])-Lx x (λt=>F (c::(t++[d]))) cs)+(-1)^(cs.length+1)*(x d*F (c::cs));have e:(λt=>F (c::(t++[d])))=λt=>(λu=>F (c::u)) (t++[d]):=rfl;rw [e,abD];grind
theorem yT(x:Row){F G:Fn}{n:Nat}:∀(cs:List Nat),(∀t,t.length+1=cs.length->F t=G t)->Lx x F cs=Lx x G cs:=by
 intro cs
 induction cs generalizing F G with
 |nil=>intro _;rfl
 |cons c cs ih=>
  intro h;simp only [Lx];rw [h cs (by simp),ih (F:=λt=>F (c::t)) (G:=λt=>G (c::t)) λt ht=>h (c::t) (by simp;omega)]
def Β(f:Nat->Int):Nat->Int
 |0=>0
 |n+1=>Β f n+f n
theorem gX(f g:Nat->Int):∀n,Β (λi=>f i+g i) n=Β f n+Β g n
 |0=>rfl
 |n+1=>by simp only [Β];rw [gX f g n];omega
theorem Ψ(k:Int)(f:Nat->Int):∀n,Β (λi=>k*f i) n=k*Β f n
 |0=>by simp [Β]
 |n+1=>by simp only [Β];rw [Ψ k f n,Int.mul_add]
theorem ψ{f g:Nat->Int}:∀{n:Nat},(∀i,i<n->f i=g i)->Β f n=Β g n
 |0,_=>rfl
 |n+1,h=>by simp only [Β];rw [ψ λi hi=>h i (by omega),h n (by omega)]
theorem iU{f:Nat->Int}{n:Nat}(h:∀i,i<n->f i=0):Β f n=0:=by
 rw [ψ h];clear h
 induction n with
 |zero=>rfl
 |succ n ih=>simp only [Β];rw [ih];rfl
theorem iQ{f:Nat->Int}{n j:Nat}(hj:j<n)(h:∀i,i<n->i≠j->f i=0):Β f n=f j:=by
 induction n with
 |zero=>omega
 |succ n ih=>
  simp only [Β];by_cases e:j=n
  ·subst e;rw [iU λi hi=>h i (by omega) (by omega)];omega
  ·rw [ih (by omega) λi hi lI=>h i (by omega) lI,h n (by omega) (by omega)];omega
theorem l_(f:Nat->Int):∀n,Β f (n+1)=f 0+Β (λi=>f (i+1)) n
 |0=>by simp [Β]
 |n+1=>by have:=l_ f n;rw [show Β f (n+1+1)=Β f (n+1)+f (n+1) from rfl,this];simp only [Β];omega
theorem cX(f:Nat->Nat->Int)(m:Nat):∀n,Β (λi=>Β (f i) m) n=Β (λj=>Β (λi=>f i j) n) m
 |0=>by rw [show Β (λi=>Β (f i) m) 0=0 from rfl];exact (iU λ_ _=>rfl).symm
 |n+1=>by rw [show Β (λi=>Β (f i) m) (n+1)=Β (λi=>Β (f i) m) n+Β (f n) m from rfl,cX f m n,<-gX];rfl
theorem xB(x:Row):∀(cs:List Nat) (F:Fn),Lx x F cs=Β (λp=>(-1)^p*(x (cs.getD p 0)*F (cs.eraseIdx p))) cs.length
 |[],F=>rfl
 |c::cs,F=>by
  have ih:=xB x cs (λt=>F (c::t));show x c*F cs-Lx x (λt=>F (c::t)) cs=_;rw [aax,l_,ih];have e:Β (λp=>(-1)^(p+1)*(x ((c::cs).getD (p+1) 0)*F ((c::cs).eraseIdx (p+1)))) cs.length= -1*Β (λp=>(-1)^p*(x (cs.getD p 0)*F (c::cs.eraseIdx p))) cs.length:=by rw [<-Ψ];refine ψ λp _=>?_;simp only [List.getD_cons_succ,List.eraseIdx_cons_succ];rw [Int.pow_succ];grind
  rw [e];simp only [List.getD_cons_zero,List.eraseIdx_cons_zero,Int.pow_zero];omega
def F0:Fn:=λcs=>if cs=[] then 1 else 0
def D:List Row->Fn
 |[]=>F0
 |x::xs=>Lx x (D xs)
theorem oh(y:Row):∀(xs ys:List Row) (cs:List Nat),D (xs++y::ys) cs=(-1)^xs.length*D (y::(xs++ys)) cs
 |[],ys,cs=>by simp
 |x::xs,ys,cs=>by
  show Lx x (D (xs++y::ys)) cs=_;have e:D (xs++y::ys)=λt=>(-1)^xs.length*D (y::(xs++ys)) t:=by funext t;exact oh y xs ys t
  rw [e,lS];show (-1)^xs.length*Lx x (Lx y (D (xs++ys))) cs=(-1)^(xs.length+1)*Lx y (Lx x (D (xs++ys))) cs;rw [xE x y,Int.pow_succ];grind
theorem Sa(y:Row)(xs ys zs:List Row)(cs:List Nat):D (xs++y::(ys++y::zs)) cs=0:=by
 rw [oh];have e:D (y::(xs++(ys++y::zs))) cs=Lx y (λt=>D (xs++(ys++y::zs)) t) cs:=rfl;have e2:(λt=>D (xs++(ys++y::zs)) t)=λt=>(-1)^(xs++ys).length*Lx y (D (xs++ys++zs)) t:=by
  funext t
  rw [<-aaJ,oh];rfl
 rw [e,e2,lS,Nd];simp
def fc(γ:List Row)(ν:List Nat)(p k:Nat):Int:=(-1)^(p+k)*D (γ.eraseIdx k) (ν.eraseIdx p)
def zr:Row:=λ_=>0
theorem QK(n:Nat):((-1:Int)^n)*(-1)^n=1:=by
 induction n with
 |zero=>rfl
 |succ n ih=>rw [Int.pow_succ];grind
theorem K2{α:Type}:∀{l:List α}{k:Nat}(h:k<l.length),l=l.take k++l[k]::l.drop (k+1):=by intro l k h;rw [List.getElem_cons_drop,List.take_append_drop]
theorem Ho{α:Type}{l:List α}{i k:Nat}(hi:i<l.length)(lI:i≠k):l[i]∈l.eraseIdx k:=by rw [List.mem_eraseIdx_iff_getElem];exact ⟨i,hi,lI,rfl⟩
theorem PA{γ:List Row}{ν:List Nat}{i k:Nat}(hl:ν.length=γ.length)(hi:i<γ.length)(hk:k<γ.length):Β (λp=>γ.getD i zr (ν.getD p 0)*fc γ ν p k) γ.length=if i=k then D γ ν else 0:=by
 have gi:γ.getD i zr=γ[i]:=by rw [aab,aaa hi];rfl
 have e:Β (λp=>γ.getD i zr (ν.getD p 0)*fc γ ν p k) γ.length=(-1)^k*D (γ.getD i zr::γ.eraseIdx k) ν:=by show _=(-1)^k*Lx (γ.getD i zr) (D (γ.eraseIdx k)) ν;rw [xB,<-Ψ,hl];refine ψ λp _=>?_;unfold fc;rw [Int.pow_add];grind
 rw [e,gi];by_cases h:i=k
 ·subst h;rw [if_pos rfl];have s:=K2 hi;have f:=oh γ[i] (γ.take i) (γ.drop (i+1)) ν;rw [<-s,abN,ab5 (by omega)] at f;rw [f,List.eraseIdx_eq_take_drop_succ]
 ·rw [if_neg h];obtain ⟨ys,zs,e2⟩:=List.append_of_mem (Ho hi h);rw [e2];have:=Sa γ[i] [] ys zs ν;rw [show D (γ[i]::(ys++γ[i]::zs)) ν=0 from this];simp
theorem yi(x:Row)(g:Nat->Int)(F:Nat->Fn)(cs:List Nat):∀n,Lx x (λt=>Β (λk=>g k*F k t) n) cs=Β (λk=>g k*Lx x (F k) cs) n
 |0=>DP x cs
 |n+1=>by have:=B4 x cs (λt=>Β (λk=>g k*F k t) n) (λt=>g n*F n t);show Lx x (λt=>Β (λk=>g k*F k t) n+g n*F n t) cs=_;rw [this,yi x g F cs n,lS];rfl
theorem N0(c:Nat):∀(γ:List Row) (t:List Nat),D γ (t++[c])=Β (λk=>(-1)^(t.length+k)*(γ.getD k zr c*D (γ.eraseIdx k) t)) γ.length
 |[],t=>by show F0 (t++[c])=0;unfold F0;simp
 |x::xs,t=>by
  show Lx x (D xs) (t++[c])=_;rw [wq,aax,l_];have e:Lx x (λu=>D xs (u++[c])) t=Β (λk=>(-1)^(t.length+(k+1))*((x::xs).getD (k+1) zr c*D ((x::xs).eraseIdx (k+1)) t)) xs.length:=by
   have e1:Lx x (λu=>D xs (u++[c])) t=Lx x (λu=>Β (λk=>((-1)^(t.length+(k+1))*xs.getD k zr c)*D (xs.eraseIdx k) u) xs.length) t:=by refine yT x (n:=0) t λu hu=>?_;rw [N0 c xs u];refine ψ λk _=>?_;rw [<-hu,show u.length+1+(k+1)=u.length+k+1+1 by omega,Int.pow_succ,Int.pow_succ];grind
   rw [e1,yi x (λk=>(-1)^(t.length+(k+1))*xs.getD k zr c) (λk=>D (xs.eraseIdx k))];refine ψ λk _=>?_;simp only [List.getD_cons_succ,List.eraseIdx_cons_succ];show _=(-1)^(t.length+(k+1))*(xs.getD k zr c*Lx x (D (xs.eraseIdx k)) t);grind
  rw [e];simp only [List.getD_cons_zero,List.eraseIdx_cons_zero,Nat.add_zero];omega
theorem Jg{γ:List Row}{ν:List Nat}{y:Row}{c:Nat}(hl:ν.length=γ.length):D (γ++[y]) (ν++[c])=y c*D γ ν-Β (λp=>y (ν.getD p 0)*Β (λk=>fc γ ν p k*γ.getD k zr c) γ.length) γ.length:=by
 rw [oh,aaZ];show (-1)^γ.length*Lx y (D γ) (ν++[c])=_;rw [wq];have e1:Lx y (λt=>D γ (t++[c])) ν= - ((-1)^γ.length*Β (λp=>y (ν.getD p 0)*Β (λk=>fc γ ν p k*γ.getD k zr c) γ.length) γ.length):=by
  have e2:Lx y (λt=>D γ (t++[c])) ν=Lx y (λt=>Β (λk=>(-((-1)^(γ.length+k)*γ.getD k zr c))*D (γ.eraseIdx k) t) γ.length) ν:=by refine yT y (n:=0) ν λt ht=>?_;rw [N0 c γ t];refine ψ λk _=>?_;rw [<-hl,<-ht,show t.length+1+k=t.length+k+1 by omega,Int.pow_succ];grind
  rw [e2,yi y (λk=> -((-1)^(γ.length+k)*γ.getD k zr c)) (λk=>D (γ.eraseIdx k))];have e3:Β (λk=> -((-1)^(γ.length+k)*γ.getD k zr c)*Lx y (D (γ.eraseIdx k)) ν) γ.length=Β (λk=>Β (λp=> -((-1)^γ.length)*(y (ν.getD p 0)*(fc γ ν p k*γ.getD k zr c))) γ.length) γ.length:=by refine ψ λk _=>?_;rw [xB,<-Ψ,hl];refine ψ λp _=>?_;unfold fc;rw [Int.pow_add,Int.pow_add];grind
  rw [e3,cX];have e4:Β (λp=>Β (λk=> -((-1)^γ.length)*(y (ν.getD p 0)*(fc γ ν p k*γ.getD k zr c))) γ.length) γ.length=Β (λp=> -((-1)^γ.length)*(y (ν.getD p 0)*Β (λk=>fc γ ν p k*γ.getD k zr c) γ.length)) γ.length:=by refine ψ λp _=>?_;rw [Ψ,Ψ]
  rw [e4,Ψ];grind
 rw [e1,hl];have s:=QK γ.length;generalize ((-1:Int)^γ.length)=z at *
 generalize Β _ γ.length=q;grind
theorem IH{γ:List Row}{ν:List Nat}{v:Nat->Int}{e:Int}{i k:Nat}(hl:ν.length=γ.length)(hi:i<γ.length)(hk:k<γ.length)
  (h:∀p,p<γ.length->Β (λj=>v j*γ.getD j zr (ν.getD p 0)) γ.length=if i=p then e else 0):v k*D γ ν=e*fc γ ν i k:=by
 have a:Β (λp=>Β (λj=>v j*γ.getD j zr (ν.getD p 0)) γ.length*fc γ ν p k) γ.length=e*fc γ ν i k:=by rw [iQ hi λp hp lI=>by rw [h p hp,if_neg (Ne.symm lI)];simp];rw [h i hi,if_pos rfl]
 have b:Β (λp=>Β (λj=>v j*γ.getD j zr (ν.getD p 0)) γ.length*fc γ ν p k) γ.length=Β (λj=>v j*Β (λp=>γ.getD j zr (ν.getD p 0)*fc γ ν p k) γ.length) γ.length:=by
  have e1:Β (λp=>Β (λj=>v j*γ.getD j zr (ν.getD p 0)) γ.length*fc γ ν p k) γ.length=Β (λp=>Β (λj=>v j*(γ.getD j zr (ν.getD p 0)*fc γ ν p k)) γ.length) γ.length:=by refine ψ λp _=>?_;rw [aaU,<-Ψ];refine ψ λj _=>?_;grind
  rw [e1,cX];refine ψ λj _=>?_;rw [<-Ψ]
 rw [<-a,b,iQ hk λj hj lI=>by rw [PA hl hj hk,if_neg lI];simp];rw [PA hl hk hk,if_pos rfl]
def ind(a k:Nat):Int:=if a=k then 1 else 0
def rv(A:Nat->Row)(n:Nat)(w:Row)(x:Nat):Int:=Β (λk=>w k*A k x) n
theorem oi{f:Nat->Int}{a n:Nat}(h:a<n):Β (λk=>ind a k*f k) n=f a:=by rw [iQ h λi _ lI=>by unfold ind;rw [if_neg (Ne.symm lI)];simp];unfold ind;rw [if_pos rfl];simp
theorem xv{A:Nat->Row}{n:Nat}{w u v:Row}{a b:Int}(h:∀k,w k=a*u k-b*v k)(x:Nat):rv A n w x=a*rv A n u x-b*rv A n v x:=by
 unfold rv;have e:Β (λk=>w k*A k x) n=Β (λk=>a*(u k*A k x)+(-b)*(v k*A k x)) n:=ψ λk _=>by rw [h k];grind
 rw [e,gX,Ψ,Ψ];grind
theorem KU{A:Nat->Row}{n r:Nat}{w:Row}{g:Nat->Int}{u:Nat->Row}(h:∀k,w k=Β (λj=>g j*u j k) r)(x:Nat):rv A n w x=Β (λj=>g j*rv A n (u j) x) r:=by
 unfold rv;have e:Β (λk=>w k*A k x) n=Β (λk=>Β (λj=>g j*(u j k*A k x)) r) n:=ψ λk _=>by rw [h k,aaU,<-Ψ];exact ψ λj _=>by grind
 rw [e,cX];exact ψ λj _=>Ψ _ _ _
theorem BJ{A:Nat->Row}{n a:Nat}(h:a<n)(x:Nat):rv A n (ind a) x=A a x:=by unfold rv;exact oi (f:=λk=>A k x) h
structure St(A:Nat->Row)(n:Nat)(ρ ν:List Nat)(q:Nat->Nat)(d:Int)(W:Nat->Row):Prop where
 lc:ν.length=ρ.length
 rn:ρ.length<=n
 Nv:∀i,i<n->q i<n
 zJ:∀j,j<ρ.length->ρ.getD j 0<n
 det:D (ρ.map A) ν=d
 wp:∀i,i<ρ.length->∀k,W i k=Β (λj=>fc (ρ.map A) ν i j*ind (ρ.getD j 0) k) ρ.length
 wn:∀i,ρ.length<=i->i<n->∀k,W i k=d*ind (q i) k-Β (λp=>A (q i) (ν.getD p 0)*W p k) ρ.length
 one:∀i p,i<ρ.length->p<ρ.length->rv A n (W i) (ν.getD p 0)=if i=p then d else 0
section
variable{A:Nat->Row}{n:Nat}{ρ ν:List Nat}{q:Nat->Nat}{d:Int}{W:Nat->Row}
theorem ua{j:Nat}(h:j<ρ.length):(ρ.map A).getD j zr=A (ρ.getD j 0):=by rw [aab,aal,aaa h,aab,aaa h];rfl
theorem St.Rx(s:St A n ρ ν q d W){i:Nat}(hi:i<ρ.length)(x:Nat):rv A n (W i) x=Β (λj=>fc (ρ.map A) ν i j*A (ρ.getD j 0) x) ρ.length:=by rw [KU (u:=λj=>ind (ρ.getD j 0)) (s.wp i hi)];exact ψ λj hj=>by rw [BJ (s.zJ j hj)]
theorem St.Pq(s:St A n ρ ν q d W){i:Nat}(h1:ρ.length<=i)(hi:i<n)(x:Nat):rv A n (W i) x=d*A (q i) x-Β (λp=>A (q i) (ν.getD p 0)*rv A n (W p) x) ρ.length:=by
 have h:∀k,W i k=d*ind (q i) k-1*Β (λp=>A (q i) (ν.getD p 0)*W p k) ρ.length:=λk=>by rw [s.wn i h1 hi k];omega
 rw [xv h x,BJ (s.Nv i hi),KU (w:=λk=>Β (λp=>A (q i) (ν.getD p 0)*W p k) ρ.length) (u:=W) (λk=>rfl)];omega
theorem St.zero(s:St A n ρ ν q d W){i p:Nat}(h1:ρ.length<=i)(hi:i<n)(hp:p<ρ.length):rv A n (W i) (ν.getD p 0)=0:=by
 rw [s.Pq h1 hi];have e:Β (λp'=>A (q i) (ν.getD p' 0)*rv A n (W p') (ν.getD p 0)) ρ.length=A (q i) (ν.getD p 0)*d:=by rw [iQ hp λp' A6 lI=>by rw [s.one p' p A6 hp,if_neg lI];simp];rw [s.one p p hp hp,if_pos rfl]
 rw [e];grind
theorem St.head(s:St A n ρ ν q d W)(hr:ρ.length<n)(c:Nat):D ((ρ++[q ρ.length]).map A) (ν++[c])=rv A n (W ρ.length) c:=by
 rw [aaX,s.Pq (aai _) hr];show D (ρ.map A++[A (q ρ.length)]) (ν++[c])=_;rw [Jg (by rw [aac];exact s.lc),s.det,aac,aaU]
 congr 1
 refine ψ λp hp=>?_;rw [s.Rx hp]
 congr 1
 exact ψ λk hk=>by rw [ua hk]
theorem nP{a j:Nat}{l:List Nat}(h:j<l.length):(l++[a]).getD j 0=l.getD j 0:=by rw [aab,aaq h,<-aab]
theorem nL{a:Nat}{l:List Nat}:(l++[a]).getD l.length 0=a:=by simp
theorem mix(f:Nat->Int)(s:St A n ρ ν q d W)(a L:Int)(g:Nat->Int):
  Β (λj=>(if j<ρ.length then a*g j+L*Β (λp=>A (q ρ.length) (ν.getD p 0)*fc (ρ.map A) ν p j) ρ.length else -(L*d))*f ((ρ++[q ρ.length]).getD j 0)) (ρ.length+1)
  =a*Β (λj=>g j*f (ρ.getD j 0)) ρ.length-L*(d*f (q ρ.length)-Β (λp=>A (q ρ.length) (ν.getD p 0)*Β (λj=>fc (ρ.map A) ν p j*f (ρ.getD j 0)) ρ.length) ρ.length):=by
 rw [show∀F:Nat->Int,Β F (ρ.length+1)=Β F ρ.length+F ρ.length from λ_=>rfl,nL,if_neg (abq _)]
 have e:Β (λj=>(if j<ρ.length then a*g j+L*Β (λp=>A (q ρ.length) (ν.getD p 0)*fc (ρ.map A) ν p j) ρ.length else -(L*d))*f ((ρ++[q ρ.length]).getD j 0)) ρ.length
   =Β (λj=>a*(g j*f (ρ.getD j 0))+L*Β (λp=>A (q ρ.length) (ν.getD p 0)*(fc (ρ.map A) ν p j*f (ρ.getD j 0))) ρ.length) ρ.length:=by
  refine ψ λj hj=>?_;rw [if_pos hj,nP hj];have e2:Β (λp=>A (q ρ.length) (ν.getD p 0)*(fc (ρ.map A) ν p j*f (ρ.getD j 0))) ρ.length=f (ρ.getD j 0)*Β (λp=>A (q ρ.length) (ν.getD p 0)*fc (ρ.map A) ν p j) ρ.length:=by rw [<-Ψ];exact ψ λp _=>by grind
  rw [e2];grind
 rw [e,gX,Ψ,Ψ,cX (λj p=>A (q ρ.length) (ν.getD p 0)*(fc (ρ.map A) ν p j*f (ρ.getD j 0)))]
 have e3:Β (λp=>Β (λj=>A (q ρ.length) (ν.getD p 0)*(fc (ρ.map A) ν p j*f (ρ.getD j 0))) ρ.length) ρ.length=Β (λp=>A (q ρ.length) (ν.getD p 0)*Β (λj=>fc (ρ.map A) ν p j*f (ρ.getD j 0)) ρ.length) ρ.length:=
  ψ λp _=>Ψ _ _ _
 rw [e3];grind
theorem St.step(s:St A n ρ ν q d W)(hr:ρ.length<n)(c:Nat)(d0:d≠0)(h0:rv A n (W ρ.length) c≠0):
  ∃W':Nat->Row,St A n (ρ++[q ρ.length]) (ν++[c]) q (rv A n (W ρ.length) c) W'/\(∀k,W' ρ.length k=W ρ.length k)/\
   ∀i,i<n->i≠ρ.length->∀k,d*W' i k=rv A n (W ρ.length) c*W i k-rv A n (W i) c*W ρ.length k:=by
 have hd:=s.head hr c;generalize hE:rv A n (W ρ.length) c=E at *
 have lr:((ρ++[q ρ.length]).map A).length=ρ.length+1:=by simp
 have ZF:(ν++[c]).length=((ρ++[q ρ.length]).map A).length:=by rw [lr];simp [s.lc]
 have cg:∀p,p<ρ.length->(ν++[c]).getD p 0=ν.getD p 0:=λp hp=>nP (by rw [s.lc];exact hp);have cl:(ν++[c]).getD ρ.length 0=c:=by rw [<-s.lc];exact nL
 have rg:∀j,j<ρ.length+1->((ρ++[q ρ.length]).map A).getD j zr=A ((ρ++[q ρ.length]).getD j 0):=λj hj=>ua (by simp;omega);have head:∀j,j<ρ.length+1->(if j<ρ.length then (0:Int)*0+(-1)*Β (λp=>A (q ρ.length) (ν.getD p 0)*fc (ρ.map A) ν p j) ρ.length else -((-1)*d))=fc ((ρ++[q ρ.length]).map A) (ν++[c]) ρ.length j:=λj hj=>by
  have:=IH (γ:=(ρ++[q ρ.length]).map A) (ν:=ν++[c]) (v:=λj=>if j<ρ.length then (0:Int)*0+(-1)*Β (λp=>A (q ρ.length) (ν.getD p 0)*fc (ρ.map A) ν p j) ρ.length else -((-1)*d)) (e:=E) (i:=ρ.length) (k:=j) ZF (by rw [lr];omega) (by rw [lr];exact hj) (λp hp=>by
   rw [lr] at hp⊢;have e1:=mix (λa=>A a ((ν++[c]).getD p 0)) s 0 (-1) (λ_=>0);have e2:Β (λj=>(if j<ρ.length then (0:Int)*0+(-1)*Β (λp=>A (q ρ.length) (ν.getD p 0)*fc (ρ.map A) ν p j) ρ.length else -((-1)*d))*((ρ++[q ρ.length]).map A).getD j zr ((ν++[c]).getD p 0)) (ρ.length+1)=_:=(ψ λj hj=>by rw [rg j hj]).trans e1;rw [e2];have e3:d*A (q ρ.length) ((ν++[c]).getD p 0)-Β (λp'=>A (q ρ.length) (ν.getD p' 0)*Β (λj=>fc (ρ.map A) ν p' j*A (ρ.getD j 0) ((ν++[c]).getD p 0)) ρ.length) ρ.length=rv A n (W ρ.length) ((ν++[c]).getD p 0):=by
    rw [s.Pq (aai _) hr]
    congr 1
    exact ψ λp' A6=>by rw [s.Rx A6]
   rw [e3];by_cases Fy:p<ρ.length
   ·rw [cg p Fy,s.zero (Nat.le_refl _) hr Fy,if_neg (by omega)];simp
   ·have:p=ρ.length:=by omega
    subst this
    rw [cl,hE,if_pos rfl];omega)
  rw [hd] at this;refine aaK h0 ?_;rw [<-this];grind
 have hk:∀k,W ρ.length k=Β (λj=>fc ((ρ++[q ρ.length]).map A) (ν++[c]) ρ.length j*ind ((ρ++[q ρ.length]).getD j 0) k) (ρ.length+1):=λk=>by
  have e1:=mix (λa=>ind a k) s 0 (-1) (λ_=>0);have e2:Β (λj=>fc ((ρ++[q ρ.length]).map A) (ν++[c]) ρ.length j*ind ((ρ++[q ρ.length]).getD j 0) k) (ρ.length+1)=_:=(ψ λj hj=>by rw [<-head j hj]).trans e1;rw [e2,s.wn _ (aai _) hr k];have e3:Β (λp=>A (q ρ.length) (ν.getD p 0)*W p k) ρ.length=Β (λp=>A (q ρ.length) (ν.getD p 0)*Β (λj=>fc (ρ.map A) ν p j*ind (ρ.getD j 0) k) ρ.length) ρ.length:=ψ λp hp=>by rw [s.wp p hp k]
  rw [e3];omega
 have above:∀i,i<ρ.length->∀j,j<ρ.length+1->(if j<ρ.length then E*fc (ρ.map A) ν i j+rv A n (W i) c*Β (λp=>A (q ρ.length) (ν.getD p 0)*fc (ρ.map A) ν p j) ρ.length else -(rv A n (W i) c*d))=d*fc ((ρ++[q ρ.length]).map A) (ν++[c]) i j:=λi hi j hj=>by
  have:=IH (γ:=(ρ++[q ρ.length]).map A) (ν:=ν++[c]) (v:=λj=>if j<ρ.length then E*fc (ρ.map A) ν i j+rv A n (W i) c*Β (λp=>A (q ρ.length) (ν.getD p 0)*fc (ρ.map A) ν p j) ρ.length else -(rv A n (W i) c*d)) (e:=d*E) (i:=i) (k:=j) ZF (by rw [lr];omega) (by rw [lr];exact hj) (λp hp=>by
   rw [lr] at hp⊢;have e1:=mix (λa=>A a ((ν++[c]).getD p 0)) s E (rv A n (W i) c) (λj=>fc (ρ.map A) ν i j);have e2:Β (λj=>(if j<ρ.length then E*fc (ρ.map A) ν i j+rv A n (W i) c*Β (λp=>A (q ρ.length) (ν.getD p 0)*fc (ρ.map A) ν p j) ρ.length else -(rv A n (W i) c*d))*((ρ++[q ρ.length]).map A).getD j zr ((ν++[c]).getD p 0)) (ρ.length+1)=_:=(ψ λj hj=>by rw [rg j hj]).trans e1;rw [e2];have e3:d*A (q ρ.length) ((ν++[c]).getD p 0)-Β (λp'=>A (q ρ.length) (ν.getD p' 0)*Β (λj=>fc (ρ.map A) ν p' j*A (ρ.getD j 0) ((ν++[c]).getD p 0)) ρ.length) ρ.length=rv A n (W ρ.length) ((ν++[c]).getD p 0):=by
    rw [s.Pq (aai _) hr]
    congr 1
    exact ψ λp' A6=>by rw [s.Rx A6]
   rw [e3,<-s.Rx hi];by_cases Fy:p<ρ.length
   ·rw [cg p Fy,s.zero (aai _) hr Fy,s.one i p hi Fy];split <;> grind
   ·have:p=ρ.length:=by omega
    subst this
    rw [cl,hE,if_neg (by omega)];grind)
  rw [hd] at this;refine aaK h0 ?_;rw [Int.mul_comm,this];grind
 have abk:∀i,i<ρ.length->∀k,d*Β (λj=>fc ((ρ++[q ρ.length]).map A) (ν++[c]) i j*ind ((ρ++[q ρ.length]).getD j 0) k) (ρ.length+1)=E*W i k-rv A n (W i) c*W ρ.length k:=λi hi k=>by
  have e1:=mix (λa=>ind a k) s E (rv A n (W i) c) (λj=>fc (ρ.map A) ν i j);have e2:d*Β (λj=>fc ((ρ++[q ρ.length]).map A) (ν++[c]) i j*ind ((ρ++[q ρ.length]).getD j 0) k) (ρ.length+1)=_:=((Ψ _ _ _).symm.trans (ψ λj hj=>by rw [above i hi j hj];grind)).trans e1;rw [e2,s.wn _ (aai _) hr k,s.wp i hi k];have e3:Β (λp=>A (q ρ.length) (ν.getD p 0)*W p k) ρ.length=Β (λp=>A (q ρ.length) (ν.getD p 0)*Β (λj=>fc (ρ.map A) ν p j*ind (ρ.getD j 0) k) ρ.length) ρ.length:=ψ λp hp=>by rw [s.wp p hp k]
  rw [e3]
 let V:Nat->Row:=λi k=>if i=ρ.length then W ρ.length k else Β (λj=>fc ((ρ++[q ρ.length]).map A) (ν++[c]) i j*ind ((ρ++[q ρ.length]).getD j 0) k) (ρ.length+1)
 let W':Nat->Row:=λi k=>if i<ρ.length+1 then V i k else E*ind (q i) k-Β (λp=>A (q i) ((ν++[c]).getD p 0)*V p k) (ρ.length+1)
 have Wr:∀k,W' ρ.length k=W ρ.length k:=λk=>by show (if ρ.length<ρ.length+1 then (if ρ.length=ρ.length then W ρ.length k else _) else _)=_;rw [if_pos (abc _),if_pos rfl]
 have Wi:∀i,i<ρ.length->∀k,W' i k=Β (λj=>fc ((ρ++[q ρ.length]).map A) (ν++[c]) i j*ind ((ρ++[q ρ.length]).getD j 0) k) (ρ.length+1):=λi hi k=>by show (if i<ρ.length+1 then (if i=ρ.length then _ else _) else _)=_;rw [if_pos (by omega),if_neg (by omega)]
 have WV:∀p,p<ρ.length+1->∀k,W' p k=V p k:=λp hp k=>by show (if p<ρ.length+1 then V p k else _)=_;rw [if_pos hp]
 have Wn:∀i,ρ.length+1<=i->∀k,W' i k=E*ind (q i) k-Β (λp=>A (q i) ((ν++[c]).getD p 0)*W' p k) (ρ.length+1):=λi hi k=>by
  show (if i<ρ.length+1 then V i k else _)=_;rw [if_neg (by omega)]
  congr 1
  exact ψ λp hp=>by rw [WV p hp]
 have H:∀i,i<n->i≠ρ.length->∀k,d*W' i k=E*W i k-rv A n (W i) c*W ρ.length k:=λi hi lI k=>by
  by_cases xW:i<ρ.length
  ·rw [Wi i xW k];exact abk i xW k
  ·rw [Wn i (by omega) k,s.wn i (by omega) hi k,s.Pq (by omega) hi c];rw [show∀F:Nat->Int,Β F (ρ.length+1)=Β F ρ.length+F ρ.length from λ_=>rfl,cl,Wr];have e1:d*Β (λp=>A (q i) ((ν++[c]).getD p 0)*W' p k) ρ.length=Β (λp=>E*(A (q i) (ν.getD p 0)*W p k)+(-(W ρ.length k))*(A (q i) (ν.getD p 0)*rv A n (W p) c)) ρ.length:=by rw [<-Ψ];refine ψ λp hp=>?_;have:=abk p hp k;rw [cg p hp,Wi p hp k];grind
   rw [gX,Ψ,Ψ] at e1;grind
 refine ⟨W',⟨by simp [s.lc],by simp;omega,s.Nv,λj hj=>?_,hd,λi hi k=>?_,λi h1 hi k=>?_,λi p hi hp=>?_⟩,Wr,H⟩
 ·by_cases Z9:j<ρ.length
  ·rw [nP Z9];exact s.zJ j Z9
  ·have:j=ρ.length:=by simp at hj;omega
   rw [this,nL];exact s.Nv _ hr
 ·rw [show (ρ++[q ρ.length]).length=ρ.length+1 by simp] at hi⊢;by_cases xW:i<ρ.length
  ·exact Wi i xW k
  ·have:i=ρ.length:=by omega
   subst this;rw [Wr k];exact hk k
 ·rw [show (ρ++[q ρ.length]).length=ρ.length+1 by simp] at h1⊢;exact Wn i h1 k
 ·rw [show (ρ++[q ρ.length]).length=ρ.length+1 by simp] at hi hp;have hrr:∀x,rv A n (W' ρ.length) x=rv A n (W ρ.length) x:=λx=>by unfold rv;exact ψ λk _=>by rw [Wr k]
  by_cases xW:i<ρ.length
  ·have YO:d*rv A n (W' i) ((ν++[c]).getD p 0)=E*rv A n (W i) ((ν++[c]).getD p 0)-rv A n (W i) c*rv A n (W ρ.length) ((ν++[c]).getD p 0):=by have:=xv (A:=A) (n:=n) (w:=λk=>d*W' i k) (u:=W i) (v:=W ρ.length) (a:=E) (b:=rv A n (W i) c) (λk=>H i (by omega) (by omega) k) ((ν++[c]).getD p 0);rw [<-this];unfold rv;rw [<-Ψ];exact ψ λk _=>by grind
   refine aaK d0 ?_;rw [YO];by_cases Fy:p<ρ.length
   ·rw [cg p Fy,s.zero (aai _) hr Fy,s.one i p xW Fy];split <;> grind
   ·have:p=ρ.length:=by omega
    subst this;rw [cl,hE,if_neg (by omega)];grind
  ·have:i=ρ.length:=by omega
   subst this;rw [hrr];by_cases Fy:p<ρ.length
   ·rw [cg p Fy,s.zero (aai _) hr Fy,if_neg (by omega)]
   ·have:p=ρ.length:=by omega
    subst this;rw [cl,hE,if_pos rfl]
end
theorem St.start{A:Nat->Row}{n:Nat}:St A n [] [] id 1 (λi=>ind i) where
 lc:=rfl
 rn:=abP _
 Nv:=λ_ h=>h
 zJ:=λ_ h=>absurd h (abz _)
 det:=rfl
 wp:=λ_ h=>absurd h (abz _)
 wn:=λi _ _ k=>by show ind i k=1*ind i k-0;omega
 one:=λ_ _ h=>absurd h (abz _)
theorem St.perm{A:Nat->Row}{n:Nat}{ρ ν:List Nat}{q:Nat->Nat}{d:Int}{W:Nat->Row}(s:St A n ρ ν q d W){π:Nat->Nat}(h1:∀i,i<ρ.length->π i=i)(h2:∀i,ρ.length<=i->i<n->ρ.length<=π i/\π i<n):St A n ρ ν (λi=>q (π i)) d (λi=>W (π i)) where
 lc:=s.lc
 rn:=s.rn
 Nv:=λi hi=>s.Nv _ (by
  by_cases h:i<ρ.length
  ·rw [h1 i h];exact hi
  ·exact (h2 i (by omega) hi).2)
 zJ:=s.zJ
 det:=s.det
 wp:=λi hi k=>by show W (π i) k=_;rw [h1 i hi];exact s.wp i hi k
 wn:=λi hi hn k=>by
  obtain ⟨a,b⟩:=h2 i hi hn;have:=s.wn (π i) a b k;rw [this]
  congr 1
  exact ψ λp hp=>by rw [h1 p hp]
 one:=λi p hi hp=>by show rv A n (W (π i)) _=_;rw [h1 i hi];exact s.one i p hi hp
def Ab(x B:Int):Prop:= -B<=x/\x<=B
theorem Ab.mul{x y B C:Int}(h:Ab x B)(h':Ab y C):Ab (x*y) (B*C):=by
 obtain ⟨a,b⟩:=h;obtain ⟨c,d⟩:=h';have B0:0<=B:=by omega
 have C0:0<=C:=by omega
 have hb:x.natAbs<=B.natAbs:=by omega
 have hc:y.natAbs<=C.natAbs:=by omega
 have hm:=Nat.mul_le_mul hb hc;rw [<-aa2,<-aa2] at hm;have p:=aa1 B0 C0;exact ⟨by omega,by omega⟩
theorem Ab.add{x y B C:Int}(h:Ab x B)(h':Ab y C):Ab (x+y) (B+C):=⟨by have:=h.1;have:=h'.1;omega,by have:=h.2;have:=h'.2;omega⟩
theorem Ab.sub{x y B C:Int}(h:Ab x B)(h':Ab y C):Ab (x-y) (B+C):=⟨by have:=h.1;have:=h'.2;omega,by have:=h.2;have:=h'.1;omega⟩
theorem Ab.mono{x B C:Int}(h:Ab x B)(h':B<=C):Ab x C:=⟨by have:=h.1;omega,by have:=h.2;omega⟩
theorem Ab.sum{f:Nat->Int}{B:Int}:∀{n:Nat},(∀i,i<n->Ab (f i) B)->Ab (Β f n) (n*B)
 |0,_=>⟨by simp [Β],by simp [Β]⟩
 |n+1,h=>by
  have i:=Ab.sum (n:=n) λi hi=>h i (by omega);have:=Ab.add i (h n (by omega));have e:(n:Int)*B+B=((n+1:Nat):Int)*B:=by rw [show ((n+1:Nat):Int)=(n:Int)+1 from rfl,Int.add_mul,Int.one_mul]
  rw [e] at this;exact this
theorem Ab.pow{k:Nat}{x B:Int}(h:Ab x B):Ab ((-1)^k*x) B:=by
 rcases (by induction k with
  |zero=>exact .inl rfl
  |succ k ih=>rw [Int.pow_succ];rcases ih with e|e <;> rw [e] <;> simp:((-1:Int)^k=1\/(-1:Int)^k= -1)) with e|e
 ·rw [e,Int.one_mul];exact h
 ·rw [e];obtain ⟨a,b⟩:=h;exact ⟨by omega,by omega⟩
theorem Ab.det{B:Int}(B0:1<=B):∀(γ:List Row) (ν:List Nat),(∀x∈γ,∀c∈ν,Ab (x c) B)->ν.length<=12->Ab (D γ ν) ((12*B)^γ.length)
 |[],ν,_,_=>by
  show Ab (F0 ν) ((12*B)^0);rw [Int.pow_zero];unfold F0;split
  ·exact ⟨by decide,by decide⟩
  ·exact ⟨by decide,by decide⟩
 |x::γ,ν,h,hl=>by
  show Ab (Lx x (D γ) ν) _;rw [xB,aax,abD];have P0:(0:Int)<=(12*B)^γ.length:=abF (by omega);have each:∀p,p<ν.length->Ab ((-1)^p*(x (ν.getD p 0)*D γ (ν.eraseIdx p))) (B*(12*B)^γ.length):=λp hp=>by
   refine Ab.pow (Ab.mul ?_ (Ab.det B0 γ (ν.eraseIdx p) (λy hy c hc=>h y (aad _ hy) c (ab1 hc)) ?_))
   ·rw [aab,aaa hp];exact h x aae _ (aay hp)
   ·rw [List.length_eraseIdx];split <;> omega
  refine (Ab.sum each).mono ?_;have Q0:0<=B*(12*B)^γ.length:=aa1 (by omega) P0;have:=aaD (show (ν.length:Int)<=12 by omega) Q0;refine abm this ?_;have e:12*(B*(12*B)^γ.length)=(12*B)^γ.length*(12*B):=by grind
  omega
section
variable{A:Nat->Row}{n:Nat}{ρ ν:List Nat}{q:Nat->Nat}{d:Int}{W:Nat->Row}
structure Bd(A:Nat->Row)(n m:Nat)(B:Int):Prop where
 b1:1<=B
 ab:∀k x,k<n->x<m->Ab (A k x) B
def top(B:Int)(r:Nat):Int:=(12*B)^(r+3)
theorem ye{B:Int}{a b:Nat}(h:1<=B)(Wl:a<=b):(12*B)^a<=(12*B)^b:=by
 obtain ⟨c,rfl⟩:=Nat.exists_eq_add_of_le Wl;rw [Int.pow_add];have p:(1:Int)<=(12*B)^c:=by have:0<(12*B)^c:=Int.pow_pos (by omega);omega
 have q:(0:Int)<=(12*B)^a:=abF (by omega);have:=aar p q;omega
theorem St.abs(s:St A n ρ ν q d W){m:Nat}{B:Int}(b:Bd A n m B)(hc:∀c∈ν,c<m)(hr:ρ.length<=12):
  (∀i k,i<n->Ab (W i k) (top B ρ.length))/\(∀i x,i<n->x<m->Ab (rv A n (W i) x) (top B ρ.length))/\Ab d (top B ρ.length):=by
 have B0:=b.b1;have mem:∀j,j<ρ.length->ρ.getD j 0∈ρ:=λj hj=>by rw [aab,aaa hj];exact aay hj
 have ρn:∀a∈ρ,a<n:=λa ha=>by obtain ⟨j,hj,e⟩:=aa0 ha;have:=s.zJ j hj;rw [aab,aaa hj] at this;rw [<-e];exact this
 have ent:∀x∈ρ.map A,∀c∈ν,Ab (x c) B:=λx hx c zG=>by obtain ⟨a,ha,rfl⟩:=aag.mp hx;exact b.ab a c (ρn a ha) (hc c zG)
 have cl:ν.length<=12:=by rw [s.lc];exact hr
 have hd:Ab d ((12*B)^ρ.length):=by have:=Ab.det B0 (ρ.map A) ν ent cl;rw [s.det,aac] at this;exact this
 have Vo:∀p k,Ab (fc (ρ.map A) ν p k) ((12*B)^ρ.length):=λp k=>by
  unfold fc;refine Ab.pow ((Ab.det B0 _ _ (λx hx c zG=>ent x (ab1 hx) c (ab1 zG)) ?_).mono (ye B0 ?_))
  ·rw [List.length_eraseIdx];split <;> omega
  ·rw [List.length_eraseIdx,aac];split <;> omega
 have i1:∀a k,Ab (ind a k) 1:=λa k=>by unfold ind;split <;> exact ⟨by decide,by decide⟩
 have P0:(0:Int)<=(12*B)^ρ.length:=abF (by omega);have L9:∀{C:Int},0<=C->(ρ.length:Int)*C<=12*C:=λh=>aaD (by omega) h;have c1:12*(12*B)^ρ.length<=(12*B)^(ρ.length+1):=by rw [abD];have:=aar (show (12:Int)<=12*B by omega) P0;omega
 have wp:∀i k,i<ρ.length->Ab (W i k) ((12*B)^(ρ.length+1)):=λi k hi=>by rw [s.wp i hi k];refine (Ab.sum (B:=(12*B)^ρ.length) λj hj=>?_).mono (abm (L9 P0) c1);have:=Ab.mul (Vo i j) (i1 (ρ.getD j 0) k);rw [Int.mul_one] at this;exact this
 have rp:∀i x,i<ρ.length->x<m->Ab (rv A n (W i) x) ((12*B)^(ρ.length+1)):=λi x hi hx=>by
  rw [s.Rx hi];have Q0:0<=(12*B)^ρ.length*B:=aa1 P0 (by omega);refine (Ab.sum (B:=(12*B)^ρ.length*B) λj hj=>Ab.mul (Vo i j) (b.ab _ x (s.zJ j hj) hx)).mono (abm (L9 Q0) ?_);rw [abD];have:12*((12*B)^ρ.length*B)=(12*B)^ρ.length*(12*B):=by grind
  omega
 have S0:(0:Int)<=(12*B)^(ρ.length+1):=abF (by omega);have T0:(0:Int)<=(12*B)^(ρ.length+2):=abF (by omega);have c2:12*(B*(12*B)^(ρ.length+1))=(12*B)^(ρ.length+2):=by rw [show ρ.length+2=ρ.length+1+1 from rfl,Int.pow_succ];grind
 have c3:(12*B)^(ρ.length+2)+(12*B)^(ρ.length+2)<=top B ρ.length:=by unfold top;have e:(12*B)^(ρ.length+3)=(12*B)^(ρ.length+2)*(12*B):=abD _ _;rw [e];have:=aar (show (2:Int)<=12*B by omega) T0;omega
 have c4:(12*B)^(ρ.length+1)<=(12*B)^(ρ.length+2):=ye B0 (by omega);have c5:(12*B)^ρ.length<=(12*B)^(ρ.length+2):=ye B0 (by omega);have c6:(12*B)^ρ.length*B<=(12*B)^(ρ.length+2):=by refine abm ?_ c4;rw [abD];exact aar (by omega) P0
 have U0:0<=B*(12*B)^(ρ.length+1):=aa1 (by omega) S0;have T2:∀p,p<ρ.length->ν.getD p 0<m:=λp hp=>by
  have A6:p<ν.length:=by rw [s.lc];exact hp
  rw [aab,aaa A6];exact hc _ (aay A6)
 refine ⟨λi k hi=>?_,λi x hi hx=>?_,hd.mono (by omega)⟩
 ·by_cases xW:i<ρ.length
  ·exact (wp i k xW).mono (by omega)
  ·rw [s.wn i (by omega) hi k];have a1:=Ab.mul hd (i1 (q i) k);rw [Int.mul_one] at a1;refine (Ab.sub a1 (Ab.sum (B:=B*(12*B)^(ρ.length+1)) λp hp=>Ab.mul (b.ab (q i) _ (s.Nv i hi) (T2 p hp)) (wp p k hp))).mono ?_;have:=L9 U0;omega
 ·by_cases xW:i<ρ.length
  ·exact (rp i x xW hx).mono (by omega)
  ·rw [s.Pq (by omega) hi];refine (Ab.sub (Ab.mul hd (b.ab (q i) x (s.Nv i hi) hx)) (Ab.sum (B:=B*(12*B)^(ρ.length+1)) λp hp=>Ab.mul (b.ab (q i) _ (s.Nv i hi) (T2 p hp)) (rp p x hp hx))).mono ?_;have:=L9 U0;omega
end
def cP(n i:Nat):List Int:=(List.range n).map (ind i)
def j4(ls:List (List Int))(f k:Nat):List (List Int):=ls.take f++[ls.getD k []]++(ls.drop f).take (k-f)++ls.drop (k+1)
def cT(l h:List Int)(c:Nat)(d:Int):List Int:=(l.zip h).map λp=>(h.getD c 0*p.1-l.getD c 0*p.2).fdiv d
def az(A:Nat->Row)(n m:Nat)(w:Row):List Int:=(List.range m).map (λx=>rv A n w x)++(List.range n).map w
def af(A:Nat->Row)(n m:Nat)(W:Nat->Row):List (List Int):=(List.range n).map λi=>az A n m (W i)
def arr(γ:List (List Int)):Nat->Row:=λk x=>(γ.getD k []).getD x 0
theorem eN{A:Nat->Row}{n m:Nat}{w:Row}:(az A n m w).length=m+n:=by unfold az;simp
theorem hX{A:Nat->Row}{n m x:Nat}{w:Row}(h:x<m):(az A n m w).getD x 0=rv A n w x:=by unfold az;rw [List.getD_eq_getElem?_getD,List.getElem?_append_left (by simpa using h),List.getElem?_map,List.getElem?_range h];rfl
theorem ky{A:Nat->Row}{n m i:Nat}{W:Nat->Row}(h:i<n):(af A n m W).getD i []=az A n m (W i):=by unfold af;rw [aab,aal,aaH h];rfl
theorem cY{A:Nat->Row}{n m:Nat}{W:Nat->Row}:(af A n m W).length=n:=by unfold af;simp
theorem BR{A:Nat->Row}{n m:Nat}{w u:Row}(h:∀k,w k=u k):az A n m w=az A n m u:=by have:w=u:=funext h;rw [this]
theorem AU{γ:List (List Int)}{m:Nat}(hl:∀r∈γ,r.length=m):(List.range γ.length).map (λi=>γ.getD i []++cP γ.length i)=af (arr γ) γ.length m (λi=>ind i):=by
 unfold af;apply aaO;intro i hi;have hi:=aaT.mp hi;unfold az cP
 congr 1
 have g:γ.getD i []=γ[i]:=by rw [aab,aaa hi];rfl
 have ml:=hl γ[i] (aay hi);apply aa6
 ·rw [g,ml];simp
 ·intro x h1 h2;simp only [List.getElem_map,List.getElem_range];rw [BJ hi];unfold arr;rw [aab (l:=γ.getD i []),aaa h1];rfl
def jf(r k i:Nat):Nat:=if i<r then i else if i=r then k else if i<=k then i-1 else i
theorem zK{A:Nat->Row}{n m r k:Nat}{W:Nat->Row}(hr:r<=k)(hk:k<n):j4 (af A n m W) r k=af A n m (λi=>W (jf r k i)):=by
 unfold j4;rw [ky hk];unfold af;apply acd;intro i;rw [aal];simp only [List.append_assoc];by_cases h1:i<r
 ·rw [List.getElem?_append_left (by simp;omega),List.getElem?_take_of_lt h1,List.getElem?_map];rw [aaH (by omega)];have:jf r k i=i:=by unfold jf;rw [if_pos h1]
  simp [this]
 ·rw [List.getElem?_append_right (by simp;omega)];have lt:((List.map (λi=>az A n m (W i)) (List.range n)).take r).length=r:=by simp;omega
  rw [lt];by_cases h2:i=r
  ·subst h2;rw [Nat.sub_self,List.getElem?_append_left (by simp)];rw [aaH (by omega)];have:jf i k i=k:=by unfold jf;rw [if_neg (Nat.lt_irrefl _),if_pos rfl]
   simp [this]
  ·rw [List.getElem?_append_right (by simp;omega)];show (_++_)[i-r-1]? =_;have l2:((List.map (λi=>az A n m (W i)) (List.range n)).drop r |>.take (k-r)).length=k-r:=by simp;omega
   by_cases h3:i<=k
   ·rw [aaq (by rw [l2];omega),ab0 (by omega),List.getElem?_drop,aal,aaH (by omega),aaH (by omega)];have:jf r k i=i-1:=by unfold jf;rw [if_neg h1,if_neg h2,if_pos h3]
    simp only [Option.map_some,this];rw [show r+(i-r-1)=i-1 by omega]
   ·rw [aan (by rw [l2];omega),l2,List.getElem?_drop,aal];rw [show k+1+(i-r-1-(k-r))=i by omega];by_cases h4:i<n
    ·rw [aaH h4];have:jf r k i=i:=by unfold jf;rw [if_neg h1,if_neg h2,if_neg h3]
     simp [this]
    ·rw [List.getElem?_eq_none (by simpa using h4)];rfl
theorem tN{a b d:Int}(h:d≠0)(e:d*b=a):a.fdiv d=b:=by rw [<-e];exact Int.mul_fdiv_cancel_left b h
theorem qY{A:Nat->Row}{n m c:Nat}{w u v:Row}{d:Int}(hc:c<m)(d0:d≠0)(h:∀k,d*v k=rv A n u c*w k-rv A n w c*u k):cT (az A n m w) (az A n m u) c d=az A n m v:=by
 have hr:∀x,d*rv A n v x=rv A n u c*rv A n w x-rv A n w c*rv A n u x:=λx=>by have:=xv (A:=A) (n:=n) (w:=λk=>d*v k) (u:=w) (v:=u) (a:=rv A n u c) (b:=rv A n w c) h x;rw [<-this];unfold rv;rw [<-Ψ];exact ψ λk _=>by grind
 unfold cT;rw [hX hc,hX hc];unfold az;rw [List.zip_append (by simp),List.map_append]
 congr 1
 ·apply aa6
  ·simp
  ·intro x h1 h2;simp only [List.getElem_map,List.getElem_zip,List.getElem_range];exact tN d0 (hr x)
 ·apply aa6
  ·simp
  ·intro x h1 h2;simp only [List.getElem_map,List.getElem_zip,List.getElem_range];exact tN d0 (h x)
structure Turn(A:Nat->Row)(n:Nat)(col:Nat)(ρ ν:List Nat)(q:Nat->Nat)(d:Int)(W:Nat->Row):Prop where
 st:St A n ρ ν q d W
 d0:d≠0
 cl:∀c∈ν,c<col
 QU:∀i,i<ρ.length->q i=ρ.getD i 0
 Qy:∀k,k<n->∃i,i<n/\q i=k
 zero:∀i,ρ.length<=i->i<n->∀x,x<col->rv A n (W i) x=0
 all:ν=List.range col\/∃x,x<col/\x∉ν
theorem Turn.start{A:Nat->Row}{n:Nat}:Turn A n 0 [] [] id 1 (λi=>ind i) where
 st:=St.start
 d0:=by decide
 cl:=λ_ h=>nomatch h
 QU:=λ_ h=>absurd h (abz _)
 Qy:=λk h=>⟨k,h,rfl⟩
 zero:=λ_ _ _ _ h=>absurd h (abz _)
 all:= .inl rfl
section
variable{A:Nat->Row}{n col:Nat}{ρ ν:List Nat}{q:Nat->Nat}{d:Int}{W:Nat->Row}
theorem Turn.skip(t:Turn A n col ρ ν q d W)(h:∀i,ρ.length<=i->i<n->rv A n (W i) col=0):Turn A n (col+1) ρ ν q d W where
 st:=t.st
 d0:=t.d0
 cl:=λc hc=>abI (t.cl c hc)
 QU:=t.QU
 Qy:=t.Qy
 zero:=λi h1 h2 x hx=>by
  by_cases e:x=col
  ·rw [e];exact h i h1 h2
  ·exact t.zero i h1 h2 x (by omega)
 all:= .inr ⟨col,abc _,λz=>absurd (t.cl col z) (abq _)⟩
theorem Turn.move(t:Turn A n col ρ ν q d W){k:Nat}(h1:ρ.length<=k)(h2:k<n):Turn A n col ρ ν (λi=>q (jf ρ.length k i)) d (λi=>W (jf ρ.length k i)) where
 st:=t.st.perm (λi hi=>by unfold jf;rw [if_pos hi]) λi a b=>by unfold jf;split <;> (try split) <;> (try split) <;> omega
 d0:=t.d0
 cl:=t.cl
 QU:=λi hi=>by show q (jf ρ.length k i)=_;rw [show jf ρ.length k i=i by unfold jf;rw [if_pos hi]];exact t.QU i hi
 Qy:=λj hj=>by
  obtain ⟨i,hi,e⟩:=t.Qy j hj;by_cases a:i<ρ.length
  ·exact ⟨i,hi,by show q (jf ρ.length k i)=j;rw [show jf ρ.length k i=i by unfold jf;rw [if_pos a]];exact e⟩
  ·by_cases b:i=k
   ·exact ⟨ρ.length,by omega,by show q (jf ρ.length k ρ.length)=j;rw [show jf ρ.length k ρ.length=k by unfold jf;rw [if_neg (Nat.lt_irrefl _),if_pos rfl],<-b];exact e⟩
   ·by_cases c:i<k
    ·exact ⟨i+1,by omega,by show q (jf ρ.length k (i+1))=j;rw [show jf ρ.length k (i+1)=i by unfold jf;rw [if_neg (by omega),if_neg (by omega),if_pos (by omega)];omega];exact e⟩
    ·exact ⟨i,hi,by show q (jf ρ.length k i)=j;rw [show jf ρ.length k i=i by unfold jf;rw [if_neg a,if_neg (by omega),if_neg (by omega)]];exact e⟩
 zero:=λi a b x hx=>by
  have:ρ.length<=jf ρ.length k i/\jf ρ.length k i<n:=by unfold jf;split <;> (try split) <;> (try split) <;> omega
  exact t.zero _ this.1 this.2 x hx
 all:=t.all
theorem Turn.step{m:Nat}(t:Turn A n col ρ ν q d W)(hr:ρ.length<n)(hm:col<m)(h0:rv A n (W ρ.length) col≠0):
  ∃W',Turn A n (col+1) (ρ++[q ρ.length]) (ν++[col]) q (rv A n (W ρ.length) col) W'/\
   ((af A n m W).take ρ.length).map (λl=>cT l (az A n m (W ρ.length)) col d)++[az A n m (W ρ.length)]++((af A n m W).drop (ρ.length+1)).map (λl=>cT l (az A n m (W ρ.length)) col d)=af A n m W':=by
 obtain ⟨W',s',e1,e2⟩:=t.st.step hr col t.d0 h0;refine ⟨W',⟨s',h0,λc hc=>?_,λi hi=>?_,t.Qy,λi a b x hx=>?_,?_⟩,?_⟩
 ·rcases aaP.mp hc with z|z
  ·exact abI (t.cl c z)
  ·have:c=col:=by simpa using z
   omega
 ·by_cases xW:i<ρ.length
  ·rw [nP xW];exact t.QU i xW
  ·have:i=ρ.length:=by simp at hi;omega
   rw [this,nL]
 ·rw [show (ρ++[q ρ.length]).length=ρ.length+1 by simp] at a;have YO:d*rv A n (W' i) x=rv A n (W ρ.length) col*rv A n (W i) x-rv A n (W i) col*rv A n (W ρ.length) x:=by have:=xv (A:=A) (n:=n) (w:=λk=>d*W' i k) (u:=W i) (v:=W ρ.length) (λk=>e2 i b (by omega) k) x;rw [<-this];unfold rv;rw [<-Ψ];exact ψ λk _=>by grind
  refine aaK t.d0 ?_;rw [YO];by_cases e:x=col
  ·subst e;grind
  ·rw [t.zero i (by omega) b x (by omega),t.zero ρ.length (Nat.le_refl _) hr x (by omega)];simp
 ·rcases t.all with z|⟨x,a,b⟩
  ·left;rw [z,List.range_succ]
  ·refine .inr ⟨x,by omega,λz=>?_⟩;rcases aaP.mp z with z|z
   ·exact b z
   ·have:x=col:=by simpa using z
    omega
 ·unfold af;rw [<-ab8,<-ab9,aau,aau];apply acd;intro i;simp only [List.append_assoc];have lt:(List.map ((λl=>cT l (az A n m (W ρ.length)) col d) ∘ λi=>az A n m (W i)) ((List.range n).take ρ.length)).length=ρ.length:=by simp;omega
  by_cases h1:i<ρ.length
  ·rw [aaq (by rw [lt];exact h1),aal,aal,ab0 h1,aaH (by omega)];show some (cT (az A n m (W i)) (az A n m (W ρ.length)) col d)=some _;rw [qY hm t.d0 (e2 i (by omega) (by omega))]
  ·rw [aan (by rw [lt];omega),lt,aal];by_cases h2:i=ρ.length
   ·subst h2;rw [acg,aaH hr];show some (az A n m (W ρ.length))=some (az A n m (W' ρ.length));rw [BR e1]
   ·rw [List.getElem?_append_right (by simp;omega)];show (List.map _ ((List.range n).drop (ρ.length+1)))[i-ρ.length-1]? =_;rw [aal,List.getElem?_drop,show ρ.length+1+(i-ρ.length-1)=i by omega];by_cases h4:i<n
    ·rw [aaH h4];show some (cT (az A n m (W i)) (az A n m (W ρ.length)) col d)=some _;rw [qY hm t.d0 (e2 i h4 h2)]
    ·rw [List.getElem?_eq_none (by simpa using h4)];rfl
end
section
variable{A:Nat->Row}{n col:Nat}{ρ ν:List Nat}{q:Nat->Nat}{d:Int}{W:Nat->Row}
theorem Turn.back(t:Turn A n col ρ ν q d W){k y:Nat}(hk:k<n)(hy:y<col):d*A k y=Β (λp=>A k (ν.getD p 0)*rv A n (W p) y) ρ.length:=by
 obtain ⟨i,hi,e⟩:=t.Qy k hk;have s:=t.st;by_cases xW:i<ρ.length
 ·have ek:k=ρ.getD i 0:=by rw [<-e];exact t.QU i xW
  have lr:(ρ.map A).length=ρ.length:=aac _;have e1:Β (λp=>A k (ν.getD p 0)*rv A n (W p) y) ρ.length=Β (λp=>Β (λj=>(A k (ν.getD p 0)*fc (ρ.map A) ν p j)*A (ρ.getD j 0) y) ρ.length) ρ.length:=ψ λp hp=>by rw [s.Rx hp,<-Ψ];exact ψ λj _=>by grind
  have e2:Β (λp=>Β (λj=>(A k (ν.getD p 0)*fc (ρ.map A) ν p j)*A (ρ.getD j 0) y) ρ.length) ρ.length=Β (λj=>A (ρ.getD j 0) y*Β (λp=>(ρ.map A).getD i zr (ν.getD p 0)*fc (ρ.map A) ν p j) ρ.length) ρ.length:=by rw [cX];refine ψ λj _=>?_;rw [<-Ψ];refine ψ λp _=>?_;rw [ua xW,<-ek];grind
  rw [e1,e2];have pa:∀j,j<ρ.length->Β (λp=>(ρ.map A).getD i zr (ν.getD p 0)*fc (ρ.map A) ν p j) ρ.length=if i=j then d else 0:=λj hj=>by have:=PA (γ:=ρ.map A) (ν:=ν) (i:=i) (k:=j) (by rw [lr];exact s.lc) (by rw [lr];exact xW) (by rw [lr];exact hj);rw [lr,s.det] at this;exact this
  rw [iQ xW λj hj lI=>by rw [pa j hj,if_neg (Ne.symm lI)];simp];rw [pa i xW,if_pos rfl,ek];grind
 ·have:=s.Pq (by omega) hi y;rw [t.zero i (by omega) hi y hy,e] at this;omega
theorem Turn.kernel(t:Turn A n col ρ ν q d W){x:Nat}(hx:x<col)(hf:x∉ν):∃z:Row,z x= -d/\∀k,k<n->Β (λy=>A k y*z y) col=0:=by
 have s:=t.st;have cm:∀i,i<ρ.length->ν.getD i 0∈ν:=λi hi=>by
  have DJ:i<ν.length:=by rw [s.lc];exact hi
  rw [aab,aaa DJ];exact aay DJ
 refine ⟨λy=>Β (λi=>rv A n (W i) x*ind (ν.getD i 0) y) ρ.length-d*ind x y,?_,λk hk=>?_⟩
 ·have e1:Β (λi=>rv A n (W i) x*ind (ν.getD i 0) x) ρ.length=0:=iU λi hi=>by unfold ind;rw [if_neg λz=>hf (by rw [<-z];exact cm i hi)];simp
  show Β (λi=>rv A n (W i) x*ind (ν.getD i 0) x) ρ.length-d*ind x x= -d;rw [e1];unfold ind;rw [if_pos rfl];omega
 ·have gen:∀f:Row,Β (λy=>f y*(Β (λi=>rv A n (W i) x*ind (ν.getD i 0) y) ρ.length-d*ind x y)) col=Β (λi=>rv A n (W i) x*f (ν.getD i 0)) ρ.length-d*f x:=λf=>by
   have e1:Β (λy=>f y*(Β (λi=>rv A n (W i) x*ind (ν.getD i 0) y) ρ.length-d*ind x y)) col=Β (λy=>Β (λi=>rv A n (W i) x*(ind (ν.getD i 0) y*f y)) ρ.length+(-d)*(ind x y*f y)) col:=ψ λy _=>by
    have:Β (λi=>rv A n (W i) x*(ind (ν.getD i 0) y*f y)) ρ.length=f y*Β (λi=>rv A n (W i) x*ind (ν.getD i 0) y) ρ.length:=by rw [<-Ψ];exact ψ λi _=>by grind
    rw [this];grind
   rw [e1,gX,Ψ,oi (f:=f) hx,cX];have e2:Β (λi=>Β (λy=>rv A n (W i) x*(ind (ν.getD i 0) y*f y)) col) ρ.length=Β (λi=>rv A n (W i) x*f (ν.getD i 0)) ρ.length:=ψ λi hi=>by rw [Ψ,oi (f:=f) (t.cl _ (cm i hi))]
   rw [e2];grind
  refine aaK t.d0 ?_;rw [Int.mul_zero,gen (A k),Int.mul_sub];have b1:=t.back hk hx;have e3:Β (λi=>rv A n (W i) x*A k (ν.getD i 0)) ρ.length=d*A k x:=by rw [b1];exact ψ λi _=>aaU _ _
  rw [e3];grind
def Q9(A:Nat->Row)(n u:Nat)(z:Row)(N:Int):Prop:=∀k,k<n->Β (λx=>A k x*z x) u=N*A k u
theorem Q9.line{u:Nat}{z:Row}{N:Int}(h:Q9 A n u z N)(w:Row):Β (λx=>rv A n w x*z x) u=N*rv A n w u:=by
 unfold rv;have e1:Β (λx=>Β (λk=>w k*A k x) n*z x) u=Β (λx=>Β (λk=>w k*(A k x*z x)) n) u:=ψ λx _=>by rw [aaU,<-Ψ];exact ψ λk _=>by grind
 rw [e1,cX,<-Ψ];refine ψ λk hk=>?_;rw [Ψ,h k hk];grind
theorem Turn.rest(t:Turn A n col ρ ν q d W){z:Row}{N:Int}(hs:Q9 A n col z N)(hN:N≠0){i:Nat}(h1:ρ.length<=i)(hi:i<n):rv A n (W i) col=0:=by
 have:=hs.line (W i);rw [iU λx hx=>by rw [t.zero i h1 hi x hx];simp] at this;rcases Int.mul_eq_zero.mp this.symm with e|e
 ·exact absurd e hN
 ·exact e
theorem Turn.told(t:Turn A n col ρ ν q d W)(hc:ν=List.range col){z:Row}{N:Int}(hs:Q9 A n col z N){i:Nat}(hi:i<col):d*z i=N*rv A n (W i) col:=by
 have s:=t.st;have hl:ρ.length=col:=by rw [<-s.lc,hc,aaN]
 have g:∀p,p<col->ν.getD p 0=p:=λp hp=>by rw [hc,aab,aaH hp];rfl
 rw [<-hs.line (W i)]
 rw [iQ hi λx hx lI=>by
  have:=s.one i x (by rw [hl];exact hi) (by rw [hl];exact hx);rw [g x hx,if_neg (Ne.symm lI)] at this
  rw [this];simp]
 have:=s.one i i (by rw [hl];exact hi) (by rw [hl];exact hi);rw [g i hi,if_pos rfl] at this;rw [this]
end
theorem Turn.exists{A:Nat->Row}{n:Nat}:∀col:Nat,∃ρ ν q d W,Turn A n col ρ ν q d W
 |0=>⟨_,_,_,_,_,Turn.start⟩
 |col+1=>by
  obtain ⟨ρ,ν,q,d,W,t⟩:=Turn.exists (A:=A) (n:=n) col;by_cases h:∃k,ρ.length<=k/\k<n/\rv A n (W k) col≠0
  ·obtain ⟨k,h1,h2,h3⟩:=h;have t':=t.move h1 h2;have e:jf ρ.length k ρ.length=k:=by unfold jf;rw [if_neg (Nat.lt_irrefl _),if_pos rfl]
   obtain ⟨W',t2,_⟩:=t'.step (m:=col+1) (by omega) (by omega) (by show rv A n (W (jf ρ.length k ρ.length)) col≠0;rw [e];exact h3);exact ⟨_,_,_,_,_,t2⟩
  ·refine ⟨_,_,_,_,_,t.skip λi h1 h2=>?_⟩;by_cases e:rv A n (W i) col=0
   ·exact e
   ·exact absurd ⟨i,h1,h2,e⟩ h
section
variable{A:Nat->Row}{n col:Nat}{ρ ν:List Nat}{q:Nat->Nat}{d:Int}{W:Nat->Row}
def Ln(A:Nat->Row)(n:Nat)(W:Nat->Row)(ν:List Nat)(s k:Nat):Row:=λy=>Β (λi=>rv A n (W i) s*ind (ν.getD i 0) y) k
theorem Turn.Nt(t:Turn A n col ρ ν q d W){x:Nat}(hx:x<col):∀k,k<n->Β (λy=>A k y*(Ln A n W ν x ν.length y-d*ind x y)) col=0:=λk hk=>by
 have s:=t.st;have cm:∀i,i<ρ.length->ν.getD i 0∈ν:=λi hi=>by
  have DJ:i<ν.length:=by rw [s.lc];exact hi
  rw [aab,aaa DJ];exact aay DJ
 unfold Ln;rw [s.lc];have gen:∀f:Row,Β (λy=>f y*(Β (λi=>rv A n (W i) x*ind (ν.getD i 0) y) ρ.length-d*ind x y)) col=Β (λi=>rv A n (W i) x*f (ν.getD i 0)) ρ.length-d*f x:=λf=>by
  have e1:Β (λy=>f y*(Β (λi=>rv A n (W i) x*ind (ν.getD i 0) y) ρ.length-d*ind x y)) col=Β (λy=>Β (λi=>rv A n (W i) x*(ind (ν.getD i 0) y*f y)) ρ.length+(-d)*(ind x y*f y)) col:=ψ λy _=>by
   have:Β (λi=>rv A n (W i) x*(ind (ν.getD i 0) y*f y)) ρ.length=f y*Β (λi=>rv A n (W i) x*ind (ν.getD i 0) y) ρ.length:=by rw [<-Ψ];exact ψ λi _=>by grind
   rw [this];grind
  rw [e1,gX,Ψ,oi (f:=f) hx,cX];have e2:Β (λi=>Β (λy=>rv A n (W i) x*(ind (ν.getD i 0) y*f y)) col) ρ.length=Β (λi=>rv A n (W i) x*f (ν.getD i 0)) ρ.length:=ψ λi hi=>by rw [Ψ,oi (f:=f) (t.cl _ (cm i hi))]
  rw [e2];grind
 refine aaK t.d0 ?_;rw [Int.mul_zero,gen (A k),Int.mul_sub];have b1:=t.back hk hx;have e3:Β (λi=>rv A n (W i) x*A k (ν.getD i 0)) ρ.length=d*A k x:=by rw [b1];exact ψ λi _=>aaU _ _
 rw [e3];grind
theorem Turn.Us(t:Turn A n col ρ ν q d W)(h:∀i,ρ.length<=i->i<n->rv A n (W i) col=0):Q9 A n col (Ln A n W ν col ν.length) d:=λk hk=>by
 have:=(t.skip h).Nt (x:=col) (by omega) k hk;have e:Β (λy=>A k y*(Ln A n W ν col ν.length y-d*ind col y)) (col+1)=Β (λy=>A k y*(Ln A n W ν col ν.length y-d*ind col y)) col+A k col*(Ln A n W ν col ν.length col-d*ind col col):=rfl;have e1:Β (λy=>A k y*(Ln A n W ν col ν.length y-d*ind col y)) col=Β (λy=>A k y*Ln A n W ν col ν.length y) col:=ψ λy hy=>by
  have:ind col y=0:=by unfold ind;rw [if_neg (by omega)]
  rw [this];grind
 have e2:Ln A n W ν col ν.length col=0:=iU λi hi=>by
  have hm:ν.getD i 0∈ν:=by rw [aab,aaa hi];exact aay hi
  have:ind (ν.getD i 0) col=0:=by unfold ind;rw [if_neg (by have:=t.cl _ hm;omega)]
  rw [this,Int.mul_zero]
 have e3:ind col col=1:=by unfold ind;rw [if_pos rfl]
 rw [e,e1,e2,e3] at this;have:A k col*(0-d*1)= -(d*A k col):=by grind
 omega
theorem St.WD(s:St A n ρ ν q d W){m:Nat}{B:Int}(b:Bd A n m B)(hc:∀c∈ν,c<m)(hr:ρ.length<=12):Ab d ((12*B)^ρ.length):=by
 have ρn:∀a∈ρ,a<n:=λa ha=>by obtain ⟨j,hj,e⟩:=aa0 ha;have:=s.zJ j hj;rw [aab,aaa hj] at this;rw [<-e];exact this
 have:=Ab.det b.b1 (ρ.map A) ν (λx hx c zG=>by
  obtain ⟨a,ha,rfl⟩:=aag.mp hx
  exact b.ab a c (ρn a ha) (hc c zG)) (by rw [s.lc];exact hr)
 rw [s.det,aac] at this;exact this
end
end Bz
seal L2.JE L2.JT L2.JW L2.JA L2.JS L2.CU L2.JI L2.JK
local macro_rules | `(tactic| walk_at "vc")=>`(tactic| dsimp only [L2.gN,L2.Sm,L2.Tu,L2.S4,L2.SH,L2.N1,L2.ZU,L2.S',L2.JN,L2.J8,L2.N5,L2.C4,L2.lj,L2.VC,L2.yp,L2.dC,L2.Q_,L2.K7,L2.Se,L2.Ut,L2.oP,L2.ZM,L2.R6,L2.Uk,L2.dOr,L2.Uz,L2.ZC,L2.jW,List.map_cons,List.map_nil,List.length_cons,List.length_nil,List.cons_append,List.nil_append,List.replicate,List.getElem?_cons_zero,List.getElem?_cons_succ,List.set_cons_zero,List.set_cons_succ,Nat.reduceSub,Nat.reduceAdd,Nat.zero_add])
namespace Pg
open PySem L2
def top(i:Nat):Stmt:=PySem.Challenge.pw_chanceduel_k34_worths_turned.main.body.getD i (.Pass ⟨0,0,0,0⟩)
def cls(i j:Nat):Stmt:=match top i with
 |.ClassDef _ _ _ b _ _ _ _ _ _ _=>b.getD j (.Pass ⟨0,0,0,0⟩)
 |_=> .Pass ⟨0,0,0,0⟩
abbrev gW:Stmt:=top 9
abbrev oR:Stmt:=top 10
abbrev Ig:Stmt:=top 11
abbrev BW:Stmt:=top 12
abbrev B_:Stmt:=top 13
abbrev Be:Stmt:=top 14
abbrev sT:Stmt:=top 19
abbrev o7:Stmt:=top 20
abbrev iC:Stmt:=top 21
abbrev jz:Stmt:=top 22
abbrev mV:Stmt:=top 23
abbrev rV:Stmt:=top 24
abbrev lV:Stmt:=top 25
abbrev mJ:Stmt:=top 30
abbrev rR:Stmt:=top 31
abbrev pL:Stmt:=top 32
abbrev CK:Stmt:=top 33
abbrev g7:Stmt:=top 35
abbrev mT:Stmt:=top 36
abbrev wZ:Stmt:=top 37
abbrev jw:Stmt:=top 39
abbrev iJ:Stmt:=top 40
abbrev j7:Stmt:=top 41
abbrev ju:Stmt:=top 42
abbrev sf:Stmt:=top 43
abbrev mq:Stmt:=top 44
abbrev oO:Stmt:=top 46
abbrev pv:Stmt:=top 48
abbrev mO:Stmt:=top 49
abbrev se:Stmt:=top 50
abbrev sG:Stmt:=top 51
abbrev jH:Stmt:=top 52
abbrev oH:Stmt:=top 53
abbrev pJ:Stmt:=top 54
abbrev xq:Stmt:=top 55
abbrev Cz:Stmt:=top 56
abbrev pU:Stmt:=top 57
abbrev hI:Stmt:=top 59
abbrev rj:Stmt:=top 60
abbrev si:Stmt:=top 62
abbrev wF:Stmt:=top 63
abbrev yk:Stmt:=top 64
abbrev BU:Stmt:=top 66
abbrev mH:Stmt:=top 67
abbrev l9:Stmt:=top 68
abbrev xw:Stmt:=top 69
abbrev oU:Stmt:=top 70
abbrev jj:Stmt:=top 71
abbrev mr:Stmt:=top 72
abbrev j5:Stmt:=top 73
abbrev pY:Stmt:=top 74
abbrev sM:Stmt:=top 75
abbrev oz:Stmt:=top 76
abbrev pG:Stmt:=top 77
abbrev OO:Stmt:=top 78
abbrev mf:Stmt:=cls 34 0
abbrev mK:Stmt:=cls 34 1
abbrev j8:Stmt:=cls 34 2
abbrev mN:Stmt:=cls 34 3
abbrev kD:Stmt:=cls 34 4
abbrev pA:Stmt:=cls 34 5
abbrev mF:Stmt:=cls 34 6
abbrev kg:Stmt:=cls 34 7
abbrev g_:Stmt:=cls 34 8
abbrev mL:Stmt:=cls 34 9
abbrev mw:Stmt:=cls 34 10
open PySem L2 Fr0 Tx
structure Ev(K:fI)(mg:Str->Option Value)(w:World)(Cm:Addr):Prop where
 bX:mg "len"=none
 qX:mg "abs"=none
 cy:mg "isinstance"=none
 uX:mg "int"=none
 xJ:mg "bool"=none
 JH:mg "str"=none
 qN:mg "tuple"=none
 kC:mg "list"=none
 cZ:mg "range"=none
 eA:mg "enumerate"=none
 DH:mg "any"=none
 Ed:mg "all"=none
 zt:mg "sum"=none
 vc:mg "zip"=none
 tM:mg "dict"=none
 Dz:mg "min"=none
 HU:mg "max"=none
 ib:PySem.W.kitOne K (.type "int") (.type "bool")=some false
 kis:PySem.W.kitOne K (.type "int") (.type "str")=some false
 kts:PySem.W.kitOne K (.type "tuple") (.type "str")=some false
 kti:PySem.W.kitOne K (.type "tuple") (.type "int")=some false
 kls:PySem.W.kitOne K (.type "list") (.type "str")=some false
 kli:PySem.W.kitOne K (.type "list") (.type "int")=some false
 ktl:PySem.W.kitOne K (.type "tuple") (.type "list")=some false
 klt:PySem.W.kitOne K (.type "list") (.type "tuple")=some false
 cR:DU K Cm
 bJ:iH K Cm "kept_rows"
 fv:iH K Cm "kept_share"
 xi:∃a o its n,mg "HANDS"=some (.ref a)/\K.lookup a=some o/\o.cls= .type "tuple"/\o.data= .seq its n/\its.size<=sizeLine/\Paired (λ(z:Str) (u:Value)=>∃tk,u= .str z tk) ["one","other"] its.toList
 iA:Ru K w mg "TURNED_KINDS" [("one","other"),("other","one"),("chance","chance")]
 qh:∃tk,mg "MOST_DOORS"=some (.int 6 tk)
 ji:∃tk,mg "MOST_BOTTOM"=some (.int 1000000 tk)
 nq:∃tk,mg "MOST_PLACES"=some (.int 12 tk)
 g9:∃tk,mg "MOST_SHARE_BOTTOM"=some (.int 1000 tk)
theorem Bo{K:fI}{T:String}:PySem.W.kitOne K (.type T) (.type T)=some true:=by unfold PySem.W.kitOne;rw [if_pos (beq_self_eq_true _)]
section
variable{P:Program}{w:World}{K:fI}{mg:Str->Option Value}{base:Heap}{Cm:Addr}
def J6:DF:=λds M q _=>match ds with
 |[.int a,.int b]=>q (.int (g a b)) M
 |_=>False
theorem bH:Δ ["one","other","great","small","rest"] ["one","other"] (τ gW):= .of rfl
theorem oF{f:Addr}{fd:FuncData}(F:cJ K "common_divisor" "common_divisor" gW f fd)(E:Ev K mg w Cm):ah P w K mg base (bU P w) 1 f fd ["one","other"] (cC K J6):=by
 refine F.df bH (λds M q x h=>?_) (λaT A outer s H E' hr=>⟨_,(η (Γ 2 bH.nd (EA E.qX (Υ (jv 0) θ)))
   (η (Γ 3 bH.nd (EA E.qX (Υ (jv 1) θ)))
   (η (nE (rH hr (jv 3) ω) (η (Γ 4 bH.nd (bY (jv 2) (jv 3)))
   (η (Γ 2 bH.nd (jv 3))
   (μ (Γ 3 bH.nd (jv 4))))))
   (μ (Ε (jv 2)))))),λds M q x h=>?_⟩)
 ·unfold J6 at h;split at h; · rfl
  ·exact h.elim
 ·unfold J6 at h;split at h
  ·rename_i a b;refine ⟨λm ρ M'=>M'=M/\∃(x y:Int) (r:Option Dt),ρ=[some (.int a),some (.int b),some (.int x),some (.int y),r]/\0<=x/\0<=y/\g x y=g a b/\m=y.toNat,⟨_,rfl,_,_,_,rfl,by split <;> omega,by split <;> omega,N_ a b,rfl⟩,?_⟩;rintro m ρ M' ⟨rfl,x,y,r,rfl,hx,hy,e,rfl⟩;refine ⟨λhb=>?_,λhb=>?_⟩
   ·have Md:y≠0:=by simpa using hb
    refine ⟨_,λρ' M2 h2=>h2,?_⟩;refine ⟨by omega,(x%y).toNat,?_,rfl,y,x%y,_,rfl,hy,aaV _ Md,?_,rfl⟩
    ·have:=aaQ x (show 0<y by omega);have:=aaV x Md;omega
    ·rw [<-abC x hy,IA (by omega)];exact e
   ·have Md:y=0:=by simpa using hb
    subst Md;rw [Jd hx] at e;subst e;exact h
  ·exact h.elim
theorem FN{i j:Int}(h:iL j)(l:i.natAbs<=j.natAbs):iL i:=aaM l h
def sX:DF:=λds M q _=>match ds with
 |[.int t,.int b]=>iL b/\(b=0->False)/\(b≠0->q (.tup [.int (aq t b).1,.int (aq t b).2]) M)
 |_=>False
theorem mQ:Δ ["top","bottom","divisor"] ["top","bottom"] (τ oR):= .of rfl
theorem Ar{f:Addr}{fd:FuncData}(F:cJ K "fraction" "fraction" oR f fd)(E:Ev K mg w Cm){hG:Addr}{gQ:FuncData}(bF:aw P w K mg base 1 "common_divisor" ["one","other"] J6 hG gQ):ah P w K mg base (bU P w) 2 f fd ["top","bottom"] (cC K sX):=by
 refine F.df mQ (λds M q x h=>?_) (λaT A outer s H E' hr=>⟨_,(η (aH (e6 hr (jv 1) ω) (μ fL) Φ)
   (η (Γ 2 mQ.nd (ag bF hr ξ (Υ (jv 0) (Υ (jv 1) θ))))
   (η (lY (aH (vp (jv 1) ω) (μ (Γ 2 mQ.nd (Ot (jv 2)))) Φ))
   (μ (Ε (c7 (ι (CT (jv 0) (jv 2)) (ι (CT (jv 1) (jv 2)) θ (hs:=bV)) (hs:=bV)))))))),λds M q x h=>?_⟩)
 ·unfold sX at h;split at h; · rfl
  ·exact h.elim
 ·unfold sX at h;split at h
  ·rename_i t b;obtain ⟨hB,h0,h1⟩:=h;refine ⟨λhb=>?_,λhb=>?_⟩
   ·exact h0 (by simpa using hb)
   ·have Lm:b≠0:=by simpa using hb
    refine ⟨λρ M'=>M'=M/\ρ=[some (.int t),some (.int b),some (.int (dv t b))],⟨λhn=>?_,λhn=>?_⟩,?_⟩
    ·have Uv:b<0:=by simpa using hn
     exact ⟨rfl,by unfold dv;rw [if_pos Uv];rfl⟩
    ·have Uv:¬b<0:=by simpa using hn
     exact ⟨rfl,by unfold dv;rw [if_neg Uv];rfl⟩
    ·rintro ρ M' ⟨rfl,rfl⟩;have hd:=Dv (t:=t) Lm;have hbd:iL (dv t b):=FN hB (xC Lm);exact ⟨⟨hd,hbd⟩,⟨hd,hbd⟩,(by show 2<=sizeLine;decide),h1 Lm⟩
  ·exact h.elim
abbrev Fr:=Int×Int
def Τ(p:Fr):Dt:= .tup [.int p.1,.int p.2]
def aX(p:Fr):Bool:=decide ((if p.1<0 then -p.1 else p.1)<=10^30)&&decide (p.2<=1000000)
def tW:DF:=λds M q _=>∃p,ds=[Τ p]/\q (.bl (aX p)) M
theorem Gw:Δ ["pay"] ["pay"] (τ sT):= .of rfl
theorem Ck{f:Addr}{fd:FuncData}(F:cJ K "fits_pay" "fits_pay" sT f fd)(E:Ev K mg w Cm):ah P w K mg base (bU P w) 1 f fd ["pay"] (cC K tW):=by
 refine F.df Gw (λds M q x h=>?_) (λaT A outer s H E' hr=>⟨_,(μ (Ε (iy (Ac (EA E.qX (ι (Ν (jv 0) ω) θ (hs:=aV))) (i5 ω ω)) (j6 (Ac (Ν (jv 0) ω) (tI E.ji)))))),λds M q x h=>?_⟩)
 ·obtain ⟨p,rfl,_⟩:=h;rfl
 ·obtain ⟨p,rfl,h⟩:=h;refine ⟨⟨by decide,by decide,by decide⟩,λh1=>?_,λh1=>?_⟩
  ·have e:aX p=decide (p.2<=1000000):=by unfold aX;rw [show decide ((if p.1<0 then -p.1 else p.1)<=10^30)=true from h1];rfl
   rw [e] at h;exact h
  ·have e:aX p=false:=by unfold aX;rw [show decide ((if p.1<0 then -p.1 else p.1)<=10^30)=false from h1];rfl
   rw [e] at h;exact h
theorem qL{M:Ms}{d:Dt}{xs:List Dt}{ok:Ms->Prop}(h:kY M d=some (xs,ok)):ok M:=by
 cases d with
 |lst ds=>cases h;trivial
 |kj ns=>cases h;trivial
 |loc k=>
  have h:(match M[k]? with|some (.lst xs)=>some (xs,λM':Ms=>M'[k]? =some (.lst xs))|_=>none)=some (xs,ok):=h;split at h
  ·rename_i ys hm;cases h;exact hm
  ·cases h
 |_=>cases h
theorem sQ{M:Ms}{d:Dt}{xs:List Dt}{ok:Ms->Prop}(h:kY M d=some (xs,ok)):qg M d=some (xs,ok):=by
 cases d with
 |lst ds=>cases h;rfl
 |kj ns=>cases h;rfl
 |loc k=>exact h
 |_=>cases h
theorem d_{i:Nat}{ρ:En}{M:Ms}{d:Dt}{xs:List Dt}{ok:Ms->Prop}{q:List Dt->(Ms->Prop)->Ms->Prop}{x:DX}(hv:ρ[i]? =some (some d))(hl:kY M d=some (xs,ok))(h:q xs ok M):e_ (yp i) ρ M q x:=by unfold e_ yp;rw [hv];show (match qg M d with|some (xs,ok)=>q xs ok M|none=>False);rw [sQ hl];exact h
theorem bg{n:Int}{k:Nat}(h:n.natAbs<2^k)(hk:k<=8000:=by decide):iL n:=aat h (abU (by decide) hk)
def aF(t:Int)(p:Fr)(size:Int):Bool:=decide (0<=t)&&(decide (t<size)&&aX p)
def vT:DF:=λds M q _=>∃t p r size,ds=[.tup (.int t::Τ p::r),.int size]/\q (.bl (aF t p size)) M
theorem By:Δ ["door","size"] ["door","size"] (τ o7):= .of rfl
theorem AV{f:Addr}{fd:FuncData}(F:cJ K "fits_door" "fits_door" o7 f fd)(E:Ev K mg w Cm){r9:Addr}{rE:FuncData}(gB:aw P w K mg base 1 "fits_pay" ["pay"] tW r9 rE):ah P w K mg base (bU P w) 2 f fd ["door","size"] (cC K vT):=by
 refine F.df By (λds M q x h=>?_) (λaT A outer s H E' hr=>⟨_,(μ (Ε (iy (Ac ω (Ν (jv 0) ω)) (iy (Ni (Ν (jv 0) ω) (jv 1)) (j6 (ag gB hr ξ (ι (Ν (jv 0) ω) θ (hs:=aV)))))))),λds M q x h=>?_⟩)
 ·obtain ⟨t,p,r,size,rfl,_⟩:=h;rfl
 ·obtain ⟨t,p,r,size,rfl,h⟩:=h;walk_at "vc";refine Ι rfl bq ?_;refine ⟨λh1=>?_,λh1=>?_⟩
  ·refine Ι rfl bq ⟨λh2=>?_,λh2=>?_⟩
   ·refine Ι rfl (Θ (j:=1) rfl) ⟨p,rfl,?_⟩;have e:aF t p size=aX p:=by unfold aF;rw [h1,h2];rfl
    rw [<-e];exact h
   ·have e:aF t p size=false:=by unfold aF;rw [h1,h2];rfl
    rw [<-e];exact h
  ·have e:aF t p size=false:=by unfold aF;rw [h1];rfl
   rw [<-e];exact h
abbrev bI:=Int×Fr×List Fr
def dt(d:bI):Dt:= .tup (.int d.1::Τ d.2.1::d.2.2.map Τ)
def Λ(ds:List bI)(size:Int):Bool:=decide (1<=ds.length)&&decide (ds.length<=6)&&ds.all λd=>aF d.1 d.2.1 size
def rP:DF:=λas M q _=>∃d size ds ok,as=[d,.int size]/\kY M d=some (ds.map dt,ok)/\ds.length<=100/\q (.bl (Λ ds size)) M
theorem qe:Δ ["doors","size"] ["doors","size"] (τ mV):= .of rfl
theorem yH{f:Addr}{fd:FuncData}(F:cJ K "fits_doors" "fits_doors" mV f fd)(E:Ev K mg w Cm){Fu:Addr}{EZ:FuncData}(mi:aw P w K mg base 2 "fits_door" ["door","size"] vT Fu EZ):ah P w K mg base (bU P w) 3 f fd ["doors","size"] (cC K rP):=by
 refine F.df qe (λds M q x h=>?_) (λaT A outer s H E' hr=>⟨_,(η (aH (JW.jt (lN (vp (c8 E.bX (Υ (jv 0) θ)) ω) (kO (ES (c8 E.bX (Υ (jv 0) θ)) (tI E.qh))))) (μ (Ε Ht)) Φ)
   (μ (Ε (Up E.Ed (ι (fA (ys:=["size"]) (ae:=[1]) (.of qe rfl rfl rfl) (bf (jv 0)) (λC s H fp=>(ag mi hr (fB (P:=P) (w:=w)) (Υ (jv 0) (Υ (jv 1) θ))))) θ))))),λds M q x h=>?_⟩)
 ·obtain ⟨d,size,ds,ok,rfl,_⟩:=h;rfl
 ·obtain ⟨d,size,ds,ok,rfl,hl,hz,h⟩:=h;have hs:=nM hl;walk_at "vc";refine aE hs ⟨λh1=>?_,λh1=>?_⟩
  ·refine ⟨λ_=>?_,λz=>(nomatch z)⟩;have e:Λ ds size=false:=by
    have:(ds.length:Int)<1:=by simpa using h1
    unfold Λ;rw [decide_eq_false (by omega)];rfl
   rw [<-e];exact h
  ·have h1:¬(ds.length:Int)<1:=by simpa using h1
   refine aE hs ⟨λh2=>?_,λh2=>?_⟩
   ·have e:Λ ds size=false:=by
     have:6<(ds.length:Int):=by simpa using h2
     unfold Λ;rw [decide_eq_false (p:=ds.length<=6) (by omega),Bool.and_false];rfl
    rw [<-e];exact h
   ·have h2:¬6<(ds.length:Int):=by simpa using h2
    refine d_ rfl hl ⟨by rw [aac];exact aap hz (by decide),?_⟩;refine gx (f:=λd=> .bl (match d with|.tup (.int t:: .tup [.int a,.int b]::_)=>aF t (a,b) size|_=>false)) (qL hl) (λx hx q hq=>?_) ?_
    ·obtain ⟨y,_,rfl⟩:=aag.mp hx;exact ⟨y.1,y.2.1,y.2.2.map Τ,size,rfl,hq⟩
    ·refine ⟨ds.map λd=>aF d.1 d.2.1 size,?_,?_⟩
     ·rw [aau,aaF,aau];rfl
     ·have e:Λ ds size=(ds.map λd=>aF d.1 d.2.1 size).all id:=by unfold Λ;rw [decide_eq_true (show 1<=ds.length by omega),decide_eq_true (show ds.length<=6 by omega),List.all_map];rfl
      rw [<-e];exact h
def bD(cs:List Fr):Int:=cs.foldl (λb c=>b*c.2/g b c.2) 1
theorem nI{b c:Int}(hb:0<b)(hc:0<c):0<b*c/g b c/\b*c/g b c<=b*c/\0<g b c/\g b c<=c:=by
 have hg:0<g b c:=vU (by omega);have hbc:0<b*c:=aaE hb hc;have hd:g b c∣c:=Int.gcd_dvd_right ..;have hle:g b c<=c:=abS hc hd;have h1:c<=b*c:=by have:=aaD (show 1<=b by omega) (show 0<=c by omega);simpa using this
 refine ⟨Int.ediv_pos_of_pos_of_dvd hbc (by omega) (Int.dvd_mul_of_dvd_right hd),?_,hg,hle⟩;exact abX _ (by omega)
def Qp(cs:List Fr):Prop:=cs.length<=12/\∀c∈cs,0<c.2/\c.2<2^200/\c.1.natAbs<2^200
def OkB(cs:List Fr):Prop:=cs.length<=13/\∀c∈cs,0<c.2/\c.2<2^200
theorem pe:∀(cs:List Fr) (b:Int) (k:Nat),0<b->b<=2^(200*k)->(∀c∈cs,0<c.2/\c.2<2^200)->0<cs.foldl (λb c=>b*c.2/g b c.2) b/\cs.foldl (λb c=>b*c.2/g b c.2) b<=2^(200*(k+cs.length))
 |[],b,k,h0,h1,_=>⟨h0,h1⟩
 |c::cs,b,k,h0,h1,hc=>by
  obtain ⟨c0,c1⟩:=hc c aae;obtain ⟨s0,s1,_⟩:=nI h0 c0;have hlt:b*c.2/g b c.2<=2^(200*(k+1)):=by refine abm s1 ?_;rw [show 200*(k+1)=200*k+200 by omega,Int.pow_add];exact abr h1 (aaj c1) (aaj c0) (aaj (Int.pow_pos (by decide)))
  have:=pe cs _ (k+1) s0 hlt λd hd=>hc d (aad _ hd);rw [aaW,aax,show k+(cs.length+1)=k+1+cs.length by omega];exact this
theorem Tn{n:Int}{k:Nat}(h0:0<=n)(h:n<=2^k)(hk:k<8000):iL n:=by
 refine bg (k:=k+1) ?_ hk;have:(n.natAbs:Int)<((2^(k+1):Nat):Int):=by rw [aa8 h0,Int.natCast_pow,abD];have:(0:Int)<2^k:=Int.pow_pos (by decide);show n<2^k*2;omega
 exact abE.mp this
theorem fD:∀(cs:List Fr) (b:Int),0<b->(∀c∈cs,0<c.2)->0<cs.foldl (λb c=>b*c.2/g b c.2) b
 |[],_,h0,_=>h0
 |c::cs,b,h0,hc=>fD cs _ (nI h0 (hc c aae)).1 λd hd=>hc d (aad _ hd)
theorem qu{n:Int}{k:Nat}(h0:0<=n)(h:n<2^k)(hk:k<=8000):iL n:=by
 refine bg (k:=k) ?_ hk;have:(n.natAbs:Int)<((2^k:Nat):Int):=by rw [aa8 h0,Int.natCast_pow];exact h
 exact abE.mp this
def iK:DF:=λds M q _=>∃cs:List Fr,ds=[.lst (cs.map Τ)]/\OkB cs/\q (.int (bD cs)) M
theorem eQ:Δ ["chances","bottom","chance"] ["chances"] (τ iC):= .of rfl
theorem qC{f:Addr}{fd:FuncData}(F:cJ K "common_bottom" "common_bottom" iC f fd)(E:Ev K mg w Cm){hG:Addr}{gQ:FuncData}(bF:aw P w K mg base 1 "common_divisor" ["one","other"] J6 hG gQ):ah P w K mg base (bU P w) 2 f fd ["chances"] (cC K iK):=by
 refine F.df eQ (λds M q x h=>?_) (λaT A outer s H E' hr=>⟨_,(η (Γ 1 eQ.nd ω)
   (η (dF (bf (jv 0)) (aD (i:=2) eQ.nd rfl (Or.inl rfl)) ba (μ (Γ 1 eQ.nd (kK (aR (jv 1) (Ν (jv 2) ω)) (ag bF hr ξ (Υ (jv 1) (ι (Ν (jv 2) ω) θ (hs:=aV))))))))
   (μ (Ε (jv 1))))),λds M q x h=>?_⟩)
 ·obtain ⟨cs,rfl,_⟩:=h;rfl
 ·obtain ⟨cs,rfl,⟨hz,hc⟩,h⟩:=h;walk_at "vc";refine d_ (i:=0) rfl rfl ?_;refine cc (λxs ρ M'=>M'=M/\∃gC rest r,cs=gC++rest/\xs=rest.map Τ/\ρ=[some (.lst (cs.map Τ)),some (.int (bD gC)),r]) (λ_ _ _ _=>trivial) (λx xs ρ M' hj ir=>?_) (λρ M' hj=>?_) _ _ _ ⟨rfl,[],cs,none,rfl,rfl,rfl⟩
  ·obtain ⟨rfl,gC,rest,r,e,ex,rfl⟩:=hj;cases rest with
   |nil=>cases ex
   |cons c rest=>
    cases ex;have hd:∀d∈gC,0<d.2/\d.2<2^200:=λd hd=>by obtain ⟨a,b⟩:=hc d (by rw [e];exact List.mem_append_left _ hd);exact ⟨a,b⟩
    obtain ⟨c0,c1⟩:=hc c (by rw [e];exact aaz _ aae);obtain ⟨b0,b1⟩:=pe gC 1 0 (by decide) (by decide) hd;have hl:gC.length<=13:=by have:=congrArg List.length e;rw [aah] at this;omega
    obtain ⟨s0,s1,g0,g1⟩:=nI b0 c0;refine ⟨⟨Tn (aaj b0) b1 (by omega),qu (aaj c0) c1 (by decide)⟩,⟨g0,qu (aaj g0) (aaB g1 c1) (by decide)⟩,?_⟩;refine ir _ _ ⟨rfl,gC++[c],rest,some (Τ c),by rw [e];simp,rfl,?_⟩;have e2:bD (gC++[c])=bD gC*c.2/g (bD gC) c.2:=by unfold bD;rw [List.foldl_append];rfl
    rw [e2];rfl
  ·obtain ⟨rfl,gC,rest,r,e,ex,rfl⟩:=hj;cases rest with
   |nil=>rw [aaZ] at e;subst e;exact h
   |cons c rest=>cases ex
def Ω(cs:List Fr):Bool:= !(cs.any λc=>decide (c.1<=0))&&(decide ((cs.map λc=>c.1*(bD cs/c.2)).sum=bD cs)&&decide (bD cs<=1000000))
def nC:DF:=λds M q _=>∃cs:List Fr,ds=[.lst (cs.map Τ)]/\Qp cs/\q (.bl (Ω cs)) M
theorem dq:Δ ["chances","bottom","whole"] ["chances"] (τ jz):= .of rfl
theorem rN{f:Addr}{fd:FuncData}(F:cJ K "fits_chances" "fits_chances" jz f fd)(E:Ev K mg w Cm){iE:Addr}{iB:FuncData}(cf:aw P w K mg base 2 "common_bottom" ["chances"] iK iE iB):ah P w K mg base (bU P w) 3 f fd ["chances"] (cC K nC):=by
 refine F.df dq (λds M q x h=>?_) (λaT A outer s H E' hr=>⟨_,(η (aH (cq (Ub E.DH (ι (fA (ys:=[]) (ae:=[]) (.of dq rfl rfl rfl) (bf (jv 0)) (λC s H fp=>(Ac (Ν (jv 0) ω) ω))) θ))) (μ (Ε Ht)) Φ)
   (η (Γ 1 dq.nd (ag cf hr ξ (Υ (jv 0) θ)))
   (η (Γ 2 dq.nd (OE E.zt (ι (fA (ys:=["bottom"]) (ae:=[1]) (.of dq rfl rfl rfl) (bf (jv 0)) (λC s H fp=>(aR (Ν (jv 0) ω) (kK (jv 1) (Ν (jv 0) ω))))) θ)))
   (μ (Ε (iy (Io hr (jv 2) (jv 1)) (j6 (Ac (jv 1) (tI E.ji))))))))),λds M q x h=>?_⟩)
 ·obtain ⟨cs,rfl,_⟩:=h;rfl
 ·obtain ⟨cs,rfl,Lp,h⟩:=h;obtain ⟨hz,hc⟩:=id Lp;have hz2:(cs.map Τ).length<=sizeLine:=by rw [aac];exact aap hz (by decide)
  obtain ⟨b0,b1⟩:=pe cs 1 0 (by decide) (by decide) λc h=>⟨(hc c h).1,(hc c h).2.1⟩;walk_at "vc";refine d_ (i:=0) rfl rfl ⟨hz2,?_⟩;refine gx (f:=λd=> .bl (match d with|.tup [.int a,.int b]=>decide (a<=0)|_=>false)) trivial (λx hx q hq=>?_) ?_
  ·obtain ⟨y,_,rfl⟩:=aag.mp hx;exact hq
  ·refine ⟨cs.map λc=>decide (c.1<=0),by rw [aau,aaF,aau];rfl,λ_ z=>(nomatch z),λ_ z=>(nomatch z),?_⟩;have ea:(cs.map λc=>decide (c.1<=0)).any id=cs.any λc=>decide (c.1<=0):=by rw [List.any_map];rfl
   rw [ea];refine ⟨λh1=>?_,λh1=>?_⟩
   ·have e:Ω cs=false:=by unfold Ω;rw [h1];rfl
    rw [<-e];exact h
   ·refine ⟨cs,rfl,⟨by omega,λc h=>⟨(hc c h).1,(hc c h).2.1⟩⟩,?_⟩;walk_at "vc";refine d_ (i:=0) rfl rfl ⟨hz2,?_⟩;refine gx (f:=λd=> .int (match d with|.tup [.int a,.int b]=>a*(bD cs/b)|_=>0)) trivial (λx hx q hq=>?_) ?_
    ·obtain ⟨y,hy,rfl⟩:=aag.mp hx;obtain ⟨y0,y1,y2⟩:=hc y hy;refine ⟨⟨y0,qu (aaj y0) y1 (by decide)⟩,⟨bg y2,?_⟩,hq⟩;refine Tn (k:=200*(0+cs.length)) (Int.ediv_nonneg (aaj b0) (aaj y0)) (abm (abX _ (aaj b0)) b1) (by omega)
    ·refine ⟨cs.map λc=>c.1*(bD cs/c.2),by rw [aau,aaF,aau];rfl,⟨_,_,rfl⟩,?_⟩;refine ⟨λh2=>?_,λh2=>?_⟩
     ·have e:Ω cs=decide (bD cs<=1000000):=by unfold Ω;rw [h1,h2];rfl
      rw [e] at h;exact h
     ·have e:Ω cs=false:=by unfold Ω;rw [h1,h2];rfl
      rw [<-e];exact h
inductive Rw where
 |fin (p:Fr)
 |ο (k:Str) (ds:List bI)
def υ(d:bI):Fr:=d.2.2.headD (0,1)
def eJ:Rw->Prop
 |.fin p=>0<p.2
 |.ο k ds=>k≠"end"/\ds.length<=12/\(k="chance"->(∀d∈ds,d.2.2=[υ d])/\Qp (ds.map υ))/\∀d∈ds,d.2.2.length<=1/\0<d.2.1.2
def jN(M:Ms)(d:Dt):Rw->Prop
 |.fin p=>d= .tup [.str "end",Τ p]
 |.ο k ds=>∃e ok,d= .tup [.str k,e]/\kY M e=some (ds.map dt,ok)
def aS:Rw->Dt
 |.fin p=> .tup [.str "end",Τ p]
 |.ο k ds=> .tup [.str k,.lst (ds.map dt)]
theorem wa(M:Ms)(r:Rw):jN M (aS r) r:=by
 cases r with
 |fin p=>rfl
 |ο k ds=>exact ⟨_,_,rfl,rfl⟩
theorem kq{n:Nat}(p:Fr):(Τ p).under n:=⟨trivial,trivial,trivial⟩
theorem Dx{n:Nat}:∀(ps:List Fr),Dt.bC n (ps.map Τ)
 |[]=>trivial
 |p::ps=>⟨kq p,Dx ps⟩
theorem Ri{n:Nat}(d:bI):(dt d).under n:=⟨trivial,kq _,Dx _⟩
theorem fY{n:Nat}:∀(ds:List bI),Dt.bC n (ds.map dt)
 |[]=>trivial
 |d::ds=>⟨Ri d,fY ds⟩
theorem Em{n:Nat}(r:Rw):(aS r).under n:=by
 cases r with
 |fin p=>exact ⟨trivial,kq p,trivial⟩
 |ο k ds=>exact ⟨trivial,fY ds,trivial⟩
theorem nQ{n:Nat}:∀(rs:List Rw),Dt.bC n (rs.map aS)
 |[]=>trivial
 |r::rs=>⟨Em r,nQ rs⟩
def χ(k:Str):Bool:=k=="one" || k=="other"
def dD(r:Rw)(size:Int):Bool:=match r with
 |.fin p=>aX p
 |.ο k ds=>if χ k then Λ ds size else if k="chance" then Λ ds size&&Ω (ds.map υ) else false
theorem zW{i:Nat}{j:Int}{ρ:En}{M:Ms}{d:Dt}{ds xs:List Dt}{ok:Ms->Prop}{q:List Dt->(Ms->Prop)->Ms->Prop}{x:DX}(hv:ρ[i]? =some (some (.tup ds)))(hj:oJ ds j=some d)(hl:kY M d=some (xs,ok))(h:q xs ok M):e_ (lj fV (yp i) (dC (.int j))) ρ M q x:=by unfold e_ lj yp;rw [hv];show fV (.tup ds) (.int j) M (λd M1=>match qg M1 d with|some (xs,ok)=>q xs ok M1|none=>False);refine Ι rfl hj ?_;show (match qg M d with|some (xs,ok)=>q xs ok M|none=>False);rw [sQ hl];exact h
theorem s_{k:Str}:Q7 (.str k) [.str "one",.str "other"]=χ k:=by show ((("one":Str)==k) || ((("other":Str)==k) || false))=(k=="one" || k=="other");rw [Bool.or_false,BEq.comm (a:=("one":Str)),BEq.comm (a:=("other":Str))]
def zb:DF:=λas M q _=>∃d r size,as=[d,.int size]/\jN M d r/\eJ r/\q (.bl (dD r size)) M
theorem oE:Δ ["row","size","kind"] ["row","size"] (τ rV):= .of rfl
theorem C7 {f:Addr}{fd:FuncData}(F:cJ K "fits_row" "fits_row" rV f fd) (E:Ev K mg w Cm) {r9:Addr}{rE:FuncData}(gB:aw P w K mg base 1 "fits_pay" ["pay"] tW r9 rE) {Bt:Addr}{CY:FuncData}(hZ:aw P w K mg base 3 "fits_doors" ["doors","size"] rP Bt CY) {wu:Addr}{yw:FuncData}(iM:aw P w K mg base 3 "fits_chances" ["chances"] nC wu yw):ah P w K mg base (bU P w) 4 f fd ["row","size"] (cC K zb):=by
 refine F.df oE (λds M q x h=>?_) (λaT A outer s H E' hr=>⟨_,(η (Γ 2 oE.nd (Ν (jv 0) ω))
   (η (aH (e6 hr (jv 2) jI) (μ (Ε (ag gB hr ξ (ι (Ν (jv 0) ω) θ (hs:=aV))))) Φ)
   (η (aH (HD (jv 2) (Ks E.xi)) (μ (Ε (ag hZ hr ξ (ι (Ν (jv 0) ω) (Υ (jv 1) θ) (hs:=aV))))) Φ)
   (η (aH (e6 hr (jv 2) jI) (μ (Ε (iy (ag hZ hr ξ (ι (Ν (jv 0) ω) (Υ (jv 1) θ) (hs:=aV))) (j6 (ag iM hr ξ (ι (fA (ys:=[]) (ae:=[]) (.of oE rfl rfl rfl) (bf (Ν (jv 0) ω)) (λC s H fp=>(Ν (jv 0) ω))) θ)))))) Φ)
   (μ (Ε Ht)))))),λds M q x h=>?_⟩)
 ·obtain ⟨d,r,size,rfl,_⟩:=h;rfl
 ·obtain ⟨d,r,size,rfl,ra,ro,h⟩:=h;cases r with
  |fin p=>
   have ra:d= .tup [.str "end",Τ p]:=ra;subst ra;exact ⟨λ_=>⟨p,rfl,h⟩,λz=>(nomatch z)⟩
  |ο k ds=>
   obtain ⟨e,ok,rfl,hl⟩:=ra;obtain ⟨hk,hz,A',_⟩:=ro;refine ⟨λz=>absurd (of_decide_eq_true z) hk,λ_=>?_⟩;refine ⟨.str k,[.str "one",.str "other"],[.str "one",.str "other"],rfl,rfl,rfl,?_⟩;rw [s_];refine ⟨λh1=>?_,λh1=>?_⟩
   ·refine ⟨e,size,ds,ok,rfl,hl,by omega,?_⟩;have e1:dD (.ο k ds) size=Λ ds size:=by show (if χ k then _ else _)=_;rw [if_pos h1]
    rw [<-e1];exact h
   ·have e1:dD (.ο k ds) size=if k="chance" then Λ ds size&&Ω (ds.map υ) else false:=by show (if χ k then _ else _)=_;rw [if_neg (by rw [h1];decide)]
    rw [e1] at h;refine ⟨λh2=>?_,λh2=>?_⟩
    ·have h2:k="chance":=of_decide_eq_true h2;rw [if_pos h2] at h;obtain ⟨Mb,Lp⟩:=A' h2;refine ⟨e,size,ds,ok,rfl,hl,by omega,λh3=>?_,λh3=>?_⟩
     ·rw [h3,Bool.true_and] at h;show e_ _ _ _ _ _;refine zW (i:=0) (j:=1) (ds:=[.str k,e]) rfl (Θ (j:=1) rfl) hl ⟨by rw [aac];exact aap hz (by decide),?_⟩;refine gx (f:=λd=>match d with|.tup [_,_,c]=>c|_=> .bw) (qL hl) (λx hx q hq=>?_) ?_
      ·obtain ⟨y,hy,rfl⟩:=aag.mp hx;have ey:dt y= .tup [.int y.1,Τ y.2.1,Τ (υ y)]:=by unfold dt;rw [Mb y hy];rfl
       rw [ey] at hq⊢;exact hq
      ·refine ⟨ds.map υ,?_,Lp,h⟩;rw [aaF,aau,aau];have:∀y∈ds,((λd=>match d with|Dt.tup [_,_,c]=>c|_=>Dt.bw) ∘ dt) y=(Τ ∘ υ) y:=λy hy=>by
        have ey:dt y= .tup [.int y.1,Τ y.2.1,Τ (υ y)]:=by unfold dt;rw [Mb y hy];rfl
        show (match dt y with|Dt.tup [_,_,c]=>c|_=>Dt.bw)=Τ (υ y);rw [ey]
       rw [aaO this]
     ·rw [h3,Bool.false_and] at h;exact h
    ·have h2:k≠"chance":=of_decide_eq_false h2;rw [if_neg h2] at h;exact h
def mY:DF:=λas M q _=>∃d r,as=[d]/\jN M d r/\eJ r/\match r with
 |.fin p=>q (.tup [.str "end",Τ p]) M
 |.ο k ds=>q (.tup [.str k,.loc M.length]) (M++[.lst (ds.map dt)])
theorem za:Δ ["row"] ["row"] (τ lV):= .of rfl
theorem yE{f:Addr}{fd:FuncData}(F:cJ K "copied_row" "copied_row" lV f fd)(E:Ev K mg w Cm):ah P w K mg base (bU P w) 1 f fd ["row"] (cC K mY):=by
 refine F.df za (λds M q x h=>?_) (λaT A outer s H E' hr=>⟨_,(η (aH (e6 hr (Ν (jv 0) ω) jI) (μ (Ε (c7 (ι (Ν (jv 0) ω) (ι (Ν (jv 0) ω) θ (hs:=aV)) (hs:=aV))))) Φ)
   (μ (Ε (c7 (ι (Ν (jv 0) ω) (ι (xZ E.kC (ι (Ν (jv 0) ω) θ (hs:=aV))) θ (hs:=aQ)) (hs:=aV)))))),λds M q x h=>?_⟩)
 ·obtain ⟨d,r,rfl,_⟩:=h;rfl
 ·obtain ⟨d,r,rfl,ra,ro,h⟩:=h;cases r with
  |fin p=>
   have ra:d= .tup [.str "end",Τ p]:=ra;subst ra;exact ⟨λ_=>⟨by show 2<=sizeLine;decide,h⟩,λz=>(nomatch z)⟩
  |ο k ds=>
   obtain ⟨e,ok,rfl,hl⟩:=ra;refine ⟨λz=>absurd (of_decide_eq_true z) ro.1,λ_=>?_⟩;show (match kU M e with|some xs=>_|none=>False);rw [nM hl];exact ⟨by show 2<=sizeLine;decide,h⟩
def aM(p:Fr):Bool:=decide (0<=p.1)&&(decide (p.1<p.2)&&decide (p.2<=1000))
def sP:DF:=λas M q _=>∃p,as=[Τ p]/\q (.bl (aM p)) M
theorem yR:Δ ["share"] ["share"] (τ mJ):= .of rfl
theorem xf{f:Addr}{fd:FuncData}(F:cJ K "fits_share" "fits_share" mJ f fd)(E:Ev K mg w Cm):ah P w K mg base (bU P w) 1 f fd ["share"] (cC K sP):=by
 refine F.df yR (λds M q x h=>?_) (λaT A outer s H E' hr=>⟨_,(μ (Ε (iy (Ac ω (Ν (jv 0) ω)) (iy (Ni (Ν (jv 0) ω) (Ν (jv 0) ω)) (j6 (Ac (Ν (jv 0) ω) (tI E.g9))))))),λds M q x h=>?_⟩)
 ·obtain ⟨p,rfl,_⟩:=h;rfl
 ·obtain ⟨p,rfl,h⟩:=h;unfold aM at h;refine ⟨λh1=>⟨λh2=>?_,λh2=>?_⟩,λh1=>?_⟩
  ·rw [show decide (0<=p.1)=true from h1,show decide (p.1<p.2)=true from h2] at h;exact h
  ·rw [show decide (0<=p.1)=true from h1,show decide (p.1<p.2)=false from h2] at h;exact h
  ·rw [show decide (0<=p.1)=false from h1] at h;exact h
theorem NQ{b c S:Int}(hb:b∣S)(hc:c∣S)(Lm:0<b)(hc0:0<c):b*c/g b c∣S/\b∣b*c/g b c/\c∣b*c/g b c:=by
 have e:b*c/g b c=(Int.lcm b c:Nat):=by
  have h:=Int.gcd_mul_lcm b c;have hg:0<g b c:=vU (by omega);have h2:((Int.gcd b c:Nat):Int)*((Int.lcm b c:Nat):Int)=b*c:=by rw [<-Int.natCast_mul,h,Int.natCast_mul,aa8 (aaj Lm),aa8 (aaj hc0)]
  rw [<-h2];exact Int.mul_ediv_cancel_left _ (by unfold g at hg;omega)
 rw [e];exact ⟨Int.coe_lcm_dvd hb hc,Int.dvd_lcm_left ..,Int.dvd_lcm_right ..⟩
theorem jd:∀(cs:List Fr) (b S:Int),0<b->b∣S->(∀c∈cs,0<c.2/\c.2∣S)->cs.foldl (λb c=>b*c.2/g b c.2) b∣S/\b∣cs.foldl (λb c=>b*c.2/g b c.2) b/\∀c∈cs,c.2∣cs.foldl (λb c=>b*c.2/g b c.2) b
 |[],b,S,_,h,_=>⟨h,Int.dvd_refl b,λc hc=>nomatch hc⟩
 |c::cs,b,S,h0,h,hc=>by
  obtain ⟨c0,cS⟩:=hc c aae;obtain ⟨d1,d2,d3⟩:=NQ h cS h0 c0;obtain ⟨i1,i2,i3⟩:=jd cs _ S (nI h0 c0).1 d1 λx hx=>hc x (aad _ hx);rw [aaW];refine ⟨i1,Int.dvd_trans d2 i2,λx hx=>?_⟩;rcases aaC.mp hx with rfl|hx
  ·exact Int.dvd_trans d3 i2
  ·exact i3 x hx
theorem p8(m:Int)(f:Int->Int):∀(ws:List Int),(ws.map λw=>m*f w).sum=m*(ws.map f).sum
 |[]=>by simp
 |w::ws=>by simp only [List.map_cons,List.sum_cons];rw [p8 m f ws,Int.mul_add]
theorem AZ{t b:Int}(h:0<b):(aq t b).2∣b:=by obtain ⟨p,q,e,_,_,_,eb⟩:=gy (t:=t) (show b≠0 by omega);rw [e];exact ⟨dv t b,by show b=q*dv t b;rw [aaU];exact eb⟩
theorem y_{t b:Int}(ht:0<t)(h:0<b):0<(aq t b).1:=by have hc:=cv (t:=t) (show b≠0 by omega);have hp:=bK (t:=t) (show b≠0 by omega);have h1:0<t*(aq t b).2:=aaE ht hp;rw [hc] at h1;exact Int.pos_of_mul_pos_right h1 h |> λz=>z
theorem CN{ws:List Int}{S:Int}(hS:ws.sum=S)(hw:∀w∈ws,0<w)(hn:ws≠[])(hS1:S<=1000000)(hz:ws.length<=12):Ω (ws.map λw=>aq w S)=true/\Qp (ws.map λw=>aq w S):=by
 have pos:∀{l:List Int},(∀w∈l,0<w)->0<=l.sum/\(l≠[]->0<l.sum)/\∀w∈l,w<=l.sum:=by
  intro l
  induction l with
  |nil=>exact λ_=>⟨by simp,λz=>absurd rfl z,λw hw=>nomatch hw⟩
  |cons a l ih=>
   intro h;obtain ⟨i1,i2,i3⟩:=ih λw hw=>h w (aad _ hw);have:=h a aae;rw [List.sum_cons];refine ⟨by omega,λ_=>by omega,λw hw=>?_⟩;rcases aaC.mp hw with rfl|hw
   ·omega
   ·have:=i3 w hw;omega
 obtain ⟨_,p2,p3⟩:=pos hw;have S0:0<S:=by rw [<-hS];exact p2 hn
 have RF:S≠0:=by omega
 have hd:∀c∈ws.map (λw=>aq w S),0<c.2/\c.2∣S:=λc hc=>by obtain ⟨w,_,rfl⟩:=aag.mp hc;exact ⟨bK RF,AZ S0⟩
 obtain ⟨⟨m,hm⟩,_,hB⟩:=jd (ws.map λw=>aq w S) 1 S (by decide) (Int.one_dvd _) hd;have B0:0<bD (ws.map λw=>aq w S):=by refine (fD (ws.map λw=>aq w S) 1 (by decide) λc hc=>(hd c hc).1)
 generalize Yu:bD (ws.map λw=>aq w S)=B at *
 have hm:S=B*m:=by rw [<-Yu];exact hm
 have m0:0<m:=by
  rcases Int.lt_trichotomy m 0 with h|h|h
  ·have:=abG B0 h;omega
  ·rw [h,Int.mul_zero] at hm;omega
  ·exact h
 have key:((ws.map λw=>aq w S).map λc=>c.1*(B/c.2)).sum=B:=by
  have e1:∀w∈ws,m*((aq w S).1*(B/(aq w S).2))=w:=λw hw=>by
   have hb:(aq w S).2∣B:=by rw [<-Yu];exact hB _ (aag.mpr ⟨w,hw,rfl⟩)
   obtain ⟨k,hk⟩:=hb;have q0:=bK (t:=w) RF;have e2:B/(aq w S).2=k:=by rw [hk];exact abe _ (by omega)
   have hc:=cv (t:=w) RF;rw [e2];have hS':S=(aq w S).2*k*m:=by rw [<-hk];exact hm
   generalize (aq w S).1=x at *
   generalize (aq w S).2=y at *
   have e4:S*x=y*(m*(x*k)):=by rw [hS'];simp only [Int.mul_assoc,Int.mul_comm,Int.mul_left_comm]
   have e3:y*(m*(x*k))=y*w:=by rw [<-e4,<-hc,aaU]
   exact aaK (by omega) e3
  have e5:m*((ws.map λw=>aq w S).map λc=>c.1*(B/c.2)).sum=m*B:=by rw [aau];show m*(ws.map λw=>(aq w S).1*(B/(aq w S).2)).sum=m*B;rw [<-p8,aaO e1,List.map_id',hS,hm,aaU]
  exact aaK (by omega) e5
 refine ⟨?_,⟨by rw [aac];exact hz,λc hc=>?_⟩⟩
 ·unfold Ω;rw [Yu,key];have ha:((ws.map λw=>aq w S).any λc=>decide (c.1<=0))=false:=by rw [List.any_eq_false];intro c hc;obtain ⟨w,VI,rfl⟩:=aag.mp hc;have:=y_ (hw w VI) S0;simpa using this
  have hle:B<=S:=by have:=aar (show 1<=m by omega) (aaj B0);rw [Int.mul_one,<-hm] at this;exact this
  rw [ha,decide_eq_true rfl,decide_eq_true (show B<=1000000 by omega)];rfl
 ·obtain ⟨w,VI,rfl⟩:=aag.mp hc;have q0:=bK (t:=w) RF;have l1:=tU (t:=w) RF;have l2:=ku (t:=w) RF;have:=p3 w VI;have w0:=hw w VI;have big:(1000000:Int)<2^200:=by decide
  have adn:1000000<2^200:=by decide
  exact ⟨q0,by omega,by omega⟩
theorem cB{α:Type}{te:DE}{cs:En}{ok:Ms->Prop}{F:Dt->α->Prop}{f:α->Dt}{M:Ms}{k:List Dt->Ms->Prop}(ho:ok M)(ht:∀x a,F x a->∀q:DQ,q (f a) M->te (some x::cs) M q k4):∀{xs:List Dt}{as:List α}{Ζ:List Dt},Paired F xs as->k (Ζ++as.map f) M->nN te cs ok xs Ζ M k
 |_,_,Ζ,.nil,h=>⟨ho,by simpa using h⟩
 |_,_,Ζ,.cons r t,h=>⟨ho,ht _ _ r _ (cB ho ht t (by simpa using h))⟩
theorem ze{M:Ms}{k:Nat}{C C':Addr}{ns ns':List Str}{xs xs':List Dt}{e:Dt}{ys:List Dt}{ok:Ms->Prop}(hk:M[k]? =some (.ins C ns xs))(h:kY M e=some (ys,ok)):kY (M.set k (.ins C' ns' xs')) e=some (ys,ok):=by
 cases e with
 |lst ds=>exact h
 |kj ns=>exact h
 |loc j=>
  have h:(match M[j]? with|some (.lst xs)=>some (xs,λM':Ms=>M'[j]? =some (.lst xs))|_=>none)=some (ys,ok):=h;have ne:k≠j:=λz=>by subst z;rw [hk] at h;cases h
  show (match (M.set k (.ins C' ns' xs'))[j]? with|some (.lst xs)=>some (xs,λM':Ms=>M'[j]? =some (.lst xs))|_=>none)=some (ys,ok);rw [abw ne];exact h
 |_=>cases h
theorem Hg{M:Ms}{k:Nat}{C C':Addr}{ns ns':List Str}{xs xs':List Dt}{d:Dt}{r:Rw}(hk:M[k]? =some (.ins C ns xs))(h:jN M d r):jN (M.set k (.ins C' ns' xs')) d r:=by
 cases r with
 |fin p=>exact h
 |ο k' ds=>
  obtain ⟨e,ok,h1,h2⟩:=h;exact ⟨e,ok,h1,ze hk h2⟩
theorem Gu{C:Addr}{f:Str}{i:Nat}{ρ:En}{M:Ms}{d v:Dt}{ns:List Str}{ds xs:List Dt}{ok:Ms->Prop}{q:List Dt->(Ms->Prop)->Ms->Prop}{x:DX}(hv:ρ[i]? =some (some d))(ho:Nj C M d ns ds)(hf:(ns.zip ds).lookup f=some v)(hl:kY M v=some (xs,ok))(h:q xs ok M):e_ (O6 C f (yp i)) ρ M q x:=by unfold e_ O6 yp;rw [hv];refine ⟨ns,ds,v,ho,hf,?_⟩;show (match qg M v with|some (xs,ok)=>q xs ok M|none=>False);rw [sQ hl];exact h
def au(C:Addr)(ε:Fr)(γ:List Rw):Dt:= .obj C ["kept_share","kept_rows"] [Τ ε,.lst (γ.map aS)]
def IZ(Cm:Addr):DF:=λas M q _=>∃k d ε ds γ ok,as=[.loc k,Τ ε,d]/\M[k]? =some (.ins Cm [] [])/\kY M d=some (ds,ok)/\Paired (jN M) ds γ/\aM ε=true/\1<=γ.length/\γ.length<=12/\
 (∀r∈γ,eJ r/\dD r γ.length=true)/\q .bw (M.set k (.ins Cm ["kept_share","kept_rows"] [Τ ε,.lst (γ.map aS)]))
theorem ip:Δ ["self","share","rows","place","row"] ["self","share","rows"] (τ mf):= .of rfl
theorem yo{f:Addr}{fd:FuncData}(F:cJ K "__init__" "Floor.__init__" mf f fd)(E:Ev K mg w Cm){Co:Addr}{BO:FuncData}(kf:aw P w K mg base 1 "fits_share" ["share"] sP Co BO){Kj:Addr}{Jm:FuncData}(oG:aw P w K mg base 4 "fits_row" ["row","size"] zb Kj Jm){mE:Addr}{mM:FuncData}(d8:aw P w K mg base 1 "copied_row" ["row"] mY mE mM):ah P w K mg base (bU P w) 5 f fd ["self","share","rows"] (cC K (IZ Cm)):=by
 refine F.df ip (λds M q x h=>?_) (λaT A outer s H E' hr=>⟨_,(η (aH (gL (cq (ag kf hr ξ (Υ (jv 1) θ)))) (μ fL) Φ)
   (η (aH (JW.jt (lN (vp (c8 E.bX (Υ (jv 2) θ)) ω) (kO (ES (c8 E.bX (Υ (jv 2) θ)) (tI E.nq))))) (μ fL) Φ)
   (η (dF (x8 E.eA (Υ (jv 2) θ)) (pM rfl (cG (aD (i:=3) ip.nd rfl (Or.inl rfl)) (cG (aD (i:=4) ip.nd rfl (Or.inl rfl)) ly))) mz (μ (aH (gL (cq (ag oG hr ξ (Υ (jv 4) (ι (c8 E.bX (Υ (jv 2) θ)) θ (hs:=aQ)))))) (μ fL) Φ)))
   (η (El E.cR E.fv (jv 0) (jv 1))
   (μ (El E.cR E.bJ (jv 0) (fA (ys:=[]) (ae:=[]) (.of ip rfl rfl rfl) (bf (jv 2)) (λC s H fp=>(b9 (ag d8 hr (fB (P:=P) (w:=w)) (Υ (jv 0) θ))))))))))),λds M q x h=>?_⟩)
 ·obtain ⟨k,d,ε,ds,γ,ok,rfl,_⟩:=h;rfl
 ·obtain ⟨k,d,ε,ds,γ,ok,rfl,hk,hl,hp,hs,h1,h12,yM,h⟩:=h;have hlen:ds.length=γ.length:=Paired.length hp;walk_at "vc";refine ⟨ε,rfl,λz=>?_,λ_=>?_⟩
  ·rw [hs] at z;exact nomatch z
  have WN:=nM hl;refine aE WN ⟨λz=>?_,λ_=>?_⟩
  ·have:(ds.length:Int)<1:=by simpa using z
   omega
  refine aE WN ⟨λz=>?_,λ_=>?_⟩
  ·have:12<(ds.length:Int):=by simpa using z
   omega
  refine ⟨d,ds,ok,rfl,hl,?_⟩;refine cc (λxs ρ M'=>M'=M/\∃n mS EN a b,xs=iT n mS/\Paired (jN M) mS EN/\(∀r∈EN,r∈γ)/\ρ=[some (.loc k),some (Τ ε),some d,a,b]) (λxs ρ M' hj=>by obtain ⟨rfl,_⟩:=hj;exact qL hl) (λx xs ρ M' hj ir=>?_) (λρ M' hj=>?_) _ _ _ ⟨rfl,0,ds,γ,none,none,rfl,hp,λ_ h=>h,rfl⟩
  ·obtain ⟨rfl,n,mS,EN,a,b,ex,A6,Vp,rfl⟩:=hj;cases A6 with
   |nil=>cases ex
   |cons ra t=>
    rename_i d1 r1 ds1 UW;cases ex;refine aE WN ⟨d1,r1,ds.length,rfl,ra,(yM r1 (Vp r1 aae)).1,λz=>?_,λ_=>?_⟩
    ·rw [hlen,(yM r1 (Vp r1 aae)).2] at z;exact nomatch z
    ·exact ir _ _ ⟨rfl,n+1,ds1,UW,_,_,rfl,t,λr hr=>Vp r (aad _ hr),rfl⟩
  ·obtain ⟨rfl,n,mS,EN,a,b,ex,A6,Vp,rfl⟩:=hj;have hkl:k<M'.length:=(aaf.mp hk).1;refine ⟨k,[],[],rfl,hk,(λz=>(nomatch z)),by decide,?_⟩;have Yy:=ze (C':=Cm) (ns':=["kept_share"]) (xs':=[Τ ε]) hk hl;dsimp only [OA,List.nil_append];show e_ _ _ _ _ _;refine d_ (i:=2) rfl Yy ⟨by rw [hlen];exact aap h12 (by decide),?_⟩;have WH:Paired (λx a=>jN (M'.set k (.ins Cm ["kept_share"] [Τ ε])) x a/\eJ a) ds γ:=by
    have:∀{xs:List Dt} {rs:List Rw},Paired (jN M') xs rs->(∀r∈rs,eJ r)->Paired (λx a=>jN (M'.set k (.ins Cm ["kept_share"] [Τ ε])) x a/\eJ a) xs rs:=by
     intro xs rs hp
     induction hp with
     |nil=>exact λ_=> .nil
     |cons r t ih=>exact λh=> .cons ⟨Hg hk r,h _ aae⟩ (ih λy hy=>h y (aad _ hy))
    exact this hp λr hr=>(yM r hr).1
   refine cB (f:=aS) (qL Yy) (λx a ha q' hq=> ?ht) WH ?fin
   case ht=>
    obtain ⟨ha,ho⟩:=ha;refine ⟨x,a,rfl,ha,ho,?_⟩;cases a with
    |fin p=>exact LM ⟨trivial,kq p,trivial⟩ hq
    |ο k2 An=>exact iG (.tup (.cons (.old trivial) (.cons (.Aa (Nat.le_refl _) (by simp) (gI.old (fY An))) .nil))) hq
   case fin=>
    refine ⟨k,["kept_share"],[Τ ε],rfl,by rw [aa3 hkl],by decide,by decide,?_⟩;rw [List.set_set];exact h
def kindOf:Rw->Str
 |.fin _=>"end"
 |.ο k _=>k
def Η:Rw->List bI
 |.fin _=>[]
 |.ο _ ds=>ds
def SR:Rw->Dt
 |.fin p=>Τ p
 |.ο _ _=> .bw
def ny:Nat->List Rw->List Dt
 |_,[]=>[]
 |n,.fin p::r=> .tup [.str "end",Τ p]::ny n r
 |n, .ο k _::r=> .tup [.str k,.loc n]::ny (n+1) r
def lM:List Rw->Ms
 |[]=>[]
 |.fin _::r=>lM r
 |.ο _ ds::r=> .lst (ds.map dt)::lM r
theorem qK{γ:List Rw}{i:Nat}{r:Rw}(h:γ[i]? =some r):(γ.map aS)[i]? =some (aS r):=by rw [aal,h];rfl
theorem Qv{r:Rw}:∃e,aS r= .tup [.str (kindOf r),e]:=by
 cases r with
 |fin p=>exact ⟨_,rfl⟩
 |ο k ds=>exact ⟨_,rfl⟩
def Aw(C:Addr):DF:=λas M q _=>∃ε γ,as=[au C ε γ]/\q (.int γ.length) M
theorem AN:Δ ["self"] ["self"] (τ mK):= .of rfl
theorem wx{f:Addr}{fd:FuncData}(F:cJ K "size" "Floor.size" mK f fd)(E:Ev K mg w Cm):ah P w K mg base (bU P w) 1 f fd ["self"] (cC K (Aw Cm)):=by
 refine F.df AN (λds M q x h=>?_) (λaT A outer s H E' hr=>⟨_,(μ (Ε (c8 E.bX (ι (p9 E.cR E.bJ (jv 0)) θ)))),λds M q x h=>?_⟩)
 ·obtain ⟨ε,γ,rfl,_⟩:=h;rfl
 ·obtain ⟨ε,γ,rfl,h⟩:=h;refine ⟨_,_,_,.inl rfl,rfl,?_⟩;show iD [.lst (γ.map aS)] M _;refine aE (xs:=γ.map aS) rfl ?_;rw [aac];exact h
def C3(C:Addr):DF:=λas M q _=>∃ε γ,as=[au C ε γ]/\q (Τ ε) M
theorem yC:Δ ["self"] ["self"] (τ j8):= .of rfl
theorem ur{f:Addr}{fd:FuncData}(F:cJ K "share" "Floor.share" j8 f fd)(E:Ev K mg w Cm):ah P w K mg base (bU P w) 1 f fd ["self"] (cC K (C3 Cm)):=by
 refine F.df yC (λds M q x h=>?_) (λaT A outer s H E' hr=>⟨_,(μ (Ε (p9 E.cR E.fv (jv 0)))),λds M q x h=>?_⟩)
 ·obtain ⟨ε,γ,rfl,_⟩:=h;rfl
 ·obtain ⟨ε,γ,rfl,h⟩:=h;exact ⟨_,_,_,.inl rfl,rfl,h⟩
def nu(C:Addr):DF:=λas M q _=>∃ε γ i r,as=[au C ε γ,.int (i:Nat)]/\γ[i]? =some r/\q (.str (kindOf r)) M
theorem AO:Δ ["self","place"] ["self","place"] (τ mN):= .of rfl
theorem wy{f:Addr}{fd:FuncData}(F:cJ K "kind" "Floor.kind" mN f fd)(E:Ev K mg w Cm):ah P w K mg base (bU P w) 1 f fd ["self","place"] (cC K (nu Cm)):=by
 refine F.df AO (λds M q x h=>?_) (λaT A outer s H E' hr=>⟨_,(μ (Ε (Ν (Ν (p9 E.cR E.bJ (jv 0)) (jv 1)) ω))),λds M q x h=>?_⟩)
 ·obtain ⟨ε,γ,i,r,rfl,_⟩:=h;rfl
 ·obtain ⟨ε,γ,i,r,rfl,hi,h⟩:=h;refine ⟨_,_,_,.inl rfl,rfl,?_⟩;walk_at "vc";refine Ι (xs:=γ.map aS) rfl (Θ (qK hi)) ?_;obtain ⟨e,er⟩:=Qv (r:=r);rw [er];exact h
def tm(C:Addr):DF:=λas M q _=>∃ε γ i r,as=[au C ε γ,.int (i:Nat)]/\γ[i]? =some r/\eJ r/\q (.loc M.length) (M++[.lst ((Η r).map dt)])
theorem wk:Δ ["self","place"] ["self","place"] (τ kD):= .of rfl
theorem uE{f:Addr}{fd:FuncData}(F:cJ K "doors" "Floor.doors" kD f fd)(E:Ev K mg w Cm){aJ:Addr}{aL:FuncData}(Ρ:cE P w K mg base 1 Cm "kind" ["self","place"] (nu Cm) aJ aL):ah P w K mg base (bU P w) 2 f fd ["self","place"] (cC K (tm Cm)):=by
 refine F.df wk (λds M q x h=>?_) (λaT A outer s H E' hr=>⟨_,(η (aH (e6 hr (bO Ρ hr ξ (jv 0) (Υ (jv 1) θ)) jI) (μ (Ε (kW θ))) Φ)
   (μ (Ε (xZ E.kC (ι (Ν (Ν (p9 E.cR E.bJ (jv 0)) (jv 1)) ω) θ (hs:=aV)))))),λds M q x h=>?_⟩)
 ·obtain ⟨ε,γ,i,r,rfl,_⟩:=h;rfl
 ·obtain ⟨ε,γ,i,r,rfl,hi,ro,h⟩:=h;refine ⟨⟨_,_,.inl rfl,rfl⟩,ε,γ,i,r,rfl,hi,?_⟩;cases r with
  |fin p=>exact ⟨λ_=>⟨by decide,h⟩,λz=>(nomatch z)⟩
  |ο k ds=>
   refine ⟨λz=>absurd (of_decide_eq_true z) ro.1,λ_=>?_⟩;refine ⟨_,_,_,.inl rfl,rfl,?_⟩;walk_at "vc";refine Ι (xs:=γ.map aS) rfl (Θ (qK hi)) ?_;exact h
def Ra(C:Addr):DF:=λas M q _=>∃ε γ i r,as=[au C ε γ,.int (i:Nat)]/\γ[i]? =some r/\eJ r/\q (SR r) M
theorem Bm:Δ ["self","place"] ["self","place"] (τ pA):= .of rfl
theorem zi{f:Addr}{fd:FuncData}(F:cJ K "pay" "Floor.pay" pA f fd)(E:Ev K mg w Cm){aJ:Addr}{aL:FuncData}(Ρ:cE P w K mg base 1 Cm "kind" ["self","place"] (nu Cm) aJ aL):ah P w K mg base (bU P w) 2 f fd ["self","place"] (cC K (Ra Cm)):=by
 refine F.df Bm (λds M q x h=>?_) (λaT A outer s H E' hr=>⟨_,(η (aH (e6 hr (bO Ρ hr ξ (jv 0) (Υ (jv 1) θ)) jI) (μ (Ε (Ν (Ν (p9 E.cR E.bJ (jv 0)) (jv 1)) ω))) Φ)
   (μ (Ε Ma))),λds M q x h=>?_⟩)
 ·obtain ⟨ε,γ,i,r,rfl,_⟩:=h;rfl
 ·obtain ⟨ε,γ,i,r,rfl,hi,ro,h⟩:=h;refine ⟨⟨_,_,.inl rfl,rfl⟩,ε,γ,i,r,rfl,hi,?_⟩;cases r with
  |fin p=>
   refine ⟨λ_=>?_,λz=>(nomatch z)⟩;refine ⟨_,_,_,.inl rfl,rfl,?_⟩;walk_at "vc";refine Ι (xs:=γ.map aS) rfl (Θ (qK hi)) ?_;exact h
  |ο k ds=>exact ⟨λz=>absurd (of_decide_eq_true z) ro.1,λ_=>h⟩
theorem tq{te:DE}{cs:En}{k:List Dt->Ms->Prop}(ht:∀r M (q:DQ),eJ r->(match r with
  |.fin p=>q (.tup [.str "end",Τ p]) M
  |.ο k ds=>q (.tup [.str k,.loc M.length]) (M++[.lst (ds.map dt)]))->te (some (aS r)::cs) M q k4):∀(γ:List Rw) (Ζ:List Dt) (M:Ms),(∀r∈γ,eJ r)->k (Ζ++ny M.length γ) (M++lM γ)->nN te cs (λ_=>True) (γ.map aS) Ζ M k
 |[],Ζ,M,_,h=>⟨trivial,by simpa [ny,lM] using h⟩
 |r::γ,Ζ,M,ho,h=>by
  refine ⟨trivial,ht r M _ (ho r aae) ?_⟩;cases r with
  |fin p=>
   refine tq ht γ _ M (λr hr=>ho r (aad _ hr)) ?_;simpa [ny,lM] using h
  |ο k' ds=>
   refine tq ht γ _ _ (λr hr=>ho r (aad _ hr)) ?_;simpa [ny,lM] using h
def Oq(C:Addr):DF:=λas M q _=>∃ε γ,as=[au C ε γ]/\γ.length<=12/\(∀r∈γ,eJ r)/\q (.loc (M.length+(lM γ).length)) (M++lM γ++[.lst (ny M.length γ)])
theorem qm:Δ ["self"] ["self"] (τ mF):= .of rfl
theorem xy{f:Addr}{fd:FuncData}(F:cJ K "rows" "Floor.rows" mF f fd)(E:Ev K mg w Cm){mE:Addr}{mM:FuncData}(d8:aw P w K mg base 1 "copied_row" ["row"] mY mE mM):ah P w K mg base (bU P w) 2 f fd ["self"] (cC K (Oq Cm)):=by
 refine F.df qm (λds M q x h=>?_) (λaT A outer s H E' hr=>⟨_,(μ (Ε (Kv (ys:=[]) (ae:=[]) (.of qm rfl rfl rfl) (bf (p9 E.cR E.bJ (jv 0))) (λC s H fp=>(ag d8 hr (fB (P:=P) (w:=w)) (Υ (jv 0) θ)))))),λds M q x h=>?_⟩)
 ·obtain ⟨ε,γ,rfl,_⟩:=h;rfl
 ·obtain ⟨ε,γ,rfl,hz,ho,h⟩:=h;walk_at "vc";refine Gu (i:=0) (d:=au Cm ε γ) rfl (.inl rfl) rfl rfl ⟨by rw [aac];exact aap hz (by decide),?_⟩;refine tq (λr M q hr hq=>⟨aS r,r,rfl,wa M r,hr,by cases r <;> exact hq⟩) γ [] M ho ?_;rw [aaF,aah];exact h
theorem gJ{α:Type}(f:α->Dt):∀(xs ys:List α),(∀x∈xs,x∈ys)->Paired (λx a=>x=f a/\a∈ys) (xs.map f) xs
 |[],_,_=> .nil
 |x::xs,ys,h=> .cons ⟨rfl,h x aae⟩ (gJ f xs ys λy hy=>h y (aad _ hy))
theorem da{M:Ms}{q:DQ}{ds:List Dt}(u:Dt.bC M.length ds)(h:q (.lst ds) M):tV M q (.loc M.length) (M++[.lst ds]):=iG (.Aa (aai _) (by rw [acg];rfl) (gI.old u)) h
theorem Lz{M:Ms}{q:DQ}{ds:List Dt}(u:Dt.bC M.length ds)(h:q (.lst ds) M):zQ [.lst ds] M (tV M q):=by show tV M q (.loc M.length) (M++[.lst ds]);exact da u h
theorem Iq{d:bI}{M:Ms}{q:DQ}(h:q (Τ d.2.1) M):fV (dt d) (.int 1) M q:=Ι (xs:= .int d.1::Τ d.2.1::d.2.2.map Τ) rfl (Θ (j:=1) rfl) h
theorem D1{d:bI}{M:Ms}{q:DQ}(h:q (.int d.1) M):fV (dt d) (.int 0) M q:=Ι (xs:= .int d.1::Τ d.2.1::d.2.2.map Τ) rfl bq h
theorem SN{k:Str}{e:Dt}{M:Ms}{q:DQ}(h:q e M):fV (.tup [.str k,e]) (.int 1) M q:=Ι (xs:=[.str k,e]) rfl (Θ (j:=1) rfl) h
theorem fG{g:Dt->En->(En->Prop)->Prop}{tb:DS}{Dn:lG}(J:List Dt->En->Ms->Prop)
  (step:∀x xs ρ M,J (x::xs) ρ M->(∀ρ M,J xs ρ M->wg g tb Dn xs ρ M)->g x ρ λρ'=>tb {Dn with nx:=wg g tb Dn xs,ct:=wg g tb Dn xs,bk:=Dn.nx} ρ' M)
  (fin:∀ρ M,J [] ρ M->Dn.nx ρ M):∀(xs:List Dt) (ρ:En) (M:Ms),J xs ρ M->wg g tb Dn xs ρ M
 |[],ρ,M,h=>fin _ _ h
 |x::xs,ρ,M,h=>step x xs ρ M h λρ' M' h'=>fG J step fin xs ρ' M' h'
theorem fo{lo:Int}{n:Nat}{x:Dt}{xs:List Dt}(h:x::xs=e7 lo n):∃m,n=m+1/\x= .int lo/\xs=e7 (lo+1) m:=by
 cases n with
 |zero=>exact nomatch h
 |succ m=>
  unfold e7 at h;rw [abA,aaA,aau] at h;cases h;refine ⟨m,rfl,by simp,?_⟩;unfold e7;apply aaO;intro k _;show Dt.int (lo+((k+1:Nat):Int))=Dt.int (lo+1+(k:Int))
  congr 1
  omega
theorem rY{lo:Int}{n:Nat}{x:Dt}(h:x∈e7 lo n):∃k:Nat,k<n/\x= .int (lo+k):=by unfold e7 at h;obtain ⟨k,hk,rfl⟩:=aag.mp h;exact ⟨k,aaT.mp hk,rfl⟩
theorem i6{lo:Int}{n:Nat}:(e7 lo n).length=n:=by unfold e7;simp
theorem ig{n:Nat}:∀(xs:List Int),Dt.bC n (xs.map Dt.int)
 |[]=>trivial
 |_::xs=>⟨trivial,ig xs⟩
theorem Jh{m:Int}:∀{l:List Int},(∀w∈l,w<=m)->l.sum<=l.length*m
 |[],_=>by simp
 |a::l,h=>by have i:=Jh (l:=l) λw hw=>h w (aad _ hw);have:=h a aae;rw [List.sum_cons,aax,Int.natCast_add,Int.add_mul];omega
def ia(ai:Int)(r:Rw):Prop:=eJ r/\dD r ai=true
theorem Nn{k:Str}{ds:List bI}{ai:Int}(hk:χ k=true)(hz:1<=ds.length)(YM:ds.length<=6)(hd:∀d∈ds,aF d.1 d.2.1 ai=true)(hs:∀d∈ds,d.2.2=[]/\0<d.2.1.2):ia ai (.ο k ds):=by
 have fd:Λ ds ai=true:=by unfold Λ;rw [decide_eq_true hz,decide_eq_true YM,abl.mpr hd];rfl
 have ne:k≠"end"/\k≠"chance":=by refine ⟨λz=>?_,λz=>?_⟩ <;> (subst z;exact absurd hk (by decide))
 refine ⟨⟨ne.1,by omega,λz=>absurd z ne.2,λd h=>⟨by rw [(hs d h).1];exact abP _,(hs d h).2⟩⟩,?_⟩;show (if χ k then _ else _)=true;rw [if_pos hk];exact fd
theorem GU{ds:List bI}{ai:Int}(hz:1<=ds.length)(YM:ds.length<=6)(hd:∀d∈ds,aF d.1 d.2.1 ai=true)(h1:∀d∈ds,d.2.2=[υ d])(hc:Ω (ds.map υ)=true)(ho:Qp (ds.map υ))(hp:∀d∈ds,0<d.2.1.2):ia ai (.ο "chance" ds):=by
 have fd:Λ ds ai=true:=by unfold Λ;rw [decide_eq_true hz,decide_eq_true YM,abl.mpr hd];rfl
 refine ⟨⟨by decide,by omega,λ_=>⟨h1,ho⟩,λd h=>⟨by rw [h1 d h];exact aai _,hp d h⟩⟩,?_⟩;have e:dD (.ο "chance" ds) ai=(Λ ds ai&&Ω (ds.map υ)):=by dsimp only [dD];rw [if_neg (by decide),if_pos rfl]
 rw [e,fd,hc];rfl
theorem Me{t ai:Int}{p:Fr}(h0:0<=t)(h1:t<ai)(hp:aX p=true):aF t p ai=true:=by unfold aF;rw [decide_eq_true h0,decide_eq_true h1,hp];rfl
theorem hU{xs:List Int}{j:Nat}(h:j<xs.length):oJ (xs.map Dt.int) (j:Int)=some (.int xs[j]):=Θ (by rw [aal,aaa h];rfl)
theorem EF:∀{l:List Int},(∀w∈l,0<w)->l≠[]->0<l.sum
 |[],_,z=>absurd rfl z
 |[a],h,_=>by have:=h a List.mem_cons_self;simpa using this
 |a::b::l,h,_=>by have i:=EF (l:=b::l) (λw hw=>h w (List.mem_cons_of_mem _ hw)) (by simp);have:=h a aae;rw [List.sum_cons];omega
def Sz(k:Nat)(p:Fr):Prop:=p.1.natAbs<2^k/\0<p.2/\p.2.natAbs<2^k
def cN(p q:Fr):Fr:=aq (p.1*q.2+q.1*p.2) (p.2*q.2)
def aA(p q:Fr):Fr:=aq (p.1*q.1) (p.2*q.2)
def br(p q:Fr):Bool:=decide (p.1*q.2<q.1*p.2)
theorem qG{k k':Nat}{p:Fr}(h:Sz k p)(hk:k<=k'):Sz k' p:=
 ⟨aat h.1 (abU (by decide) hk),h.2.1,aat h.2.2 (abU (by decide) hk)⟩
theorem cx{a b k l:Nat}(h:a<2^k)(h':b<2^l):a*b<2^(k+l):=by rw [Nat.pow_add];exact Nat.mul_lt_mul'' h h'
theorem DV{t b:Int}{k:Nat}(hb:0<b)(h1:t.natAbs<2^k)(h2:b.natAbs<2^k):Sz k (aq t b):=
 ⟨aaM (tU (by omega)) h1,bK (by omega),aaM (ku (by omega)) h2⟩
theorem vK{p q:Fr}{k l:Nat}(hp:Sz k p)(hq:Sz l q):(p.1*q.2+q.1*p.2).natAbs<2^(k+l+1)/\(p.2*q.2).natAbs<2^(k+l+1)/\0<p.2*q.2:=by
 have a:=cx hp.1 hq.2.2;have b:=cx hq.1 hp.2.2;have c:=cx hp.2.2 hq.2.2;rw [Nat.add_comm l k] at b;have e:(2:Nat)^(k+l+1)=2^(k+l)+2^(k+l):=by rw [Nat.pow_succ];omega
 have hn:=Int.natAbs_add_le (p.1*q.2) (q.1*p.2);rw [aa2,aa2] at hn;refine ⟨by rw [e];omega,?_,aaE hp.2.1 hq.2.1⟩;rw [aa2,e];omega
theorem LW{p q:Fr}{k l:Nat}(hp:Sz k p)(hq:Sz l q):Sz (k+l+1) (cN p q):=
 let ⟨a,b,c⟩:=vK hp hq
 DV c a b
theorem rZ{p q:Fr}{k l:Nat}(hp:Sz k p)(hq:Sz l q):(p.1*q.1).natAbs<2^(k+l)/\(p.2*q.2).natAbs<2^(k+l)/\0<p.2*q.2:=by have a:=cx hp.1 hq.1;have c:=cx hp.2.2 hq.2.2;exact ⟨by rw [aa2];exact a,by rw [aa2];exact c,aaE hp.2.1 hq.2.1⟩
theorem Af{p q:Fr}{k l:Nat}(hp:Sz k p)(hq:Sz l q):Sz (k+l) (aA p q):=
 let ⟨a,b,c⟩:=rZ hp hq
 DV c a b
theorem gf{p:Fr}{k:Nat}(h:Sz k p)(hk:k<=8000):iL p.1:=bg h.1 hk
theorem cU{p:Fr}{k:Nat}(h:Sz k p)(hk:k<=8000):iL p.2:=bg h.2.2 hk
theorem P8{p:Fr}(h:aX p=true)(h0:0<p.2):Sz 101 p:=by
 unfold aX at h;rw [aao,decide_eq_true_iff,decide_eq_true_iff] at h;obtain ⟨h1,h2⟩:=h;have e1:(10:Int)^30<2^101:=by decide
 have n1:(p.1.natAbs:Int)<=10^30:=by split at h1 <;> omega
 refine ⟨?_,h0,?_⟩
 ·have:(p.1.natAbs:Int)<((2^101:Nat):Int):=aaB n1 (by decide);exact abE.mp this
 ·have:(p.2.natAbs:Int)<((2^101:Nat):Int):=aaB (show (p.2.natAbs:Int)<=1000000 by omega) (by decide);exact abE.mp this
theorem nY{p:Fr}(h:aM p=true):Sz 11 p:=by unfold aM at h;rw [aao,aao,decide_eq_true_iff,decide_eq_true_iff,decide_eq_true_iff] at h;obtain ⟨h1,h2,h3⟩:=h;exact ⟨by omega,by omega,by omega⟩
theorem Om{p:Fr}{M:Ms}{q:DQ}(h:q (.int p.1) M):fV (Τ p) (.int 0) M q:=Ι (xs:=[.int p.1,.int p.2]) rfl bq h
theorem Jw{p:Fr}{M:Ms}{q:DQ}(h:q (.int p.2) M):fV (Τ p) (.int 1) M q:=Ι (xs:=[.int p.1,.int p.2]) rfl (Θ (j:=1) rfl) h
def JQ:DF:=λas M q _=>∃p r k l,as=[Τ p,Τ r]/\Sz k p/\Sz l r/\k+l+1<=8000/\q (Τ (cN p r)) M
theorem Rt:Δ ["one","other"] ["one","other"] (τ Ig):= .of rfl
theorem Mr{f:Addr}{fd:FuncData}(F:cJ K "plus" "plus" Ig f fd)(E:Ev K mg w Cm){ff:Addr}{fh:FuncData}(bc:aw P w K mg base 2 "fraction" ["top","bottom"] sX ff fh):ah P w K mg base (bU P w) 3 f fd ["one","other"] (cC K JQ):=by
 refine F.df Rt (λds M q x h=>?_) (λaT A outer s H E' hr=>⟨_,(μ (Ε (ag bc hr ξ (ι (cI (aR (Ν (jv 0) ω) (Ν (jv 1) ω)) (aR (Ν (jv 1) ω) (Ν (jv 0) ω))) (ι (aR (Ν (jv 0) ω) (Ν (jv 1) ω)) θ (hs:=bV)) (hs:=bV))))),λds M q x h=>?_⟩)
 ·obtain ⟨p,r,k,l,rfl,_⟩:=h;rfl
 ·obtain ⟨p,r,k,l,rfl,hp,fW,hk,h⟩:=h;obtain ⟨a,b,c⟩:=vK hp fW;refine ⟨⟨gf hp (by omega),cU fW (by omega)⟩,⟨gf fW (by omega),cU hp (by omega)⟩,⟨cU hp (by omega),cU fW (by omega)⟩,bg b hk,λz=>absurd z (by omega),λ_=>h⟩
def xD:DF:=λas M q _=>∃p r k l,as=[Τ p,Τ r]/\Sz k p/\Sz l r/\k+l+1<=8000/\q (Τ (aA p r)) M
theorem NL:Δ ["one","other"] ["one","other"] (τ B_):= .of rfl
theorem Ir{f:Addr}{fd:FuncData}(F:cJ K "times" "times" B_ f fd)(E:Ev K mg w Cm){ff:Addr}{fh:FuncData}(bc:aw P w K mg base 2 "fraction" ["top","bottom"] sX ff fh):ah P w K mg base (bU P w) 3 f fd ["one","other"] (cC K xD):=by
 refine F.df NL (λds M q x h=>?_) (λaT A outer s H E' hr=>⟨_,(μ (Ε (ag bc hr ξ (ι (aR (Ν (jv 0) ω) (Ν (jv 1) ω)) (ι (aR (Ν (jv 0) ω) (Ν (jv 1) ω)) θ (hs:=bV)) (hs:=bV))))),λds M q x h=>?_⟩)
 ·obtain ⟨p,r,k,l,rfl,_⟩:=h;rfl
 ·obtain ⟨p,r,k,l,rfl,hp,fW,hk,h⟩:=h;obtain ⟨a,b,c⟩:=rZ hp fW;refine ⟨⟨gf hp (by omega),gf fW (by omega)⟩,⟨cU hp (by omega),cU fW (by omega)⟩,bg b (by omega),λz=>absurd z (by omega),λ_=>h⟩
def iw(p q:Fr):Fr:=aq (p.1*q.2-q.1*p.2) (p.2*q.2)
theorem BX{p q:Fr}{k l:Nat}(hp:Sz k p)(hq:Sz l q):(p.1*q.2-q.1*p.2).natAbs<2^(k+l+1)/\(p.2*q.2).natAbs<2^(k+l+1)/\0<p.2*q.2:=by
 have a:=cx hp.1 hq.2.2;have b:=cx hq.1 hp.2.2;have c:=cx hp.2.2 hq.2.2;rw [Nat.add_comm l k] at b;have e:(2:Nat)^(k+l+1)=2^(k+l)+2^(k+l):=by rw [Nat.pow_succ];omega
 have hn:(p.1*q.2-q.1*p.2).natAbs<=(p.1*q.2).natAbs+(q.1*p.2).natAbs:=by omega
 rw [aa2,aa2] at hn;refine ⟨by rw [e];omega,?_,aaE hp.2.1 hq.2.1⟩;rw [aa2,e];omega
def Kr:DF:=λas M q _=>∃p r k l,as=[Τ p,Τ r]/\Sz k p/\Sz l r/\k+l+1<=8000/\q (Τ (iw p r)) M
theorem MS:Δ ["one","other"] ["one","other"] (τ BW):= .of rfl
theorem Jk{f:Addr}{fd:FuncData}(F:cJ K "minus" "minus" BW f fd)(E:Ev K mg w Cm){ff:Addr}{fh:FuncData}(bc:aw P w K mg base 2 "fraction" ["top","bottom"] sX ff fh):ah P w K mg base (bU P w) 3 f fd ["one","other"] (cC K Kr):=by
 refine F.df MS (λds M q x h=>?_) (λaT A outer s H E' hr=>⟨_,(μ (Ε (ag bc hr ξ (ι (uU (aR (Ν (jv 0) ω) (Ν (jv 1) ω)) (aR (Ν (jv 1) ω) (Ν (jv 0) ω))) (ι (aR (Ν (jv 0) ω) (Ν (jv 1) ω)) θ (hs:=bV)) (hs:=bV))))),λds M q x h=>?_⟩)
 ·obtain ⟨p,r,k,l,rfl,_⟩:=h;rfl
 ·obtain ⟨p,r,k,l,rfl,hp,fW,hk,h⟩:=h;obtain ⟨a,b,c⟩:=BX hp fW;refine ⟨⟨gf hp (by omega),cU fW (by omega)⟩,⟨gf fW (by omega),cU hp (by omega)⟩,⟨cU hp (by omega),cU fW (by omega)⟩,bg b hk,λz=>absurd z (by omega),λ_=>h⟩
def l7(B:Int)(c:Fr):Int:=c.1*(B/c.2)
structure HZ(cs:List Fr):Prop where
 pos:∀c∈cs,0<l7 (bD cs) c
 sum:(cs.map (l7 (bD cs))).sum=bD cs
 b0:0<bD cs
 b1:bD cs<=1000000
 ne:cs≠[]
 Lp:Qp cs
theorem U2{cs:List Fr}(h:Ω cs=true)(o:Qp cs)(n:cs≠[]):HZ cs:=by
 unfold Ω at h;rw [aao,aao,decide_eq_true_iff,decide_eq_true_iff,Bool.not_eq_true'] at h;obtain ⟨h1,h2,h3⟩:=h;have B0:0<bD cs:=fD cs 1 (by decide) λc hc=>(o.2 c hc).1;obtain ⟨_,_,hB⟩:=jd cs 1 0 (by decide) (ach _) λc hc=>⟨(o.2 c hc).1,ach _⟩;refine ⟨λc hc=>?_,h2,B0,h3,n,o⟩;have c1:0<c.1:=by have:=List.any_eq_false.mp h1 c hc;simpa using this
 exact aaE c1 (Int.ediv_pos_of_pos_of_dvd B0 (aaj (o.2 c hc).1) (hB c hc))
def val(p:Fr):Rat:=(p.1:Rat)/(p.2:Rat)
structure Red(p:Fr):Prop where
 pos:0<p.2
 low:Int.gcd p.1 p.2=1
theorem bb{b:Int}(h:b≠0):(b:Rat)≠0:=λz=>h (Rat.intCast_eq_zero_iff.mp z)
theorem NR{a b c d:Int}(h:a*b=c*d):(a:Rat)*b=c*d:=by rw [<-aaG,<-aaG,h]
theorem b_{t b:Int}(h:b≠0):Red (aq t b):=⟨bK h,zf h⟩
theorem kz{t b:Int}(h:b≠0):val (aq t b)=(t:Rat)/(b:Rat):=by
 have hq:=bK (t:=t) h;have hx:=NR (cv (t:=t) h);have h1:=bb h;have h2:=bb (show (aq t b).2≠0 by omega);unfold val;generalize ((aq t b).1:Rat)=x at *
 generalize ((aq t b).2:Rat)=y at *
 generalize (t:Rat)=t' at *
 generalize (b:Rat)=b' at *
 grind
theorem qU{p q:Fr}(hp:Red p)(hq:Red q)(h:val p=val q):p=q:=by
 have h1:=bb (show p.2≠0 by have:=hp.pos;omega);have h2:=bb (show q.2≠0 by have:=hq.pos;omega);have e:p.1*q.2=p.2*q.1:=by
  unfold val at h;have e1:(p.1:Rat)*(q.2:Rat)=(p.2:Rat)*(q.1:Rat):=by
   generalize (p.1:Rat)=a at *
   generalize (p.2:Rat)=b at *
   generalize (q.1:Rat)=c at *
   generalize (q.2:Rat)=d at *
   grind
  rw [<-aaG,<-aaG] at e1;exact Rat.intCast_inj.mp e1
 have a:=yg (show p.2≠0 by have:=hp.pos;omega) hq.pos hq.low e;have b:=vt hp.pos hp.low;rw [<-Prod.eta p,<-b,a]
theorem A7{p q:Fr}(hp:0<p.2)(hq:0<q.2):val (cN p q)=val p+val q:=by
 unfold cN;rw [kz (aa9 (aaE hp hq))];have h1:=bb (show p.2≠0 by omega);have h2:=bb (show q.2≠0 by omega);rw [Rat.intCast_add,aaG,aaG,aaG];unfold val;generalize (p.1:Rat)=a at *
 generalize (p.2:Rat)=b at *
 generalize (q.1:Rat)=c at *
 generalize (q.2:Rat)=d at *
 grind
theorem o8{p q:Fr}(hp:0<p.2)(hq:0<q.2):val (aA p q)=val p*val q:=by
 unfold aA;rw [kz (aa9 (aaE hp hq))];have h1:=bb (show p.2≠0 by omega);have h2:=bb (show q.2≠0 by omega);rw [aaG,aaG];unfold val;generalize (p.1:Rat)=a at *
 generalize (p.2:Rat)=b at *
 generalize (q.1:Rat)=c at *
 generalize (q.2:Rat)=d at *
 grind
def hW(p:Fr)(E:Int):Prop:=∃N,p.1*E=N*p.2
theorem oI{t b E N:Int}(h:b≠0)(e:t*E=N*b):hW (aq t b) E:=by
 have hx:=cv (t:=t) h;generalize hf:aq t b=f at *
 obtain ⟨x,y⟩:=f;refine ⟨N,?_⟩;show x*E=N*y;have hx:t*y=b*x:=hx;have:b*(x*E)=b*(N*y):=by grind
 exact aaK h this
theorem z5{p:Fr}{E:Int}(k:Int)(h:hW p E):hW p (E*k):=by obtain ⟨N,e⟩:=h;exact ⟨N*k,by grind⟩
theorem Hh(p:Fr):hW p p.2:=⟨p.1,rfl⟩
theorem Ha{p q:Fr}{E:Int}(hp:0<p.2)(hq:0<q.2)(h:hW p E)(h':hW q E):hW (cN p q) E:=by obtain ⟨N,e⟩:=h;obtain ⟨N',e'⟩:=h';unfold cN;exact oI (N:=N+N') (Int.ne_of_gt (Int.mul_pos hp hq)) (by grind)
theorem rX{p q:Fr}{E F:Int}(hp:0<p.2)(hq:0<q.2)(h:hW p E)(h':hW q F):hW (aA p q) (E*F):=by obtain ⟨N,e⟩:=h;obtain ⟨N',e'⟩:=h';unfold aA;exact oI (N:=N*N') (Int.ne_of_gt (Int.mul_pos hp hq)) (by grind)
theorem xR{p:Fr}{E:Int}(hp:Red p)(h:hW p E):p.2∣E:=by
 obtain ⟨N,e⟩:=h;have d:p.2∣p.1*E:=⟨N,by rw [e,aaU]⟩;have d2:p.2.natAbs∣p.1.natAbs*E.natAbs:=by rw [<-aa2];exact Int.natAbs_dvd_natAbs.mpr d
 have co:Nat.Coprime p.2.natAbs p.1.natAbs:=by have:=hp.low;unfold Int.gcd at this;rw [Nat.coprime_comm];exact this
 exact Int.natAbs_dvd_natAbs.mp (co.dvd_of_dvd_mul_left d2)
def ef(p:Fr)(C:Int):Prop:=p.1<=p.2*C/\ -(p.2*C)<=p.1
theorem nB{t b C:Int}(h:0<b)(h1:t<=b*C)(h2: -(b*C)<=t):ef (aq t b) C:=by
 have hx:=cv (t:=t) (show b≠0 by omega);have hq:=bK (t:=t) (show b≠0 by omega);generalize hf:aq t b=f at *
 obtain ⟨x,y⟩:=f;have hx:t*y=b*x:=hx;have hq:0<y:=hq;constructor
 ·show x<=y*C;have:=aaD h1 (aaj hq);rw [hx] at this;have e:b*C*y=b*(y*C):=by grind
  rw [e] at this;exact abW this h
 ·show -(y*C)<=x;have:=aaD h2 (aaj hq);rw [hx] at this;have e: -(b*C)*y=b*(-(y*C)):=by grind
  rw [e] at this;exact abW this h
theorem bW{a b c:Int}(h:a<=b)(hc:0<=c):a*c<=b*c:=aaD h hc
theorem KC{p q:Fr}{C D:Int}(hp:0<p.2)(hq:0<q.2)(h:ef p C)(h':ef q D):ef (cN p q) (C+D):=by
 unfold cN;have a:=bW h.1 (aaj hq);have b:=bW h'.1 (aaj hp);have c:=bW h.2 (aaj hq);have d:=bW h'.2 (aaj hp);refine nB (aaE hp hq) ?_ ?_
 ·have e:p.2*q.2*(C+D)=p.2*C*q.2+q.2*D*p.2:=by grind
  omega
 ·have e: -(p.2*q.2*(C+D))= -(p.2*C)*q.2+ -(q.2*D)*p.2:=by grind
  omega
def g6(c:Fr):Prop:=0<=c.1/\c.1<=c.2
theorem Gp{c p:Fr}{C:Int}(hc:0<c.2)(hp:0<p.2)(u:g6 c)(h:ef p C)(hC:0<=C):ef (aA c p) C:=by
 unfold aA;have pc:0<=p.2*C:=aa1 (aaj hp) hC;have a:=bW h.1 u.1;have b:=bW u.2 pc;have c':=bW h.2 u.1;refine nB (aaE hc hp) ?_ ?_
 ·have e:c.2*p.2*C=c.2*(p.2*C):=by grind
  have e1:c.1*p.1=p.1*c.1:=aaU ..;have e2:p.2*C*c.1=c.1*(p.2*C):=aaU ..;omega
 ·have e: -(c.2*p.2*C)= -(c.2*(p.2*C)):=by grind
  have e1:c.1*p.1=p.1*c.1:=aaU ..;have e2: -(p.2*C)*c.1= -(c.1*(p.2*C)):=by grind
  omega
theorem B2{c s:Fr}(hc:0<c.2)(hs:0<s.2)(u:g6 c)(v:g6 s):g6 (aA c s):=by
 unfold aA;have hx:=cv (t:=c.1*s.1) (aa9 (aaE hc hs));have hq:=bK (t:=c.1*s.1) (aa9 (aaE hc hs));have t0:0<=c.1*s.1:=aa1 u.1 v.1
 have t1:c.1*s.1<=c.2*s.2:=abm (bW u.2 v.1) (by
  have:=bW v.2 (aaj hc)
  rw [aaU c.2 s.1,aaU c.2 s.2];exact this)
 have bp:=aaE hc hs;generalize c.1*s.1=t at *
 generalize c.2*s.2=b at *
 generalize hf:aq t b=f at *
 obtain ⟨x,y⟩:=f;have hx:t*y=b*x:=hx;have hq:0<y:=hq;constructor
 ·show 0<=x;rcases ab2 x 0 with z|z
  ·have:=abG bp z;have:=aa1 t0 (aaj hq);omega
  ·exact z
 ·show x<=y;have:=bW t1 (aaj hq);rw [hx] at this;exact abW this bp
theorem Oo{p:Fr}{E C:Int}{k m:Nat}(r:Red p)(h:hW p E)(e0:0<E)(e1:E<2^k)(a:ef p C)(c0:0<=C)(c1:C<2^m):Sz (k+m) p:=by
 have d:=abS e0 (xR r h);have rp:=r.pos;have b1:p.2.natAbs<2^k:=by
  have:(p.2.natAbs:Int)<((2^k:Nat):Int):=by rw [aa8 (aaj rp)];exact aaB d (by exact_mod_cast e1)
  exact abE.mp this
 have b2:C.natAbs<2^m:=by
  have:(C.natAbs:Int)<((2^m:Nat):Int):=by
   rw [aa8 c0]
   exact_mod_cast c1
  exact abE.mp this
 have b3:=cx b1 b2;refine ⟨?_,rp,aat b1 (abU (by decide) (abv _ _))⟩;refine aaM ?_ b3;rw [<-aa2];have q0:0<=p.2*C:=aa1 (aaj rp) c0;have:=a.1;have:=a.2;omega
theorem Sq{cs:List Fr}{j:Nat}(h:j<cs.length):oJ (cs.map Τ) (j:Int)=some (Τ cs[j]):=Θ (by rw [aal,aaa h];rfl)
theorem TX{ds:List bI}{j:Nat}(h:j<ds.length):oJ (ds.map dt) (j:Int)=some (dt ds[j]):=Θ (by rw [aal,aaa h];rfl)
structure Qb(ε:Fr)(γ:List Rw):Prop where
 sh:aM ε=true
 len:γ.length<=12
 row:∀r∈γ,eJ r/\dD r γ.length=true
structure Sv(γ:List Rw)(k:Str)(ds:List bI):Prop where
 ro:eJ (.ο k ds)
 l1:1<=ds.length
 l6:ds.length<=6
 kd:χ k=true\/(χ k=false/\k="chance"/\HZ (ds.map υ))
 to:∀d∈ds,0<=d.1/\d.1<γ.length
 py:∀d∈ds,aX d.2.1=true/\0<d.2.1.2
theorem eP{ε:Fr}{γ:List Rw}{k:Str}{ds:List bI}(f:Qb ε γ)(h:Rw.ο k ds∈γ):Sv γ k ds:=by
 obtain ⟨ro,h2⟩:=f.row _ h;have h2:(if χ k then Λ ds γ.length else if k="chance" then Λ ds γ.length&&Ω (ds.map υ) else false)=true:=h2;have key:Λ ds γ.length=true/\(χ k=true\/(χ k=false/\k="chance"/\Ω (ds.map υ)=true)):=by
  by_cases hk:χ k=true
  ·rw [if_pos hk] at h2;exact ⟨h2,.inl hk⟩
  ·rw [if_neg hk] at h2;by_cases hc:k="chance"
   ·rw [if_pos hc,Bool.and_eq_true] at h2;exact ⟨h2.1,.inr ⟨by simpa using hk,hc,h2.2⟩⟩
   ·rw [if_neg hc] at h2;cases h2
 obtain ⟨fd,hk⟩:=key;unfold Λ at fd;rw [aao,aao,decide_eq_true_iff,decide_eq_true_iff] at fd;obtain ⟨⟨d1,d6⟩,fa⟩:=fd;have each:∀d∈ds,0<=d.1/\d.1<γ.length/\aX d.2.1=true:=λd hd=>by have h3:=abl.mp fa d hd;unfold aF at h3;rw [aao,aao,decide_eq_true_iff,decide_eq_true_iff] at h3;exact ⟨h3.1,h3.2.1,h3.2.2⟩
 refine ⟨ro,d1,d6,?_,λd hd=>⟨(each d hd).1,(each d hd).2.1⟩,λd hd=>⟨(each d hd).2.2,(ro.2.2.2 d hd).2⟩⟩;rcases hk with hk|⟨hk,hc,hf⟩
 ·exact .inl hk
 ·refine .inr ⟨hk,hc,U2 hf (ro.2.2.1 hc).2 λz=>?_⟩;have:=congrArg List.length z;rw [aac] at this;have:ds.length=0:=this;omega
theorem Ee{α:Type}(xs:List α)(a:α)(f:α->Dt):(e7 0 xs.length).map (λx=>match x with|.int j=>f (xs.getD j.toNat a)|_=> .bw)=xs.map f:=by
 unfold e7;rw [aau];apply aa6
 ·simp
 ·intro i h1 h2;simp only [List.getElem_map,List.getElem_range,Function.comp];rw [show (0+(i:Int)).toNat=i by omega];have hi:i<xs.length:=by simpa using h2
  rw [aab,aaa hi];rfl
abbrev d0:bI:=(0,(0,1),[])
def jQ(tb:List Fr)(t:Int):Fr:=tb.getD t.toNat (0,1)
def Ξ(ε:Fr)(tb:List Fr)(d:bI):Fr:=cN d.2.1 (aA ε (jQ tb d.1))
def fU(ps:List (Fr×Fr)):Fr:=ps.foldl (λw p=>cN w (aA p.1 p.2)) (0,1)
structure Nb(E C:Int)(p:Fr):Prop where
 pos:0<p.2
 he:hW p E
 ab:ef p C
 sz:Sz 2600 p
structure Bd(E C:Int):Prop where
 e0:0<E
 e1:E<2^2200
 c0:0<=C
 c1:C<2^400
theorem IG{E C:Int}{p:Fr}(r:Red p)(h:hW p E)(a:ef p C)(b:Bd E C):Nb E C p:=⟨r.pos,h,a,Oo (k:=2200) (m:=400) r h b.e0 b.e1 a b.c0 b.c1⟩
theorem Mu{E C D:Int}{p q:Fr}(h:Nb E C p)(h':Nb E D q)(b:Bd E (C+D)):Nb E (C+D) (cN p q):=IG (b_ (aa9 (aaE h.pos h'.pos))) (Ha h.pos h'.pos h.he h'.he) (KC h.pos h'.pos h.ab h'.ab) b
theorem Ai{E F C:Int}{c p:Fr}(c0:0<c.2)(hc:hW c F)(u:g6 c)(h:Nb E C p)(b:Bd (F*E) C):Nb (F*E) C (aA c p):=IG (b_ (aa9 (aaE c0 h.pos))) (rX c0 h.pos hc h.he) (Gp c0 h.pos u h.ab b.c0) b
theorem P9{p:Fr}{C D:Int}(h0:0<p.2)(h:ef p C)(hd:C<=D):ef p D:=by have:=aar hd (aaj h0);obtain ⟨a,b⟩:=h;exact ⟨by omega,by omega⟩
theorem Ux{E:Int}:Nb E 0 (0,1):=⟨by decide,⟨0,by simp⟩,⟨by decide,by decide⟩,qG (k:=1) ⟨by decide,by decide,by decide⟩ (by decide)⟩
theorem K3{p:Fr}(h:aM p=true):0<p.2/\p.2<=1000/\g6 p:=by unfold aM at h;rw [aao,aao,decide_eq_true_iff,decide_eq_true_iff,decide_eq_true_iff] at h;obtain ⟨h1,h2,h3⟩:=h;exact ⟨by omega,h3,h1,by omega⟩
theorem xS{n p:Nat}(h:p<n):Ih n (p:Int)=some p:=by unfold Ih;rw [if_pos (by omega),if_pos (by omega),abx]
theorem K'{M:Ms}{d:Dt}{xs:List Dt}(h:Gv M d=some xs):kU M d=some xs:=by cases d <;> first|exact h|cases h
theorem aZ{M:Ms}{o:MO}:(M++[o])[M.length]? =some o:=by simp
theorem yf{M:Ms}{k:Nat}{xs:List Dt}(h:M[k]? =some (MO.lst xs)):Gv M (.loc k)=some xs:=by show (match M[k]? with|some (MO.lst xs)=>some xs|_=>none)=some xs;rw [h]
theorem eO{M:Ms}{a c:MO}:(M++[a]).set M.length c=M++[c]:=by simp [List.set_append]
theorem Qh{M E:Ms}{o:MO}:(M++o::E)[M.length]? =some o:=by simp
theorem NF{M E:Ms}{o c:MO}:(M++o::E).set M.length c=M++c::E:=by simp [List.set_append]
abbrev ck(l:List Int):Dt:= .lst (l.map Dt.int)
abbrev jV(ls:List (List Int)):Dt:= .lst (ls.map ck)
theorem ED{ls:List (List Int)}{j:Nat}(h:j<ls.length):oJ (ls.map ck) (j:Int)=some (ck ls[j]):=Θ (by rw [aal,aaa h];rfl)
theorem jK{n:Nat}:∀(ls:List (List Int)),Dt.bC n (ls.map ck)
 |[]=>trivial
 |l::ls=>⟨ig l,jK ls⟩
abbrev cP:=Bz.cP
theorem AI{n i:Nat}(h:i<n):((List.replicate (n:Int).toNat [Dt.int 0]).flatten).set i (Dt.int 1)=(cP n i).map Dt.int:=by
 have e:(List.replicate (n:Int).toNat [Dt.int 0]).flatten=List.replicate n (Dt.int 0):=by
  rw [show ((n:Int)).toNat=n by omega];clear h
  induction n with
  |zero=>rfl
  |succ n ih=>rw [aa5,abp,ih];rfl
 rw [e];unfold cP Bz.cP;apply aa6
 ·simp
 ·intro j h1 h2;rw [List.getElem_set];simp only [List.getElem_replicate,List.getElem_map,List.getElem_range,Bz.ind];split <;> rfl
def NZ:DF:=λas M q _=>∃γ:List (List Int),as=[jV γ]/\γ.length<=12/\(∀r∈γ,r.length<=13)/\∀E,q (.loc M.length) (M++MO.lst (((List.range γ.length).map λi=>γ.getD i []++cP γ.length i).map ck)::E)
theorem dj:Δ ["rows","told","number","row","weights"] ["rows"] (τ jw):= .of rfl
theorem sH{f:Addr}{fd:FuncData}(F:cJ K "with_weights" "with_weights" jw f fd)(E:Ev K mg w Cm):ah P w K mg base (bU P w) 1 f fd ["rows"] (cC K NZ):=by
 refine F.df dj (λds M q x h=>?_) (λaT A outer s H E' hr=>⟨_,(η (Γ 1 dj.nd (kW θ))
   (η (dF (x8 E.eA (Υ (jv 0) θ)) (pM rfl (cG (aD (i:=2) dj.nd rfl (Or.inl rfl)) (cG (aD (i:=3) dj.nd rfl (Or.inl rfl)) ly))) mz (η (Γ 4 dj.nd (CV (eR 3 (d:= .lst [.int 0]) (by rfl)) (c8 E.bX (Υ (jv 0) θ))))
   (η (nD (jv 4) (jv 2) ω)
   (μ (eW (fR (jv 1) (ι (mR (jv 3) (jv 4)) θ (hs:=bV))))))))
   (μ (Ε (jv 1))))),λds M q x h=>?_⟩)
 ·obtain ⟨γ,rfl,_⟩:=h;rfl
 ·obtain ⟨γ,rfl,r12,r13,h⟩:=h;refine ⟨by decide,?_⟩;refine ⟨jV γ,γ.map ck,λ_=>True,rfl,rfl,?_⟩;refine cc (λxs ρ M'=>∃(k:Nat) (rest:List (List Int)) (E:Ms) (o1 o2 o3:Option Dt),xs=iT k (rest.map ck)/\γ.drop k=rest/\k<=γ.length/\M'=M++MO.lst (((List.range k).map λi=>γ.getD i []++cP γ.length i).map ck)::E/\ρ=[some (jV γ),some (.loc M.length),o1,o2,o3]) (λxs ρ M' hj=>trivial) (λx xs ρ M' hj ir=>?_) (λρ M' hj=>?_) _ _ _ ⟨0,γ,[],none,none,none,rfl,rfl,abP _,rfl,rfl⟩
  ·obtain ⟨k,rest,E,o1,o2,o3,ex,hd,hk,rfl,rfl⟩:=hj;cases rest with
   |nil=>cases ex
   |cons r rest=>
    cases ex;have uD:k<γ.length:=by
     rcases Nat.lt_or_ge k γ.length with z|z
     ·exact z
     ·rw [List.drop_of_length_le z] at hd;cases hd
    have rk:γ[k]=r:=by have:=abb uD;rw [hd] at this;exact (List.cons.inj this).1.symm
    have rg:γ.getD k []=r:=by rw [aab,aaa uD,rk];rfl
    have afo:=r13 r (by rw [<-rk];exact aay uD);have wD:γ.drop (k+1)=rest:=by have:=abb uD;rw [hd] at this;exact (List.cons.inj this).2.symm
    dsimp only [g2];walk_at "vc";refine (aE (d:=jV γ) (xs:=γ.map ck) rfl ?_:iD [jV γ] _ _);rw [aac];refine ⟨[.int 0],γ.length,rfl,rfl,by omega,by omega,?_,?_⟩
    ·show 1*((γ.length:Int)).toNat<=sizeLine;exact aap (show _<=12 by omega) (by decide)
    generalize hM2:M++MO.lst (((List.range k).map λi=>γ.getD i []++cP γ.length i).map ck)::E=M2;refine ⟨M2.length,k,_,k,rfl,rfl,aZ,?_,?_⟩
    ·have:((List.replicate (γ.length:Int).toNat [Dt.int 0]).flatten).length=γ.length:=by have:=congrArg List.length (AI uD);rw [aa4,aac] at this;rw [this];unfold cP Bz.cP;simp
     rw [this];exact xS uD
    rw [eO,AI uD];subst hM2;have eM:(M++MO.lst (((List.range k).map λi=>γ.getD i []++cP γ.length i).map ck)::E)++[MO.lst ((cP γ.length k).map Dt.int)]=M++MO.lst (((List.range k).map λi=>γ.getD i []++cP γ.length i).map ck)::(E++[MO.lst ((cP γ.length k).map Dt.int)]):=by simp
    have at3:((M++MO.lst (((List.range k).map λi=>γ.getD i []++cP γ.length i).map ck)::E)++[MO.lst ((cP γ.length k).map Dt.int)])[M.length]? =some (.lst (((List.range k).map λi=>γ.getD i []++cP γ.length i).map ck)):=by rw [eM];exact Qh
    refine ⟨⟨M.length,_,rfl,at3⟩,r.map Dt.int,(cP γ.length k).map Dt.int,rfl,yf aZ,?_,M.length,_,_,rfl,rfl,at3,?_,?_⟩
    ·rw [aac,aac];unfold cP Bz.cP;rw [aac,aaN];exact aap (show _<=30 by omega) (by decide)
    ·rw [aac,aac,aaN];exact aaM (show k<=12 by omega) (by decide)
    rw [eM,NF];refine ir _ _ ⟨k+1,rest,E++[MO.lst ((cP γ.length k).map Dt.int)],_,_,_,rfl,wD,uD,?_,rfl⟩;rw [List.range_succ,aaX,aaX];simp only [List.map_cons,List.map_nil];rw [rg,<-aaX]
  ·obtain ⟨k,rest,E,o1,o2,o3,ex,hd,hk,rfl,rfl⟩:=hj;cases rest with
   |cons r rest=>cases ex
   |nil=>
    have:k=γ.length:=by have:=congrArg List.length hd;rw [abj] at this;simp at this;omega
    subst this;exact h E
def SK:DF:=λas M q _=>∃(ls:List (List Int)) (f c:Nat),as=[jV ls,.int (f:Int),.int (c:Int)]/\f<=ls.length/\ls.length<=12/\(∀l∈ls,c<l.length)/\
 ((∀(k:Nat),f<=k->k<ls.length->(ls.getD k []).getD c 0=0)->q .bw M)/\
 (∀(k:Nat),f<=k->k<ls.length->(ls.getD k []).getD c 0≠0->q (.int (k:Int)) M)
theorem jZ:Δ ["lines","first","column","number"] ["lines","first","column"] (τ iJ):= .of rfl
theorem qz{f:Addr}{fd:FuncData}(F:cJ K "number_of_head" "number_of_head" iJ f fd)(E:Ev K mg w Cm):ah P w K mg base (bU P w) 1 f fd ["lines","first","column"] (cC K SK):=by
 refine F.df jZ (λds M q x h=>?_) (λaT A outer s H E' hr=>⟨_,(η (lZ (G_ E.cZ (Υ (jv 1) (ι (c8 E.bX (Υ (jv 0) θ)) θ (hs:=aQ)))) (aD (i:=3) jZ.nd rfl (Or.inl rfl)) ba (μ (aH (rH hr (Ν (Ν (jv 0) (jv 3)) (jv 2)) ω) (μ (Ε (jv 3))) Φ)))
   (μ (Ε Ma))),λds M q x h=>?_⟩)
 ·obtain ⟨ls,f,c,rfl,_⟩:=h;rfl
 ·obtain ⟨ls,f,c,rfl,hf,pk,hc,h1,h2⟩:=h;walk_at "vc";dsimp only [IW];walk_at "vc";refine (aE (d:=jV ls) (xs:=ls.map ck) rfl ?_:iD [jV ls] _ _);rw [aac];refine ⟨⟨by omega,by omega,by omega,by omega⟩,?_⟩;refine fG (λzs ρ M'=>M'=M/\∃(n k:Nat) (o:Option Dt),zs=e7 k n/\f<=k/\k+n=ls.length/\(∀j,f<=j->j<k->(ls.getD j []).getD c 0=0)/\ρ=[some (jV ls),some (.int (f:Int)),some (.int (c:Int)),o]) (λx zs ρ M' hj ir=>?_) (λρ M' hj=>?_) _ _ _ ⟨rfl,ls.length-f,f,none,?_,aai _,by omega,λj a b=>absurd a (by omega),rfl⟩
  ·obtain ⟨rfl,n,k,o,ex,hk,hn,hz,rfl⟩:=hj;obtain ⟨m,rfl,rfl,rfl⟩:=fo ex;have kl:k<ls.length:=by omega
   have hl:=hc _ (aay kl);have e1:(ls.getD k []).getD c 0=(ls[k])[c]:=by rw [aab,aab,aaa kl];show ((ls[k])[c]?).getD 0=_;rw [aaa hl];rfl
   walk_at "vc";refine (Ι (d:=jV ls) rfl (ED kl) ?_:fV (jV ls) (.int (k:Int)) _ _);refine (Ι (d:=ck ls[k]) rfl (hU hl) ?_:fV (ck ls[k]) (.int (c:Int)) _ _);refine ⟨λz=>?_,λz=>?_⟩
   ·have z:(!decide ((ls[k])[c]=0))=true:=z;refine h2 k hk kl ?_;rw [e1];intro y;rw [decide_eq_true y] at z;exact nomatch z
   ·have z:(!decide ((ls[k])[c]=0))=false:=z;have z0:(ls[k])[c]=0:=by
     rcases Decidable.em ((ls[k])[c]=0) with y|y
     ·exact y
     ·rw [decide_eq_false y] at z;exact nomatch z
    refine ir _ _ ⟨rfl,m,k+1,_,by simp,by omega,by omega,λj a b=>?_,rfl⟩;by_cases e:j=k
    ·rw [e,e1];exact z0
    ·exact hz j a (by omega)
  ·obtain ⟨rfl,n,k,o,ex,hk,hn,hz,rfl⟩:=hj;have hn0:n=0:=by have:=congrArg List.length ex;unfold e7 at this;simpa using this.symm
   exact h1 λj a b=>hz j a (by omega)
  ·rw [show ((ls.length:Int)-(f:Int)).toNat=ls.length-f by omega]
abbrev j4:=Bz.j4
def Kc:DF:=λas M q _=>∃(ls:List (List Int)) (f k:Nat),as=[jV ls,.int (f:Int),.int (k:Int)]/\f<=k/\k<ls.length/\ls.length<=12/\q (jV (j4 ls f k)) M
theorem yu:Δ ["lines","first","number"] ["lines","first","number"] (τ j7):= .of rfl
theorem ui{f:Addr}{fd:FuncData}(F:cJ K "moved_ahead" "moved_ahead" j7 f fd)(E:Ev K mg w Cm):ah P w K mg base (bU P w) 1 f fd ["lines","first","number"] (cC K Kc):=by
 refine F.df yu (λds M q x h=>?_) (λaT A outer s H E' hr=>⟨_,(μ (Ε (mR (mR (mR (b9 (wQ (jv 0) (jv 1))) (lH (ι (Ν (jv 0) (jv 2)) θ (hs:=aV)))) (b9 (uZ (jv 0) (jv 1) (jv 2)))) (b9 (pV (jv 0) (cI (jv 2) ω)))))),λds M q x h=>?_⟩)
 ·obtain ⟨ls,f,k,rfl,_⟩:=h;rfl
 ·obtain ⟨ls,f,k,rfl,hf,hk,pk,h⟩:=h;have gk:ls.getD k []=ls[k]:=by rw [aab,aaa hk];rfl
  have sz:∀{n:Nat},n<=40->n<=sizeLine:=λh=>aap h (by decide);refine ⟨ls.map ck,f,rfl,rfl,?_⟩;rw [<-ab8];refine da (jK _) ?_;walk_at "vc";refine (Ι (d:=jV ls) rfl (ED hk) ?_:fV (jV ls) (.int (k:Int)) _ _);refine ⟨sz (by show 1<=40;decide),(ls.take f).map ck,[ck ls[k]],rfl,rfl,sz (by simp;omega),?_⟩;refine ⟨f,rfl,ls.map ck,k,rfl,rfl,?_⟩;rw [<-ab9,<-ab8];refine da (jK _) ?_;refine ⟨(ls.take f).map ck++[ck ls[k]],((ls.drop f).take (k-f)).map ck,rfl,rfl,sz (by simp;omega),?_⟩;refine ⟨ls.map ck,k+1,rfl,rfl,?_⟩;rw [<-ab9];refine da (jK _) ?_;refine ⟨(ls.take f).map ck++[ck ls[k]]++((ls.drop f).take (k-f)).map ck,(ls.drop (k+1)).map ck,rfl,rfl,sz (by simp;omega),?_⟩;unfold j4 Bz.j4 at h;rw [gk] at h;have e:(ls.take f).map ck++[ck ls[k]]++((ls.drop f).take (k-f)).map ck++(ls.drop (k+1)).map ck=(ls.take f++[ls[k]]++(ls.drop f).take (k-f)++ls.drop (k+1)).map ck:=by rw [aaX,aaX,aaX];rfl
  rw [e];exact h
abbrev cT:=Bz.cT
def Cs:DF:=λas M q _=>∃(l h:List Int) (c:Nat) (d:Int),as=[ck l,ck h,.int (c:Int),.int d]/\l.length=h.length/\h.length<=30/\c<h.length/\(∀x∈l,iL x)/\(∀x∈h,iL x)/\d≠0/\iL d/\q (ck (cT l h c d)) M
theorem lK:Δ ["line","head","column","divisor"] ["line","head","column","divisor"] (τ ju):= .of rfl
theorem rW{f:Addr}{fd:FuncData}(F:cJ K "cleared_line" "cleared_line" ju f fd)(E:Ev K mg w Cm):ah P w K mg base (bU P w) 1 f fd ["line","head","column","divisor"] (cC K Cs):=by
 refine F.df lK (λds M q x h=>?_) (λaT A outer s H E' hr=>⟨_,(μ (Ε (EK (ys:=["divisor","head","column","line"]) (ae:=[3,1,2,0]) (.of lK rfl rfl rfl) (Bj E.vc (Υ (jv 0) (Υ (jv 1) θ))) (λC s H fp=>(CT (uU (aR (Ν (jv 3) (jv 4)) (jv 0)) (aR (Ν (jv 5) (jv 4)) (jv 1))) (jv 2)))))),λds M q x h=>?_⟩)
 ·obtain ⟨l,h',c,d,rfl,_⟩:=h;rfl
 ·obtain ⟨l,hd,c,d,rfl,hl,h30,hc,bl,bh,d0,bd,h⟩:=h;have cl:c<l.length:=by omega
  have g1:hd.getD c 0=hd[c]:=by rw [aab,aaa hc];rfl
  have g2':l.getD c 0=l[c]:=by rw [aab,aaa cl];rfl
  refine ⟨ck l,ck hd,l.map Dt.int,hd.map Dt.int,λ_=>True,λ_=>True,rfl,rfl,rfl,?_⟩;have ez:qA (l.map Dt.int) (hd.map Dt.int)=(l.zip hd).map λp=> .tup [.int p.1,.int p.2]:=by unfold qA;rw [List.zip_map,aau];rfl
  rw [ez];refine ⟨?_,?_⟩
  ·rw [aac,abi];exact aap (show _<=30 by omega) (by decide)
  refine kZ ⟨trivial,trivial⟩ (λx=>match x with|.tup [.int a,.int b]=> .int ((hd.getD c 0*a-l.getD c 0*b).fdiv d)|_=> .bw) _ _ (λx hx q' hq=>?_) ?_
  ·obtain ⟨p,hp,rfl⟩:=aag.mp hx;have hq:q' (.int ((hd.getD c 0*p.1-l.getD c 0*p.2).fdiv d)) M:=hq;have p1:=bl p.1 (abf hp).1;have p2:=bh p.2 (abf hp).2;rw [g1,g2'] at hq;have key:fV (ck hd) (.int (c:Int)) M (λx M1=>K1 x (.int p.1) M1 λy M2=>fV (ck l) (.int (c:Int)) M2 λz M3=>K1 z (.int p.2) M3 λu M4=>CH y u M4 λv M5=>Eg v (.int d) M5 q'):=by refine Ι (d:=ck hd) rfl (hU hc) ⟨⟨bh _ (aay hc),p1⟩,?_⟩;refine Ι (d:=ck l) rfl (hU cl) ⟨⟨bl _ (aay cl),p2⟩,?_⟩;exact ⟨⟨d0,bd⟩,hq⟩
   exact key
  ·rw [aaF,aau];unfold cT Bz.cT at h;rw [show ck ((l.zip hd).map λp=>(hd.getD c 0*p.1-l.getD c 0*p.2).fdiv d)= .lst ((l.zip hd).map λp=>Dt.int ((hd.getD c 0*p.1-l.getD c 0*p.2).fdiv d)) by show Dt.lst _=_;rw [aau];rfl] at h;exact h
theorem zR{a b:Int}(h0:0<=a)(h:a<=b):∀n:Nat,a^n<=b^n
 |0=>by rw [Int.pow_zero,Int.pow_zero];exact Int.le_refl _
 |n+1=>by rw [abD,abD];exact abr (zR h0 h n) h h0 (abF (by omega))
theorem Cb{x B:Int}{r:Nat}(h:Bz.Ab x (Bz.top B r))(h1:1<=B)(hB:B<=2^450)(hr:r<=12):iL x:=by
 have e1:Bz.top B r<=(12*B)^15:=Bz.ye h1 (by omega);have e2:(12*B)^15<=(12*2^450)^15:=zR (by omega) (by omega) 15;have e3:((12*2^450)^15:Int)<((2^8000:Nat):Int):=by decide
 have:(x.natAbs:Int)<((2^8000:Nat):Int):=by obtain ⟨a,b⟩:=h;omega
 exact abE.mp this
section
variable{A:Nat->Bz.Row}{n col:Nat}{ρ ν:List Nat}{qq:Nat->Nat}{d:Int}{W:Nat->Bz.Row}
theorem zL{m:Nat}{B:Int}(t:Bz.Turn A n col ρ ν qq d W)(b:Bz.Bd A n m B)(hB:B<=2^450)(hm:col<=m)(hr:ρ.length<=12):(∀i,i<n->∀x∈Bz.az A n m (W i),iL x)/\iL d:=by
 obtain ⟨a1,a2,a3⟩:=t.st.abs b (λc hc=>aat (t.cl c hc) hm) hr;refine ⟨λi hi x hx=>?_,Cb a3 b.b1 hB hr⟩;unfold Bz.az at hx;rcases aaP.mp hx with z|z
 ·obtain ⟨y,hy,rfl⟩:=aag.mp z;exact Cb (a2 i y hi (aaT.mp hy)) b.b1 hB hr
 ·obtain ⟨y,hy,rfl⟩:=aag.mp z;exact Cb (a1 i y hi) b.b1 hB hr
end
def oa(n:Nat):Dt:= .int n
theorem DD{n:Nat}:∀(l:List Nat),Dt.bC n (l.map oa)
 |[]=>trivial
 |_::l=>⟨trivial,DD l⟩
theorem vQ{A:Nat->Bz.Row}{n m:Nat}{W:Nat->Bz.Row}{l:List Int}(h:l∈Bz.af A n m W):∃i,i<n/\l=Bz.az A n m (W i):=by unfold Bz.af at h;obtain ⟨i,hi,e⟩:=aag.mp h;exact ⟨i,aaT.mp hi,e.symm⟩
theorem tL{α:Type}(a:α):∀u:Nat,(List.replicate u [a]).flatten=List.replicate u a
 |0=>rfl
 |u+1=>by rw [aa5,abp,tL a u];rfl
structure Cd(γ:List (List Int))(u:Nat)(B:Int):Prop where
 n1:1<=γ.length
 vg:γ.length<=12
 RL:u<=12
 ml:∀r∈γ,r.length=u+1
 bd:Bz.Bd (Bz.arr γ) γ.length (u+1) B
 i_:B<=2^450
def zo:DF:=λas M q _=>∃(γ:List (List Int)) (u:Nat) (B:Int),as=[jV γ,.int (u:Int)]/\Cd γ u B/\
 ∀ρ ν qq d W,Bz.Turn (Bz.arr γ) γ.length u ρ ν qq d W->q (.tup [jV (Bz.af (Bz.arr γ) γ.length (u+1) W),.loc M.length]) (M++[.lst (ν.map oa)])
theorem a_:Δ ["rows","unknowns","lines","columns","divisor","column","rank","number","head","above","below"] ["rows","unknowns"] (τ sf):= .of rfl
theorem Ca{f:Addr}{fd:FuncData}(F:cJ K "cleared" "cleared" sf f fd)(E:Ev K mg w Cm){yn:Addr}{xX:FuncData}(iz:aw P w K mg base 1 "with_weights" ["rows"] NZ yn xX){uc:Addr}{uj:FuncData}(gR:aw P w K mg base 1 "number_of_head" ["lines","first","column"] SK uc uj){zv:Addr}{zX:FuncData}(jn:aw P w K mg base 1 "moved_ahead" ["lines","first","number"] Kc zv zX){w8:Addr}{wA:FuncData}(ft:aw P w K mg base 1 "cleared_line" ["line","head","column","divisor"] Cs w8 wA):ah P w K mg base (bU P w) 2 f fd ["rows","unknowns"] (cC K zo):=by
 refine F.df a_ (λds M q x h=>?_) (λaT A outer s H E' hr=>⟨_,(η (Γ 2 a_.nd (b9 (ag iz hr ξ (Υ (jv 0) θ))))
   (η (Γ 3 a_.nd (kW θ))
   (η (Γ 4 a_.nd ω)
   (η (lZ (eY E.cZ (Υ (jv 1) θ)) (aD (i:=5) a_.nd rfl (Or.inr rfl)) ba (η (Γ 6 a_.nd (c8 E.bX (Υ (jv 3) θ)))
   (η (Γ 7 a_.nd (ag gR hr ξ (Υ (jv 2) (Υ (jv 6) (Υ (jv 5) θ)))))
   (η (aH (J9 (jv 7) Ma) (μ qo) Φ)
   (η (Γ 2 a_.nd (ag jn hr ξ (Υ (jv 2) (Υ (jv 6) (Υ (jv 7) θ)))))
   (η (Γ 8 a_.nd (Ν (jv 2) (jv 6)))
   (η (iq (i:=9) a_.nd rfl (Or.inl rfl) (ys:=["head","column","divisor"]) (ae:=[8,5,4]) (.of a_ rfl rfl rfl) (bf (b9 (wQ (jv 2) (jv 6)))) (λC s H fp=>(ag ft hr (fB (P:=P) (w:=w)) (Υ (jv 0) (Υ (jv 1) (Υ (jv 2) (Υ (jv 3) θ)))))))
   (η (iq (i:=10) a_.nd rfl (Or.inl rfl) (ys:=["head","column","divisor"]) (ae:=[8,5,4]) (.of a_ rfl rfl rfl) (bf (b9 (pV (jv 2) (cI (jv 6) ω)))) (λC s H fp=>(ag ft hr (fB (P:=P) (w:=w)) (Υ (jv 0) (Υ (jv 1) (Υ (jv 2) (Υ (jv 3) θ)))))))
   (η (Γ 2 a_.nd (mR (mR (jv 9) (lH (Υ (jv 8) θ))) (jv 10)))
   (η (Γ 4 a_.nd (Ν (jv 8) (jv 5)))
   (μ (eW (fR (jv 3) (Υ (jv 5) θ))))))))))))))
   (μ (Ε (c7 (Υ (jv 2) (Υ (jv 3) θ))))))))),λds M q x h=>?_⟩)
 ·obtain ⟨γ,u,B,rfl,_⟩:=h;rfl
 ·obtain ⟨γ,u,B,rfl,ro,h⟩:=h;have n1:=ro.n1;have vg:=ro.vg;have RL:=ro.RL;refine ⟨γ,rfl,vg,λr fW=>by rw [ro.ml r fW];omega,λE0'=>?_⟩;rw [Bz.AU ro.ml];refine iG (d':=jV (Bz.af (Bz.arr γ) γ.length (u+1) λi=>Bz.ind i)) (.Aa (Nat.le_refl _) (by simp) (gI.old (jK _))) ?_;generalize hA:Bz.arr γ=A at *
  generalize hn:γ.length=n at *
  refine ⟨by decide,?_⟩;walk_at "vc";refine ⟨⟨by omega,by omega⟩,?_⟩;refine fG (λzs ρ' M'=>∃(c k:Nat) (ρ ν:List Nat) (qq:Nat->Nat) (d:Int) (W:Nat->Bz.Row) (o1 o2 o3 o4 o5 o6:Option Dt),zs=e7 k c/\k+c=u/\Bz.Turn A n k ρ ν qq d W/\M'=M++[MO.lst (ν.map oa)]/\ρ'=[some (jV γ),some (.int (u:Int)),some (jV (Bz.af A n (u+1) W)),some (.loc M.length),some (.int d),o1,o2,o3,o4,o5,o6]) (λx zs ρ' M' hj ir=>?_) (λρ' M' hj=>?_) _ _ _ ⟨u,0,[],[],id,1,_,none,none,none,none,none,none,by simp,by simp,Bz.Turn.start,rfl,rfl⟩
  ·obtain ⟨c,k,ρ,ν,qq,d,W,o1,o2,o3,o4,o5,o6,ex,hkc,t,rfl,rfl⟩:=hj;obtain ⟨m,rfl,rfl,rfl⟩:=fo ex;have lc:ν.length=ρ.length:=t.st.lc;have rn:ρ.length<=n:=t.st.rn;have hs1:kU (M++[MO.lst (ν.map oa)]) (.loc M.length)=some (ν.map oa):=K' (yf aZ);walk_at "vc";refine (aE (d:= .loc M.length) hs1 ?_:iD [.loc M.length] _ _);rw [aac,lc];refine ⟨Bz.af A n (u+1) W,ρ.length,k,rfl,by rw [Bz.cY];exact rn,by rw [Bz.cY];exact vg,λl hl=>?_,λhz=>?_,λk' h1 h2 h0=>?_⟩
   ·obtain ⟨i,_,rfl⟩:=vQ hl;rw [Bz.eN];omega
   ·refine ⟨λ_=>?_,λz=>(nomatch z)⟩;refine ir _ _ ⟨m,k+1,ρ,ν,qq,d,W,_,_,_,_,_,_,by simp,by omega,t.skip λi a b=>?_,rfl,rfl⟩;have:=hz i a (by rw [Bz.cY];exact b);rw [Bz.ky b,Bz.hX (by omega)] at this;exact this
   ·rw [Bz.cY] at h2;rw [Bz.ky h2,Bz.hX (show k<u+1 by omega)] at h0;refine ⟨λz=>(nomatch z),λ_=>?_⟩;refine ⟨Bz.af A n (u+1) W,ρ.length,k',rfl,h1,by rw [Bz.cY];exact h2,by rw [Bz.cY];exact vg,?_⟩;rw [show j4 (Bz.af A n (u+1) W) ρ.length k'=_ from Bz.zK h1 h2];have t1:=t.move h1 h2;have RC:ρ.length<n:=by omega
    have h0':Bz.rv A n (W (Bz.jf ρ.length k' ρ.length)) k≠0:=by
     have:Bz.jf ρ.length k' ρ.length=k':=by unfold Bz.jf;rw [if_neg (Nat.lt_irrefl _),if_pos rfl]
     rw [this];exact h0
    clear h0 h1 h2 t;generalize hW1:(λi=>W (Bz.jf ρ.length k' i))=W1 at *
    generalize UL:(λi=>qq (Bz.jf ρ.length k' i))=q1 at *
    have e1:W (Bz.jf ρ.length k' ρ.length)=W1 ρ.length:=by rw [<-hW1]
    rw [e1] at h0';obtain ⟨bl,bd⟩:=zL t1 (m:=u+1) (by subst hA hn;exact ro.bd) ro.i_ (by omega) (by omega);obtain ⟨W',t2,el⟩:=t1.step (m:=u+1) RC (by omega) h0';have PC:(Bz.af A n (u+1) W1).length=n:=Bz.cY;have hdg:(Bz.af A n (u+1) W1)[ρ.length]'(by rw [PC];exact RC)=Bz.az A n (u+1) (W1 ρ.length):=by have:=Bz.ky (A:=A) (m:=u+1) (W:=W1) RC;rw [aab,aaa (by rw [PC];exact RC)] at this;exact this
    have clr:∀l∈Bz.af A n (u+1) W1,∀q':DQ,q' (ck (cT l (Bz.az A n (u+1) (W1 ρ.length)) k d)) (M++[MO.lst (ν.map oa)])->Cs [ck l,ck (Bz.az A n (u+1) (W1 ρ.length)),.int (k:Int),.int d] (M++[MO.lst (ν.map oa)]) q' (λC fs M'=>k4 [] C fs M'):=λl hl q' vS=>by obtain ⟨i,hi,rfl⟩:=vQ hl;exact ⟨_,_,k,d,rfl,by rw [Bz.eN,Bz.eN],by rw [Bz.eN];omega,by rw [Bz.eN];omega,bl i hi,bl _ RC,t1.d0,bd,vS⟩
    walk_at "vc";refine (Ι (d:=jV (Bz.af A n (u+1) W1)) rfl (ED (by rw [PC];exact RC)) ?_:fV (jV (Bz.af A n (u+1) W1)) (.int (ρ.length:Int)) _ _);rw [hdg];have sz:∀{z:Nat},z<=40->z<=sizeLine:=λh=>aap h (by decide);refine ⟨(Bz.af A n (u+1) W1).map ck,ρ.length,rfl,rfl,?_⟩;rw [<-ab8];refine da (jK _) ⟨sz (by rw [aac,abN];omega),?_⟩;refine cB (F:=λx a=>x=ck a/\a∈Bz.af A n (u+1) W1) (f:=λl=>ck (cT l (Bz.az A n (u+1) (W1 ρ.length)) k d)) trivial (λx a ha q' vS=>by obtain ⟨rfl,ha⟩:=ha;exact clr a ha q' vS) (gJ ck _ _ λ_ h=>List.mem_of_mem_take h) ?_;rw [aaF];refine ⟨(Bz.af A n (u+1) W1).map ck,ρ.length+1,rfl,rfl,?_⟩;rw [<-ab9];refine da (jK _) ⟨sz (by rw [aac,abj];omega),?_⟩;refine cB (F:=λx a=>x=ck a/\a∈Bz.af A n (u+1) W1) (f:=λl=>ck (cT l (Bz.az A n (u+1) (W1 ρ.length)) k d)) trivial (λx a ha q' vS=>by obtain ⟨rfl,ha⟩:=ha;exact clr a ha q' vS) (gJ ck _ _ λ_ h=>List.mem_of_mem_drop h) ?_;rw [aaF];refine ⟨by show 1<=sizeLine;decide,_,_,rfl,rfl,sz (by simp;omega),_,_,rfl,rfl,sz (by simp;omega),?_⟩;have ek:k<(Bz.az A n (u+1) (W1 ρ.length)).length:=by rw [Bz.eN];omega
    have ev:(Bz.az A n (u+1) (W1 ρ.length))[k]=Bz.rv A n (W1 ρ.length) k:=by have:=Bz.hX (A:=A) (n:=n) (m:=u+1) (x:=k) (w:=W1 ρ.length) (by omega);rw [aab,aaa ek] at this;exact this
    refine Ι (d:=ck (Bz.az A n (u+1) (W1 ρ.length))) rfl (hU ek) ?_;rw [ev];refine ⟨⟨M.length,_,rfl,aZ⟩,M.length,_,_,rfl,rfl,aZ,?_,?_⟩
    ·rw [aac,lc];exact aaM (show _<=12 by omega) (by decide)
    rw [eO];have ee:=congrArg (List.map ck) el;rw [aaX,aaX,aau,aau] at ee;refine ir _ _ ⟨m,k+1,ρ++[q1 ρ.length],ν++[k],q1,_,W',some (.int (k:Int)),some (.int (ρ.length:Int)),some (.int (k':Int)),some (ck (Bz.az A n (u+1) (W1 ρ.length))),some (.lst (((Bz.af A n (u+1) W1).take ρ.length).map λl=>ck (cT l (Bz.az A n (u+1) (W1 ρ.length)) k d))),some (.lst (((Bz.af A n (u+1) W1).drop (ρ.length+1)).map λl=>ck (cT l (Bz.az A n (u+1) (W1 ρ.length)) k d))),by simp,by omega,t2,by simp [oa],?_⟩;show _=[some (jV γ),some (Dt.int (u:Int)),some (Dt.lst ((Bz.af A n (u+1) W').map ck)),some (Dt.loc M.length),some (Dt.int _),_,_,_,_,_,_];rw [<-ee];rfl
  ·obtain ⟨c,k,ρ,ν,qq,d,W,o1,o2,o3,o4,o5,o6,ex,hkc,t,rfl,rfl⟩:=hj;have hn0:c=0:=by have:=congrArg List.length ex;unfold e7 at this;simpa using this.symm
   have:k=u:=by omega
   subst this;exact ⟨by show 2<=sizeLine;decide,h _ _ _ _ _ t⟩
def OG:DF:=λas M q _=>∃(γ:List (List Int)) (u:Nat) (B:Int) (ρ ν:List Nat) (qq:Nat->Nat) (d:Int) (W:Nat->Bz.Row),as=[jV (Bz.af (Bz.arr γ) γ.length (u+1) W),.lst (ν.map oa),.int (u:Int),.int (u:Int)]/\Cd γ u B/\Bz.Turn (Bz.arr γ) γ.length u ρ ν qq d W/\ν=List.range u/\
 q (.loc M.length) (M++[.lst ((List.range u).map λi=>Τ (aq (Bz.rv (Bz.arr γ) γ.length (W i) u) d))])
theorem h_:Δ ["lines","columns","unknowns","source","told","line","column"] ["lines","columns","unknowns","source"] (τ mq):= .of rfl
theorem x3{f:Addr}{fd:FuncData}(F:cJ K "quotients" "quotients" mq f fd)(E:Ev K mg w Cm){ff:Addr}{fh:FuncData}(bc:aw P w K mg base 2 "fraction" ["top","bottom"] sX ff fh):ah P w K mg base (bU P w) 3 f fd ["lines","columns","unknowns","source"] (cC K OG):=by
 refine F.df h_ (λds M q x h=>?_) (λaT A outer s H E' hr=>⟨_,(η (Γ 4 h_.nd (CV (eR 3 (d:= .lst [.tup [.int 0,.int 1]]) (by rfl)) (jv 2)))
   (η (dF (Bj E.vc (Υ (jv 0) (Υ (jv 1) θ))) (pM rfl (cG (aD (i:=5) h_.nd rfl (Or.inl rfl)) (cG (aD (i:=6) h_.nd rfl (Or.inl rfl)) ly))) mz (μ (nD (jv 4) (jv 6) (ag bc hr ξ (ι (Ν (jv 5) (jv 3)) (ι (Ν (jv 5) (jv 6)) θ (hs:=aV)) (hs:=aV))))))
   (μ (Ε (jv 4))))),λds M q x h=>?_⟩)
 ·obtain ⟨γ,u,B,ρ,ν,qq,d,W,rfl,_⟩:=h;rfl
 ·obtain ⟨γ,u,B,ρ,ν,qq,d,W,rfl,ro,t,hc,h⟩:=h;have RL:=ro.RL;have vg:=ro.vg;have hl:ρ.length=u:=by rw [<-t.st.lc,hc,aaN]
  have un:u<=γ.length:=by rw [<-hl];exact t.st.rn
  obtain ⟨bl,bd⟩:=zL t (m:=u+1) ro.bd ro.i_ (by omega) (by omega);have d0:=t.d0;have one:∀i,i<u->Bz.rv (Bz.arr γ) γ.length (W i) i=d:=λi hi=>by have:=t.st.one i i (by omega) (by omega);rw [if_pos rfl,hc,aab,aaH hi] at this;exact this
  generalize hA:Bz.arr γ=A at *
  generalize hn:γ.length=n at *
  let tl:Nat->List Dt:=λk=>(List.range u).map λi=>if i<k then Τ (aq (Bz.rv A n (W i) u) d) else Τ (0,1)
  have t0:(List.replicate (u:Int).toNat [Τ (0,1)]).flatten=tl 0:=by
   show _=(List.range u).map λi=>if i<0 then _ else Τ (0,1)
   rw [show ((u:Int)).toNat=u by omega];apply aa6
   ·simp
   ·intro j h1 h2;have e:(List.replicate u [Τ (0,1)]).flatten=List.replicate u (Τ (0,1)):=tL _ u;simp [e]
  have ts:∀k,k<u->(tl k).set k (Τ (aq (Bz.rv A n (W k) u) d))=tl (k+1):=λk hk=>by
   apply aa6
   ·simp [tl]
   ·intro j h1 h2;rw [List.getElem_set];simp only [tl,List.getElem_map,List.getElem_range];by_cases e:k=j
    ·subst e;rw [if_pos rfl,if_pos (by omega)]
    ·rw [if_neg e];by_cases f:j<k
     ·rw [if_pos f,if_pos (by omega)]
     ·rw [if_neg f,if_neg (by omega)]
  refine ⟨[Τ (0,1)],u,rfl,rfl,by omega,by omega,?_,?_⟩
  ·show 1*((u:Int)).toNat<=sizeLine;exact aap (show _<=12 by omega) (by decide)
  rw [t0];refine ⟨jV (Bz.af A n (u+1) W),.lst (ν.map oa),_,_,λ_=>True,λ_=>True,rfl,rfl,rfl,?_⟩;have ez:qA ((Bz.af A n (u+1) W).map ck) (ν.map oa)=(List.range u).map λi=> .tup [ck (Bz.az A n (u+1) (W i)),oa i]:=by
   unfold qA Bz.af;rw [hc];apply aa6
   ·simp;omega
   ·intro j h1 h2;simp
  rw [ez];refine cc (λzs ρ' M'=>∃(k:Nat) (o1 o2:Option Dt),k<=u/\zs=((List.range u).drop k).map (λi=> .tup [ck (Bz.az A n (u+1) (W i)),oa i])/\M'=M++[MO.lst (tl k)]/\ρ'=[some (jV (Bz.af A n (u+1) W)),some (.lst (ν.map oa)),some (.int (u:Int)),some (.int (u:Int)),some (.loc M.length),o1,o2]) (λzs ρ' M' hj=>⟨trivial,trivial⟩) (λx zs ρ' M' hj ir=>?_) (λρ' M' hj=>?_) _ _ _ ⟨0,none,none,abP _,rfl,rfl,rfl⟩
  ·obtain ⟨k,o1,o2,hk,ex,rfl,rfl⟩:=hj;have uD:k<u:=by
    rcases Nat.lt_or_ge k u with z|z
    ·exact z
    ·rw [List.drop_of_length_le (by simpa using z)] at ex;cases ex
   rw [List.drop_eq_getElem_cons (by simpa using uD),List.map_cons,List.getElem_range] at ex;cases ex;have ek:k<(Bz.az A n (u+1) (W k)).length:=by rw [Bz.eN];omega
   have eu:u<(Bz.az A n (u+1) (W k)).length:=by rw [Bz.eN];omega
   have v1:(Bz.az A n (u+1) (W k))[k]=d:=by have:=Bz.hX (A:=A) (n:=n) (m:=u+1) (x:=k) (w:=W k) (by omega);rw [aab,aaa ek] at this;rw [<-one k uD];exact this
   have v2:(Bz.az A n (u+1) (W k))[u]=Bz.rv A n (W k) u:=by have:=Bz.hX (A:=A) (n:=n) (m:=u+1) (x:=u) (w:=W k) (by omega);rw [aab,aaa eu] at this;exact this
   dsimp only [g2,yF];walk_at "vc";refine Ι (d:=ck (Bz.az A n (u+1) (W k))) rfl (hU eu) ?_;refine Ι (d:=ck (Bz.az A n (u+1) (W k))) rfl (hU ek) ?_;rw [v1,v2];refine ⟨bd,λz=>absurd z d0,λ_=>?_⟩;refine ⟨M.length,k,_,k,rfl,rfl,aZ,?_,?_⟩
   ·rw [show (tl k).length=u by simp [tl]];exact xS uD
   rw [eO];refine ir _ _ ⟨k+1,_,_,uD,rfl,?_,rfl⟩;rw [<-ts k uD];rfl
  ·obtain ⟨k,o1,o2,hk,ex,rfl,rfl⟩:=hj;have:k=u:=by have:=congrArg List.length ex;simp at this;omega
   subst this;have e:tl k=(List.range k).map λi=>Τ (aq (Bz.rv A n (W i) k) d):=aaO λi hi=>by rw [if_pos (aaT.mp hi)]
   rw [e];exact h
def yz:DF:=λas M q _=>∃(γ:List (List Int)) (u:Nat) (B:Int) (Du:List Fr) (z:Bz.Row) (N:Int),as=[jV γ]/\Cd γ u B/\1<=u/\Du.length=u/\Bz.Q9 (Bz.arr γ) γ.length u z N/\N≠0/\
 (∀i,i<u->0<(Du.getD i (0,1)).2/\Int.gcd (Du.getD i (0,1)).1 (Du.getD i (0,1)).2=1/\N*(Du.getD i (0,1)).1=z i*(Du.getD i (0,1)).2)/\
 (∀y:Bz.Row,(∀k,k<γ.length->Bz.Β (λx=>Bz.arr γ k x*y x) u=0)->∀x,x<u->y x=0)/\q (.loc M.length) (M++[.lst (Du.map Τ)])
theorem dZ:Δ ["rows","unknowns","found","lines","columns","line","answer"] ["rows"] (τ oO):= .of rfl
theorem Ad{f:Addr}{fd:FuncData}(F:cJ K "answer_of" "answer_of" oO f fd)(E:Ev K mg w Cm){Kp:Addr}{K_:FuncData}(pT:aw P w K mg base 2 "cleared" ["rows","unknowns"] zo Kp K_){BZ:Addr}{Bv:FuncData}(kJ:aw P w K mg base 3 "quotients" ["lines","columns","unknowns","source"] OG BZ Bv):ah P w K mg base (bU P w) 4 f fd ["rows"] (cC K yz):=by
 refine F.df dZ (λds M q x h=>?_) (λaT A outer s H E' hr=>⟨_,(η (Γ 1 dZ.nd (uU (c8 E.bX (ι (Ν (jv 0) ω) θ (hs:=aV))) ω))
   (η (Γ 2 dZ.nd (b9 (ag pT hr ξ (Υ (jv 0) (Υ (jv 1) θ)))))
   (η (Γ 3 dZ.nd (Ν (jv 2) ω))
   (η (Γ 4 dZ.nd (Ν (jv 2) ω))
   (η (dF (bf (b9 (pV (jv 3) (c8 E.bX (Υ (jv 4) θ))))) (aD (i:=5) dZ.nd rfl (Or.inl rfl)) ba (μ (aH (rH hr (Ν (jv 5) (jv 1)) ω) (μ fL) Φ)))
   (η (Γ 6 dZ.nd (ag kJ hr ξ (Υ (jv 3) (Υ (jv 4) (Υ (jv 1) (Υ (jv 1) θ))))))
   (η (aH (vp (c8 E.bX (Υ (jv 4) θ)) (jv 1)) (μ fL) Φ)
   (μ (Ε (jv 6)))))))))),λds M q x h=>?_⟩)
 ·obtain ⟨γ,u,B,Du,z,N,rfl,_⟩:=h;rfl
 ·obtain ⟨γ,u,B,Du,z,N,rfl,ro,u1,dl,sol,hN,Wt,XW,h⟩:=h;have n1:=ro.n1;have vg:=ro.vg;have RL:=ro.RL;have r0:0<γ.length:=by omega
  have m0:γ[0].length=u+1:=ro.ml _ (aay r0);walk_at "vc";refine (Ι (d:=jV γ) rfl (ED r0) ?_:fV (jV γ) (.int 0) _ _);refine (aE (d:=ck γ[0]) (xs:=γ[0].map Dt.int) rfl ?_:iD [ck γ[0]] _ _);rw [aac,m0];dsimp only [CH];rw [show (((u+1:Nat):Int)-1)=(u:Int) by omega];refine ⟨γ,u,B,rfl,ro,λρ ν qq d W t=>?_⟩;have Ec:ν=List.range u:=by
   rcases t.all with e|⟨x,hx,hf⟩
   ·exact e
   ·obtain ⟨y,y1,y2⟩:=t.kernel hx hf;have:=XW y y2 x hx;rw [this] at y1;exact absurd (by omega) t.d0
  have hl:ρ.length=u:=by rw [<-t.st.lc,Ec,aaN]
  have un:u<=γ.length:=by rw [<-hl];exact t.st.rn
  refine iG (d':= .tup [jV (Bz.af (Bz.arr γ) γ.length (u+1) W),.lst (ν.map oa)]) (.tup (.cons (.old (jK _)) (.cons (.Aa (Nat.le_refl _) (by simp) (gI.old (DD _))) .nil))) ?_;have told:(List.range u).map (λi=>Τ (aq (Bz.rv (Bz.arr γ) γ.length (W i) u) d))=Du.map Τ:=by
   apply aa6
   ·simp [dl]
   ·intro i h1 h2;have hi:i<u:=by simpa using h1
    simp only [List.getElem_map,List.getElem_range];obtain ⟨p0,p1,p2⟩:=Wt i hi;have gi:Du.getD i (0,1)=Du[i]:=by rw [aab,aaa (by omega)];rfl
    rw [gi] at p0 p1 p2;have e:=t.told Ec sol hi
    congr 1
    have:aq (Bz.rv (Bz.arr γ) γ.length (W i) u) d=(Du[i].1,Du[i].2):=yg t.d0 p0 p1 (by
     refine aaK hN ?_
     grind)
    exact this
  refine (Ι (d:= .tup [jV (Bz.af (Bz.arr γ) γ.length (u+1) W),.lst (ν.map oa)]) rfl bq ?_:fV (.tup [jV (Bz.af (Bz.arr γ) γ.length (u+1) W),.lst (ν.map oa)]) (.int 0) _ _);refine (Ι (d:= .tup [jV (Bz.af (Bz.arr γ) γ.length (u+1) W),.lst (ν.map oa)]) rfl (Θ (j:=1) rfl) ?_:fV (.tup [jV (Bz.af (Bz.arr γ) γ.length (u+1) W),.lst (ν.map oa)]) (.int 1) _ _);have lcu:(ν.map oa).length=u:=by rw [aac,Ec,aaN]
  dsimp only [vY,e_,S4,T9];walk_at "vc";refine (aE (d:= .lst (ν.map oa)) (xs:=ν.map oa) rfl ?_:iD [.lst (ν.map oa)] _ _);refine ⟨(Bz.af (Bz.arr γ) γ.length (u+1) W).map ck,(ν.map oa).length,rfl,rfl,?_⟩;rw [lcu,<-ab9];refine da (jK _) ?_;have hz:∀l∈(Bz.af (Bz.arr γ) γ.length (u+1) W).drop u,u<l.length/\l.getD u 0=0:=λl Yg=>by
   obtain ⟨j,hj,e⟩:=aa0 Yg;rw [List.getElem_drop] at e;rw [abj,Bz.cY] at hj;have hu:u+j<γ.length:=by omega
   have el:l=Bz.az (Bz.arr γ) γ.length (u+1) (W (u+j)):=by have:=Bz.ky (A:=Bz.arr γ) (m:=u+1) (W:=W) hu;rw [aab,aaa (by rw [Bz.cY];exact hu)] at this;rw [<-e];exact this
   rw [el];refine ⟨by rw [Bz.eN];omega,?_⟩;rw [Bz.hX (by omega)];exact t.rest sol hN (by omega) hu
  refine cc (λzs ρ' M'=>M'=M/\∃(rest:List (List Int)) (o:Option Dt),zs=rest.map ck/\(∀l∈rest,u<l.length/\l.getD u 0=0)/\ρ'=[some (jV γ),some (.int (u:Int)),some (.tup [jV (Bz.af (Bz.arr γ) γ.length (u+1) W),.lst (ν.map oa)]),some (jV (Bz.af (Bz.arr γ) γ.length (u+1) W)),some (.lst (ν.map oa)),o,none]) (λzs ρ' M' hj=>trivial) (λx zs ρ' M' hj ir=>?_) (λρ' M' hj=>?_) _ _ _ ⟨rfl,_,none,rfl,hz,rfl⟩
  ·obtain ⟨rfl,rest,o,ex,fW,rfl⟩:=hj;cases rest with
   |nil=>cases ex
   |cons l rest=>
    cases ex;obtain ⟨l1,l2⟩:=fW l aae;have lv:l[u]=0:=by rw [aab,aaa l1] at l2;exact l2
    walk_at "vc";refine (Ι (d:=ck l) rfl (hU l1) ?_:fV (ck l) (.int (u:Int)) _ _);rw [lv];exact ⟨λz=>(nomatch z),λ_=>ir _ _ ⟨rfl,rest,_,rfl,λy hy=>fW y (aad _ hy),rfl⟩⟩
  ·obtain ⟨rfl,rest,o,ex,fW,rfl⟩:=hj;refine ⟨γ,u,B,ρ,ν,qq,d,W,rfl,ro,t,Ec,?_⟩;rw [told];walk_at "vc";refine (aE (d:= .lst (ν.map oa)) (xs:=ν.map oa) rfl ?_:iD [.lst (ν.map oa)] _ _);rw [lcu];refine ⟨λz=>?_,λ_=>h⟩;have z:(u:Int)<u:=of_decide_eq_true z;omega
theorem Il(cs ns:List Fr):qA (cs.map Τ) (ns.map Τ)=(cs.zip ns).map λp=> .tup [Τ p.1,Τ p.2]:=by unfold qA;rw [List.zip_map,aau];rfl
structure Ch(B:Int)(c:Fr):Prop where
 pos:0<c.2
 he:hW c B
 u:g6 c
 sz:Sz 300 c
theorem tO{E B C:Int}(b0:0<B)(e0:0<E)(be:B*E<2^2200)(c0:0<=C)(c1:C<2^300):∀(ps:List (Fr×Fr)) (w:Fr) (j:Nat),j+ps.length<=6->Nb (B*E) (j*C) w->(∀p∈ps,Ch B p.1/\Nb E C p.2)->Nb (B*E) ((j+ps.length:Nat)*C) (ps.foldl (λw p=>cN w (aA p.1 p.2)) w)
 |[],w,j,_,hw,_=>hw
 |p::ps,w,j,hj,hw,h=>by
  rw [aax] at hj;obtain ⟨h1,h2⟩:=h p aae;have jc:((j:Int)+1)*C=j*C+C:=by rw [Int.add_mul,Int.one_mul]
  have jm:((j:Int)+1)*C<=6*C:=aaD (by omega) c0;have j0:0<=(j:Int)*C:=aa1 (by omega) c0;have ht:=Ai h1.pos h1.he h1.u h2 ⟨aaE b0 e0,be,c0,ab3 c1 (by decide)⟩;have hp:=Mu hw ht ⟨aaE b0 e0,be,by omega,by omega⟩;rw [<-jc] at hp;have:=tO b0 e0 be c0 c1 ps _ (j+1) (by omega) (by exact_mod_cast hp) (λq hq=>h q (aad _ hq));rw [aaW,aax,show j+(ps.length+1)=j+1+ps.length by omega];exact this
def tG:DF:=λas M q _=>∃(cs ns:List Fr) (E B C:Int),as=[.lst (cs.map Τ),.lst (ns.map Τ)]/\cs.length<=6/\0<B/\0<E/\B*E<2^2200/\0<=C/\C<2^300/\(∀c∈cs,Ch B c)/\(∀n∈ns,Nb E C n)/\q (Τ (fU (cs.zip ns))) M
theorem i9:Δ ["chances","numbers","whole","chance","number"] ["chances","numbers"] (τ rR):= .of rfl
theorem BA{f:Addr}{fd:FuncData}(F:cJ K "weighed" "weighed" rR f fd)(E:Ev K mg w Cm){IS:Addr}{KO:FuncData}(pw:aw P w K mg base 3 "plus" ["one","other"] JQ IS KO){r8:Addr}{sE:FuncData}(gm:aw P w K mg base 3 "times" ["one","other"] xD r8 sE):ah P w K mg base (bU P w) 4 f fd ["chances","numbers"] (cC K tG):=by
 refine F.df i9 (λds M q x h=>?_) (λaT A outer s H E' hr=>⟨_,(η (Γ 2 i9.nd (c7 (ι ω (ι ω θ (hs:=fQ)) (hs:=fQ))))
   (η (dF (Bj E.vc (Υ (jv 0) (Υ (jv 1) θ))) (pM rfl (cG (aD (i:=3) i9.nd rfl (Or.inl rfl)) (cG (aD (i:=4) i9.nd rfl (Or.inl rfl)) ly))) mz (μ (Γ 2 i9.nd (ag pw hr ξ (Υ (jv 2) (ι (ag gm hr ξ (Υ (jv 3) (Υ (jv 4) θ))) θ (hs:=aQ)))))))
   (μ (Ε (jv 2))))),λds M q x h=>?_⟩)
 ·obtain ⟨cs,ns,E,B,C,rfl,_⟩:=h;rfl
 ·obtain ⟨cs,ns,Ep,B,C,rfl,hz,b0,e0,be,c0,c1,hc,hn,h⟩:=h;refine ⟨by show 2<=sizeLine;decide,?_⟩;refine ⟨.lst (cs.map Τ),.lst (ns.map Τ),cs.map Τ,ns.map Τ,λ_=>True,λ_=>True,rfl,rfl,rfl,?_⟩;rw [Il];refine cc (λxs ρ M'=>M'=M/\∃(rest:List (Fr×Fr)) (w:Fr) (a b:Option Dt) (j:Nat),xs=rest.map (λp=> .tup [Τ p.1,Τ p.2])/\(∀p∈rest,Ch B p.1/\Nb Ep C p.2)/\Nb (B*Ep) (j*C) w/\j+rest.length<=6/\rest.foldl (λw p=>cN w (aA p.1 p.2)) w=fU (cs.zip ns)/\ρ=[some (.lst (cs.map Τ)),some (.lst (ns.map Τ)),some (Τ w),a,b]) (λxs ρ M' hj=>⟨trivial,trivial⟩) (λx xs ρ M' hj ir=>?_) (λρ M' hj=>?_) _ _ _ ⟨rfl,cs.zip ns,(0,1),none,none,0,rfl,λp hp=>⟨hc _ (abf hp).1,hn _ (abf hp).2⟩,by rw [Int.natCast_zero,Int.zero_mul];exact Ux,?_,rfl,rfl⟩
  ·obtain ⟨rfl,rest,w,a,b,j,ex,yM,hw,hj,hf,rfl⟩:=hj;cases rest with
   |nil=>cases ex
   |cons p rest=>
    cases ex;obtain ⟨h1,h2⟩:=yM p aae;rw [aax] at hj;have ht:=Ai h1.pos h1.he h1.u h2 ⟨aaE b0 e0,be,c0,ab3 c1 (by decide)⟩;refine ⟨p.1,p.2,300,2600,rfl,h1.sz,h2.sz,by decide,w,aA p.1 p.2,2600,2600,rfl,hw.sz,ht.sz,by decide,?_⟩;refine ir _ _ ⟨rfl,rest,_,_,_,j+1,rfl,λp hp=>yM p (aad _ hp),?_,by omega,hf,rfl⟩;exact tO b0 e0 be c0 c1 [p] w j (by simp;omega) hw (λq hq=>by rw [List.mem_singleton.mp hq];exact ⟨h1,h2⟩)
  ·obtain ⟨rfl,rest,w,a,b,j,ex,yM,hw,hj,hf,rfl⟩:=hj;cases rest with
   |nil=>rw [<-hf] at h;exact h
   |cons p rest=>cases ex
  ·rw [abi];omega
def qf:List Int->Int
 |[]=>1
 |a::l=>a*qf l
theorem sN:∀{l:List Int},(∀a∈l,0<a)->0<qf l
 |[],_=>by decide
 |a::l,h=>aaE (h a aae) (sN λb hb=>h b (aad _ hb))
theorem Eh:∀{l:List Int},(∀a∈l,0<a/\a<=1000000)->qf l<=1000000^l.length
 |[],_=>by decide
 |a::l,h=>by have i:=Eh λb hb=>h b (aad _ hb);have p:=sN (l:=l) λb hb=>(h b (aad _ hb)).1;have h0:=h a aae;show a*qf l<=_;rw [aax,abD,aaU a];exact abr i h0.2 (aaj h0.1) (abF (by decide))
theorem y6:∀{l:List Int}{a:Int},a∈l->a∣qf l
 |b::l,a,h=>by
  rcases aaC.mp h with e|e
  ·rw [e];exact ⟨qf l,rfl⟩
  ·obtain ⟨c,hc⟩:=y6 e;exact ⟨b*c,by show b*qf l=_;rw [hc];grind⟩
theorem zS{p:Fr}{E:Int}(h:p.2∣E):hW p E:=by obtain ⟨k,e⟩:=h;exact ⟨p.1*k,by rw [e];grind⟩
theorem rf:∀{l:List Int}{a:Int},(∀b∈l,0<b)->a∈l->a<=l.sum
 |b::l,a,h,ha=>by
  have ih:∀{l:List Int},(∀b∈l,0<b)->0<=l.sum:=λ{l}=>by
   induction l with
   |nil=>intro _;exact Int.le_refl _
   |cons c l ih=>
    intro h;have:=ih λd hd=>h d (aad _ hd);have:=h c aae;rw [List.sum_cons];omega
  rw [List.sum_cons];have h0:=h b aae;rcases aaC.mp ha with e|e
  ·have:=ih λd hd=>h d (aad _ hd);omega
  ·have:=rf (λd hd=>h d (aad _ hd)) e;omega
theorem Lw{cs:List Fr}(o:HZ cs){c:Fr}(hc:c∈cs):0<c.2/\c.2∣bD cs/\g6 c/\Sz 300 c:=by
 obtain ⟨a,b,d⟩:=o.Lp.2 c hc;have B0:=o.b0;obtain ⟨_,_,hB⟩:=jd cs 1 0 (by decide) (ach _) λc hc=>⟨(o.Lp.2 c hc).1,ach _⟩;have dv:c.2∣bD cs:=hB c hc
 have le:=rf (l:=cs.map (l7 (bD cs))) (λb hb=>by
  obtain ⟨x,hx,rfl⟩:=aag.mp hb
  exact o.pos x hx) (aag.mpr ⟨c,hc,rfl⟩)
 rw [o.sum] at le;have wp:=o.pos c hc;unfold l7 at le wp;obtain ⟨m,em⟩:=dv;have em':bD cs/c.2=m:=by rw [em];exact abe m (by omega)
 rw [em'] at le wp;have m0:0<m:=by
  rw [em] at B0;rcases ab2 0 m with z|z
  ·exact z
  ·have:=aar z (aaj a);omega
 have c0:0<=c.1:=by
  rcases ab2 c.1 0 with z|z
  ·have:=aaD (aaj z) (aaj m0);omega
  ·exact z
 have c1:c.1<=c.2:=by rw [em] at le;exact Int.le_of_mul_le_mul_right le m0
 refine ⟨a,⟨m,em⟩,⟨c0,c1⟩,qG (k:=200) ⟨d,a,?_⟩ (by decide)⟩;have:(c.2.natAbs:Int)<((2^200:Nat):Int):=by rw [aa8 (aaj a)];exact b
 exact abE.mp this
abbrev Pl:=List (Int×Int)
def kP(pl:Pl):List Key:=pl.map λp=>Sum.inl p.1
def vP(pl:Pl):List Dt:=pl.map λp=>Dt.int p.2
abbrev dP(pl:Pl):MO:= .fF (kP pl) (vP pl)
def Μ:Pl->Int->Option Int
 |[],_=>none
 |p::r,i=>if p.1=i then some p.2 else Μ r i
def iI(pl:Pl)(i v:Int):Pl:=if (Μ pl i).isSome=true then pl.map (λp=>if p.1=i then (p.1,v) else p) else pl++[(i,v)]
theorem IK{a b:Int}:(decide ((Sum.inl a:Key)=Sum.inl b))=decide (a=b):=by
 by_cases h:a=b
 ·rw [decide_eq_true h,decide_eq_true (congrArg Sum.inl h)]
 ·rw [decide_eq_false h,decide_eq_false λz=>h (Sum.inl.inj z)]
theorem AL{i:Int}:∀{pl:Pl},dR (kP pl) (vP pl) (Sum.inl i)=(Μ pl i).map Dt.int
 |[]=>rfl
 |p::r=>by
  have ih:=AL (i:=i) (pl:=r);unfold dR at ih⊢;show (List.find? (λq:Key×Dt=>decide (q.1=Sum.inl i)) ((Sum.inl p.1,Dt.int p.2)::(kP r).zip (vP r))).map (·.2)=Option.map Dt.int (if p.1=i then some p.2 else Μ r i);rw [List.find?_cons,IK];by_cases h:p.1=i
  ·rw [decide_eq_true h,if_pos h];rfl
  ·rw [decide_eq_false h,if_neg h];exact ih
theorem NB{i:Int}:∀{pl:Pl},Lo (kP pl) (Sum.inl i)=(Μ pl i).isSome
 |[]=>rfl
 |p::r=>by
  have ih:=NB (i:=i) (pl:=r);unfold Lo at ih⊢;show (decide ((Sum.inl p.1:Key)=Sum.inl i) || (kP r).any λc=>decide (c=Sum.inl i))=(if p.1=i then some p.2 else Μ r i).isSome;rw [IK,ih];by_cases h:p.1=i
  ·rw [decide_eq_true h,if_pos h];rfl
  ·rw [decide_eq_false h,if_neg h,Bool.false_or]
theorem Eb{i v:Int}:∀{pl:Pl},lL (Sum.inl i:Key) (Dt.int v) (kP pl) (vP pl)=vP (pl.map λp=>if p.1=i then (p.1,v) else p)
 |[]=>rfl
 |p::r=>by
  show (if (Sum.inl p.1:Key)=Sum.inl i then Dt.int v else Dt.int p.2)::lL (Sum.inl i:Key) (Dt.int v) (kP r) (vP r)=Dt.int (if p.1=i then (p.1,v) else p).2::vP (r.map λp=>if p.1=i then (p.1,v) else p);rw [Eb];by_cases h:p.1=i
  ·rw [if_pos h,if_pos (congrArg Sum.inl h)]
  ·rw [if_neg h,if_neg λz=>h (Sum.inl.inj z)]
theorem A8{i v:Int}:∀{pl:Pl},kP (pl.map λp=>if p.1=i then (p.1,v) else p)=kP pl
 |[]=>rfl
 |p::r=>by show (Sum.inl (if p.1=i then (p.1,v) else p).1:Key)::kP (r.map λp=>if p.1=i then (p.1,v) else p)=Sum.inl p.1::kP r;rw [A8];split <;> rfl
theorem Ax{pl:Pl}{i v:Int}:gZ (kP pl) (Sum.inl i)=kP (iI pl i v):=by
 unfold gZ iI;rw [NB];split
 ·exact A8.symm
 ·unfold kP;rw [List.map_append];rfl
theorem D6{pl:Pl}{i v:Int}:fb (kP pl) (Sum.inl i) (vP pl) (Dt.int v)=vP (iI pl i v):=by
 unfold fb iI;rw [NB];split
 ·exact Eb
 ·unfold vP;rw [List.map_append];rfl
theorem qT{i v j:Int}:∀{pl:Pl},Μ (pl.map λp=>if p.1=i then (p.1,v) else p) j=if j=i then (Μ pl j).map λ_=>v else Μ pl j
 |[]=>by split <;> rfl
 |p::r=>by
  have ih:=qT (i:=i) (v:=v) (j:=j) (pl:=r);rw [aaA];unfold Μ;by_cases h:p.1=i
  ·rw [if_pos h];by_cases hj:p.1=j
   ·rw [if_pos hj,if_pos hj,if_pos (by omega)];rfl
   ·rw [if_neg hj,if_neg hj];exact ih
  ·rw [if_neg h];by_cases hj:p.1=j
   ·rw [if_pos hj,if_pos hj,if_neg (by omega)]
   ·rw [if_neg hj,if_neg hj];exact ih
theorem EC{i j v:Int}:∀{pl:Pl},Μ (pl++[(i,v)]) j=if (Μ pl j).isSome=true then Μ pl j else if i=j then some v else none
 |[]=>rfl
 |p::r=>by
  have ih:=EC (i:=i) (j:=j) (v:=v) (pl:=r);rw [List.cons_append];unfold Μ;by_cases hj:p.1=j
  ·rw [if_pos hj,if_pos hj];rfl
  ·rw [if_neg hj,if_neg hj];exact ih
theorem EE{pl:Pl}{i v j:Int}:Μ (iI pl i v) j=if j=i then some v else Μ pl j:=by
 unfold iI;split
 ·rename_i h;rw [qT];split
  ·rename_i e;subst e;obtain ⟨x,hx⟩:=abu.mp h;rw [hx];rfl
  ·rfl
 ·rename_i h;rw [EC];by_cases e:j=i
  ·subst e;rw [if_neg h,if_pos rfl,if_pos rfl]
  ·rw [if_neg e];cases hj:Μ pl j with
   |none=>rw [if_neg (by simp),if_neg (by omega)]
   |some x=>rfl
def BI(pl:Pl):Prop:=(pl.map (·.1)).Nodup
theorem EU{i v:Int}:∀{pl:Pl},Μ pl i=some v->(i,v)∈pl
 |[],h=>by cases h
 |p::r,h=>by
  unfold Μ at h;split at h
  ·rename_i e;have:p=(i,v):=by rw [<-e,<-aav h]
   rw [this];exact aae
  ·exact aad _ (EU h)
theorem dc{M E:Ms}{k:Nat}{m:MO}(h:M[k]? =some m):(M++E)[k]? =some m:=by rw [aaq (aaf.mp h).1];exact h
def dU(pl:Pl)(i:Nat)(n:Nat):Bool:=match Μ pl i with
 |some v=>decide (0<=v)&&decide (v<n)
 |none=>false
def aj(p1 p2:Pl)(k:Str):Option Pl:=if k="one" then some p1 else if k="other" then some p2 else none
def jP(pf:Str->Option Pl)(i:Nat)(r:Rw):Bool:=match pf (kindOf r) with
 |some pl=>dU pl i (Η r).length
 |none=>true
def fT(γ:List Rw)(pf:Str->Option Pl)(i:Nat):Bool:=match γ[i]? with
 |some r=>jP pf i r
 |none=>true
def de(γ:List Rw)(pf:Str->Option Pl):Nat->Pl
 |0=>[]
 |n+1=>match (γ[n]?).bind λr=>pf (kindOf r) with
  |some pl=>iI (de γ pf n) n ((Μ pl n).getD 0)
  |none=>de γ pf n
theorem wK(γ:List Rw)(pf:Str->Option Pl):∀n,(de γ pf n).length<=n
 |0=>aai _
 |n+1=>by
  have ih:=wK γ pf n;unfold de;split
  ·unfold iI;split
   ·rw [aac];omega
   ·rw [aah];exact Nat.succ_le_succ ih
  ·omega
theorem jC(γ:List Rw)(pf:Str->Option Pl):∀(n i:Nat),Μ (de γ pf n) i=if i<n then ((γ[i]?).bind λr=>pf (kindOf r)).map λpl=>(Μ pl i).getD 0 else none
 |0,i=>by rw [if_neg (abz _)];rfl
 |n+1,i=>by
  have ih:=jC γ pf n i;have step:Μ (de γ pf (n+1)) i=if i=n then (match (γ[n]?).bind λr=>pf (kindOf r) with|some pl=>some ((Μ pl n).getD 0)|none=>Μ (de γ pf n) i) else Μ (de γ pf n) i:=by
   rw [de];cases hb:(γ[n]?).bind λr=>pf (kindOf r) with
   |none=>dsimp only;split <;> rfl
   |some pl=>
    dsimp only;rw [EE];by_cases e:i=n
    ·rw [if_pos e,if_pos (by omega)]
    ·rw [if_neg e,if_neg (by omega)]
  rw [step,ih];by_cases e:i=n
  ·subst e;rw [if_pos rfl,if_neg (abq _),if_pos (abc _)];cases (γ[i]?).bind λr=>pf (kindOf r) with
   |none=>rfl
   |some pl=>rfl
  ·rw [if_neg e];by_cases h:i<n
   ·rw [if_pos h,if_pos (by omega)]
   ·rw [if_neg h,if_neg (by omega)]
theorem E8{p1 p2:Pl}{k:Str}(h:χ k=false):aj p1 p2 k=none:=by unfold χ at h;rw [Bool.or_eq_false_iff,beq_eq_false_iff_ne,beq_eq_false_iff_ne] at h;unfold aj;rw [if_neg h.1,if_neg h.2]
def Rv(M:Ms)(k:Nat)(pf:Str->Option Pl):Prop:=∃ks ds,M[k]? =some (.fF ks ds)/\∀z:Str,Lo ks (Sum.inr z)=(pf z).isSome/\∀pl,pf z=some pl->∃k',dR ks ds (Sum.inr z)=some (.loc k')/\M[k']? =some (dP pl)
theorem Rv.app{M E:Ms}{k:Nat}{pf:Str->Option Pl}(h:Rv M k pf):Rv (M++E) k pf:=by obtain ⟨ks,ds,a,b⟩:=h;refine ⟨ks,ds,dc a,λz=>⟨(b z).1,λpl e=>?_⟩⟩;obtain ⟨k',c,d⟩:=(b z).2 pl e;exact ⟨k',c,dc d⟩
def S3(A:Addr):DF:=λas M q _=>∃ε γ i r k pl,as=[au A ε γ,.loc k,.int (i:Nat)]/\M[k]? =some (dP pl)/\γ[i]? =some r/\eJ r/\q (.bl (dU pl i (Η r).length)) M
theorem Fo:Δ ["floor","plan","place"] ["floor","plan","place"] (τ se):= .of rfl
theorem CL{f:Addr}{fd:FuncData}(F:cJ K "has_door" "has_door" se f fd)(E:Ev K mg w Cm){cM:Addr}{cQ:FuncData}(aI:cE P w K mg base 2 Cm "doors" ["self","place"] (tm Cm) cM cQ):ah P w K mg base (bU P w) 3 f fd ["floor","plan","place"] (cC K (S3 Cm)):=by
 refine F.df Fo (λds M q x h=>?_) (λaT A outer s H E' hr=>⟨_,(μ (Ε (iy (Tq hr (jv 2) (jv 1)) (iy (Ac ω (oS hr (jv 1) (jv 2))) (j6 (Ni (oS hr (jv 1) (jv 2)) (c8 E.bX (ι (b9 (bO aI hr ξ (jv 0) (Υ (jv 2) θ))) θ (hs:=aQ))))))))),λds M q x h=>?_⟩)
 ·obtain ⟨ε,γ,i,r,k,pl,rfl,_⟩:=h;rfl
 ·obtain ⟨ε,γ,i,r,k,pl,rfl,hk,hi,ro,h⟩:=h;unfold dU at h;have gi:(Sum.inl (i:Int):Key)=Sum.inl ((i:Nat):Int):=rfl;refine ⟨k,_,_,Sum.inl (i:Int),rfl,hk,rfl,?_⟩;rw [NB];cases hg:Μ pl i with
  |none=>
   rw [hg] at h;exact ⟨λz=>(nomatch z),λ_=>h⟩
  |some v=>
   rw [hg] at h;have h:q (.bl (decide (0<=v)&&decide (v<((Η r).length:Int)))) M:=h;have dg:dR (kP pl) (vP pl) (Sum.inl (i:Int))=some (.int v):=by rw [AL,hg];rfl
   refine ⟨λ_=>?_,λz=>(nomatch z)⟩;refine ⟨k,_,_,Sum.inl (i:Int),_,rfl,hk,rfl,dg,?_⟩;refine ⟨λz=>?_,λz=>?_⟩
   ·have z:0<=v:=of_decide_eq_true z;rw [decide_eq_true z,Bool.true_and] at h;refine ⟨k,_,_,Sum.inl (i:Int),_,rfl,hk,rfl,dg,?_⟩;refine ⟨⟨_,_,.inl rfl,rfl⟩,ε,γ,i,r,rfl,hi,ro,da (fY _) ?_⟩;walk_at "vc";refine (aE (d:= .lst ((Η r).map dt)) (xs:=(Η r).map dt) rfl ?_:iD [.lst ((Η r).map dt)] _ _);rw [aac];exact h
   ·have z:¬0<=v:=of_decide_eq_false z;rw [decide_eq_false z,Bool.false_and] at h;have key:decide (0<=v)=false:=decide_eq_false z;exact h
def A2(A:Addr):DF:=λas M q _=>∃ε γ k pf,as=[au A ε γ,.loc k]/\Rv M k pf/\Qb ε γ/\(∀i,i<γ.length->fT γ pf i=true)/\q (.loc M.length) (M++[dP (de γ pf γ.length)])
theorem lx:Δ ["floor","plans","doors","place","hand"] ["floor","plans"] (τ sG):= .of rfl
theorem Cp{f:Addr}{fd:FuncData}(F:cJ K "doors_of" "doors_of" sG f fd)(E:Ev K mg w Cm){dQ:Addr}{dJ:FuncData}(aU:cE P w K mg base 1 Cm "size" ["self"] (Aw Cm) dQ dJ){aJ:Addr}{aL:FuncData}(Ρ:cE P w K mg base 1 Cm "kind" ["self","place"] (nu Cm) aJ aL){IY:Addr}{J':FuncData}(o_:aw P w K mg base 3 "has_door" ["floor","plan","place"] (S3 Cm) IY J'):ah P w K mg base (bU P w) 4 f fd ["floor","plans"] (cC K (A2 Cm)):=by
 refine F.df lx (λds M q x h=>?_) (λaT A outer s H E' hr=>⟨_,(η (Γ 2 lx.nd Br)
   (η (lZ (eY E.cZ (ι (ik aU hr ξ (jv 0)) θ (hs:=aQ))) (aD (i:=3) lx.nd rfl (Or.inl rfl)) ba (η (Γ 4 lx.nd (bO Ρ hr ξ (jv 0) (Υ (jv 3) θ)))
   (η (aH (GS hr (jv 4) (jv 1)) (μ qo) Φ)
   (η (aH (gL (cq (ag o_ hr ξ (Υ (jv 0) (ι (oS hr (jv 1) (jv 4)) (Υ (jv 3) θ) (hs:=aV)))))) (μ fL) Φ)
   (μ (ya hr (jv 2) (jv 3) (oS hr (oS hr (jv 1) (jv 4)) (jv 3))))))))
   (μ (Ε (jv 2))))),λds M q x h=>?_⟩)
 ·obtain ⟨ε,γ,k,pf,rfl,_⟩:=h;rfl
 ·obtain ⟨ε,γ,k,pf,rfl,tw,pl,gd0,hg⟩:=h;have pk:=pl.len;have km:k≠M.length:=λe=>by obtain ⟨ks,ds,a,_⟩:=tw;rw [e,abQ (aai _)] at a;cases a
  walk_at "vc";refine ⟨⟨_,_,.inl rfl,rfl⟩,ε,γ,rfl,?_⟩;refine ⟨by omega,?_⟩;rw [show ((γ.length:Int)).toNat=γ.length by omega];refine fG (λzs ρ' M'=>∃(i m:Nat) (o3 o4:Option Dt),zs=e7 (i:Int) m/\i+m=γ.length/\M'=M++[dP (de γ pf i)]/\ρ'=[some (au Cm ε γ),some (.loc k),some (.loc M.length),o3,o4]) (λx zs ρ' M' hj ir=>?_) (λρ' M' hj=>?_) _ _ _ ⟨0,γ.length,none,none,rfl,by omega,rfl,rfl⟩
  ·obtain ⟨i,m,o3,o4,ex,im,rfl,rfl⟩:=hj;obtain ⟨m',rfl,rfl,rfl⟩:=fo ex;have il:i<γ.length:=by omega
   have hi:γ[i]? =some γ[i]:=aaa il;generalize hr0:γ[i]=r at *
   have rm:r∈γ:=aam hi;have ro:=(pl.row r rm).1;have ga:fT γ pf i=jP pf i r:=by unfold fT;rw [hi]
   have ac:∀zO,pf (kindOf r)=some zO->de γ pf (i+1)=iI (de γ pf i) i ((Μ zO i).getD 0):=λzO e=>by rw [de,hi];show (match pf (kindOf r) with|some pl=>_|none=>_)=_;rw [e]
   have an:pf (kindOf r)=none->de γ pf (i+1)=de γ pf i:=λe=>by rw [de,hi];show (match pf (kindOf r) with|some pl=>_|none=>_)=_;rw [e]
   obtain ⟨ks,ds,ca,cb⟩:=(tw.app:Rv (M++[dP (de γ pf i)]) k pf);refine ⟨⟨_,_,.inl rfl,rfl⟩,ε,γ,i,r,rfl,hi,?_⟩;refine ⟨k,_,_,Sum.inr (kindOf r),rfl,ca,rfl,?_⟩;rw [(cb (kindOf r)).1];cases hh:pf (kindOf r) with
   |none=>
    refine ⟨λ_=>?_,λz=>(nomatch z)⟩;have e:=hh;refine ir _ _ ⟨i+1,m',_,_,by rw [Int.natCast_add];rfl,by omega,by rw [an e],rfl⟩
   |some zO=>
    refine ⟨λz=>(nomatch z),λ_=>?_⟩;obtain ⟨k',g2,g4⟩:=(cb (kindOf r)).2 zO hh;have g1:=ca;have g3:=hh;refine ⟨k,ks,ds,Sum.inr (kindOf r),_,rfl,g1,rfl,g2,?_⟩;have gr:jP pf i r=dU zO i (Η r).length:=by unfold jP;rw [g3]
    refine ⟨ε,γ,i,r,k',zO,rfl,g4,hi,ro,λz=>?_,λz=>?_⟩
    ·have z:dU zO i (Η r).length=false:=by simpa using z
     have:=gd0 i il;rw [ga,gr,z] at this;cases this
    ·have z:dU zO i (Η r).length=true:=by simpa using z
     obtain ⟨v,hv⟩:∃v,Μ zO i=some v:=by
      unfold dU at z;cases hv:Μ zO i with
      |none=>rw [hv] at z;cases z
      |some v=>exact ⟨v,rfl⟩
     have dg:dR (kP zO) (vP zO) (Sum.inl (i:Int))=some (.int v):=by rw [AL,hv];rfl
     dsimp only [wY,OH];walk_at "vc";refine ⟨k,ks,ds,Sum.inr (kindOf r),_,rfl,g1,rfl,g2,?_⟩;refine ⟨k',_,_,Sum.inl (i:Int),_,rfl,g4,rfl,dg,?_⟩;refine ⟨M.length,_,_,Sum.inl (i:Int),rfl,aZ,rfl,?_,?_⟩
     ·unfold kP;rw [List.length_map];have:=wK γ pf i;omega
     rw [Ax (v:=v),D6,eO];have e:=ac zO g3;rw [hv] at e;have e:de γ pf (i+1)=iI (de γ pf i) i v:=e;refine ir _ _ ⟨i+1,m',_,_,by rw [Int.natCast_add];rfl,by omega,by rw [e],rfl⟩
  ·obtain ⟨i,m,o3,o4,ex,im,rfl,rfl⟩:=hj;have m0:m=0:=by have:=congrArg List.length ex;rw [i6] at this;exact this.symm
   have:i=γ.length:=by omega
   subst this;exact hg
structure fS(γ:List Rw)(Ζ:Pl):Prop where
 hand:∀(i:Nat) (r:Rw),γ[i]? =some r->χ (kindOf r)=true->∃j:Nat,Μ Ζ i=some (j:Int)/\j<(Η r).length
 Lj:∀(i:Nat) (r:Rw),γ[i]? =some r->χ (kindOf r)=false->Μ Ζ i=none
theorem vm{γ:List Rw}{p1 p2:Pl}(h:∀i,i<γ.length->fT γ (aj p1 p2) i=true):fS γ (de γ (aj p1 p2) γ.length):=by
 refine ⟨λi r hi hk=>?_,λi r hi hk=>?_⟩
 ·have il:=(aaf.mp hi).1;have g:=h i il;unfold fT at g;rw [hi] at g;have g:jP (aj p1 p2) i r=true:=g;obtain ⟨pl,e⟩:∃pl,aj p1 p2 (kindOf r)=some pl:=by
   unfold χ at hk;rw [aca,beq_iff_eq,beq_iff_eq] at hk;rcases hk with e|e <;> rw [e]
   ·exact ⟨p1,rfl⟩
   ·exact ⟨p2,rfl⟩
  unfold jP at g;rw [e] at g;have g:dU pl i (Η r).length=true:=g;unfold dU at g;cases hv:Μ pl i with
  |none=>rw [hv] at g;cases g
  |some v=>
   rw [hv] at g;have g:(decide (0<=v)&&decide (v<((Η r).length:Int)))=true:=g;rw [aao,decide_eq_true_iff,decide_eq_true_iff] at g;refine ⟨v.toNat,?_,by omega⟩;rw [jC,if_pos il,hi];show Option.map (λpl=>(Μ pl i).getD 0) (aj p1 p2 (kindOf r))=_;rw [e];show some ((Μ pl i).getD 0)=_;rw [hv,abZ g.1];rfl
 ·have il:=(aaf.mp hi).1;rw [jC,if_pos il,hi];show Option.map (λpl=>(Μ pl i).getD 0) (aj p1 p2 (kindOf r))=_;rw [E8 hk];rfl
def av(Ζ:Pl)(i:Nat)(r:Rw):List bI:=match Μ Ζ i with
 |some j=>let d:=(Η r).getD j.toNat d0;[(d.1,d.2.1,d.2.2++[(1,1)])]
 |none=>Η r
def OI(A:Addr):DF:=λas M q _=>∃ε γ i r k Ζ,as=[au A ε γ,.int (i:Nat),.loc k]/\M[k]? =some (dP Ζ)/\γ[i]? =some r/\eJ r/\fS γ Ζ/\q (.lst ((av Ζ i r).map dt)) M
theorem tQ:Δ ["floor","place","doors","ways"] ["floor","place","doors"] (τ oH):= .of rfl
theorem zN{f:Addr}{fd:FuncData}(F:cJ K "ways_from" "ways_from" oH f fd)(E:Ev K mg w Cm){cM:Addr}{cQ:FuncData}(aI:cE P w K mg base 2 Cm "doors" ["self","place"] (tm Cm) cM cQ){aJ:Addr}{aL:FuncData}(Ρ:cE P w K mg base 1 Cm "kind" ["self","place"] (nu Cm) aJ aL):ah P w K mg base (bU P w) 3 f fd ["floor","place","doors"] (cC K (OI Cm)):=by
 refine F.df tQ (λds M q x h=>?_) (λaT A outer s H E' hr=>⟨_,(η (Γ 3 tQ.nd (b9 (bO aI hr ξ (jv 0) (Υ (jv 1) θ))))
   (η (aH (HD (bO Ρ hr ξ (jv 0) (Υ (jv 1) θ)) (Ks E.xi)) (μ (Ε (lH (ι (cI (Ν (jv 3) (oS hr (jv 2) (jv 1))) (eR 3 (d:= .tup [.tup [.int 1,.int 1]]) (by rfl))) θ (hs:=bV))))) Φ)
   (μ (Ε (jv 3))))),λds M q x h=>?_⟩)
 ·obtain ⟨ε,γ,i,r,k,Ζ,rfl,_⟩:=h;rfl
 ·obtain ⟨ε,γ,i,r,k,Ζ,rfl,hk,hi,ro,dk,h⟩:=h;refine ⟨⟨_,_,.inl rfl,rfl⟩,ε,γ,i,r,rfl,hi,ro,da (fY _) ?_⟩;refine ⟨⟨_,_,.inl rfl,rfl⟩,ε,γ,i,r,rfl,hi,?_⟩;refine ⟨_,_,_,rfl,rfl,rfl,?_⟩;rw [s_];cases hh:χ (kindOf r) with
  |true=>
   refine ⟨λ_=>?_,λz=>(nomatch z)⟩;obtain ⟨j,hj,jl⟩:=dk.hand i r hi hh;have dg:dR (kP Ζ) (vP Ζ) (Sum.inl (i:Int))=some (.int (j:Int)):=by rw [AL,hj];rfl
   have e:av Ζ i r=[(((Η r).getD j d0).1,((Η r).getD j d0).2.1,((Η r).getD j d0).2.2++[(1,1)])]:=by unfold av;rw [hj];rfl
   rw [e] at h;have gd:(Η r).getD j d0=(Η r)[j]:=by rw [aab,aaa jl];rfl
   have dm:(Η r)[j].2.2.length<=1:=by
    cases r with
    |fin p=>exact absurd jl (abz _)
    |ο k' ds=>exact (ro.2.2.2 _ (aay jl)).1
   rw [gd] at h;obtain ⟨d,hd⟩:∃d,d=(Η r)[j]:=⟨_,rfl⟩;rw [<-hd] at h dm;walk_at "vc";refine ⟨k,_,_,Sum.inl (i:Int),_,rfl,hk,rfl,dg,?_⟩;refine (Ι (d:= .lst ((Η r).map dt)) rfl (TX jl) ?_:fV (.lst ((Η r).map dt)) (.int (j:Int)) _ _);rw [<-hd];have sz:∀{z:Nat},z<=1000->z<=sizeLine:=λh=>aap h (by decide);refine ⟨⟨λz=>(nomatch z),sz ?_⟩,sz (by decide),?_⟩
   ·simp;omega
   have e2:dt (d.1,d.2.1,d.2.2++[(1,1)])= .tup ((.int d.1::Τ d.2.1::d.2.2.map Τ)++[.tup [.int 1,.int 1]]):=by unfold dt;rw [List.map_append];rfl
   have h:q (.lst [dt (d.1,d.2.1,d.2.2++[(1,1)])]) M:=h;rw [e2] at h;exact h
  |false=>
   refine ⟨λz=>(nomatch z),λ_=>?_⟩;have e:av Ζ i r=Η r:=by unfold av;rw [dk.Lj i r hi hh]
   rw [e] at h;exact h
def c_(f:Nat->Rat):Nat->Rat
 |0=>0
 |n+1=>c_ f n+f n
def aO(f:bI->Rat):List bI->Rat
 |[]=>0
 |d::ds=>f d+aO f ds
theorem dX{f g:Nat->Rat}:∀{n:Nat},(∀i,i<n->f i=g i)->c_ f n=c_ g n
 |0,_=>rfl
 |n+1,h=>by show c_ f n+f n=c_ g n+g n;rw [dX λi hi=>h i (abI hi),h n (abc _)]
theorem tX(a b:Rat)(f g:Nat->Rat):∀n,c_ (λi=>a*f i-b*g i) n=a*c_ f n-b*c_ g n
 |0=>by show (0:Rat)=a*0-b*0;grind
 |n+1=>by show c_ (λi=>a*f i-b*g i) n+(a*f n-b*g n)=a*(c_ f n+f n)-b*(c_ g n+g n);rw [tX a b f g n];grind
theorem zg{t:Nat}(y:Nat->Rat):∀{n:Nat},n<=t->c_ (λx=>(if x=t then 1 else 0)*y x) n=0
 |0,_=>rfl
 |n+1,h=>by show c_ (λx=>(if x=t then 1 else 0)*y x) n+(if n=t then 1 else 0)*y n=0;rw [zg y (by omega),if_neg (by omega)];grind
theorem sF{t:Nat}(y:Nat->Rat):∀{n:Nat},t<n->c_ (λx=>(if x=t then 1 else 0)*y x) n=y t
 |0,h=>absurd h (abz _)
 |n+1,h=>by
  show c_ (λx=>(if x=t then 1 else 0)*y x) n+(if n=t then 1 else 0)*y n=y t;by_cases e:n=t
  ·subst e;rw [zg y (Nat.le_refl _),if_pos rfl];grind
  ·rw [sF y (by omega),if_neg e];grind
theorem oB(f:Nat->Int):∀n,((Bz.Β f n:Int):Rat)=c_ (λi=>(f i:Rat)) n
 |0=>rfl
 |n+1=>by show ((Bz.Β f n+f n:Int):Rat)=c_ (λi=>(f i:Rat)) n+f n;rw [Rat.intCast_add,oB f n]
def ab(q:Rat):Rat:=if q<0 then -q else q
theorem lO{x m:Rat}:ab x<=m↔ -m<=x/\x<=m:=by unfold ab;split <;> grind
theorem O1(x:Rat):0<=ab x:=by unfold ab;split <;> grind
theorem JF(x:Nat->Rat):∀n,∃i,i<n+1/\∀j,j<n+1->ab (x j)<=ab (x i)
 |0=>⟨0,by omega,λj hj=>by rw [show j=0 by omega];grind⟩
 |n+1=>by
  obtain ⟨i,hi,h⟩:=JF x n;by_cases c:ab (x i)<=ab (x (n+1))
  ·refine ⟨n+1,by omega,λj hj=>?_⟩;by_cases e:j=n+1
   ·subst e;grind
   ·have:=h j (by omega);grind
  ·refine ⟨i,by omega,λj hj=>?_⟩;by_cases e:j=n+1
   ·subst e;grind
   ·exact h j (by omega)
theorem Ld{n:Nat}{x:Nat->Rat}{s c:Rat}(s1:s<1)(h:∀i,i<n->∀m,(∀j,j<n->ab (x j)<=m)->ab (x i)<=c+s*m):∀i,i<n->ab (x i)*(1-s)<=c:=λi hi=>by obtain ⟨k,rfl⟩:∃k,n=k+1:=⟨n-1,by omega⟩;obtain ⟨t,ht,SV⟩:=JF x k;have h1:=h t ht _ SV;have h2:=SV i hi;have:=Rat.mul_le_mul_of_nonneg_right h2 (show 0<=1-s by grind);grind
theorem ma{f g:bI->Rat}:∀{ds:List bI},(∀d∈ds,f d=g d)->aO f ds=aO g ds
 |[],_=>rfl
 |d::ds,h=>by show f d+aO f ds=g d+aO g ds;rw [h d aae,ma λx hx=>h x (aad _ hx)]
theorem sx(f g:bI->Rat):∀ds:List bI,aO (λd=>f d-g d) ds=aO f ds-aO g ds
 |[]=>by show (0:Rat)=0-0;grind
 |d::ds=>by show (f d-g d)+aO (λd=>f d-g d) ds=(f d+aO f ds)-(g d+aO g ds);rw [sx f g ds];grind
abbrev cV(d:bI):Rat:=val (υ d)
structure Dc(n:Nat)(aa:List bI):Prop where
 to:∀d∈aa,0<=d.1/\d.1<n
 c0:∀d∈aa,0<=cV d
 one:aO cV aa<=1
theorem EI{n:Nat}{y:Nat->Rat}{m:Rat}(hm:∀j,j<n->ab (y j)<=m):∀{aa:List bI},(∀d∈aa,0<=d.1/\d.1<n)->(∀d∈aa,0<=cV d)->ab (aO (λd=>cV d*y d.1.toNat) aa)<=aO cV aa*m
 |[],_,_=>by show ab 0<=0*m;unfold ab;rw [if_neg (by grind)];grind
 |d::aa,h1,h2=>by have i:=EI hm (λx hx=>h1 x (aad _ hx)) (λx hx=>h2 x (aad _ hx));obtain ⟨a,b⟩:=h1 d aae;have c:=h2 d aae;have y1:=lO.mp (hm d.1.toNat (by omega));show ab (cV d*y d.1.toNat+aO (λd=>cV d*y d.1.toNat) aa)<=(cV d+aO cV aa)*m;have e1:=aaL y1.1 c;have e2:=aaL y1.2 c;have i:=lO.mp i;refine lO.mpr ⟨?_,?_⟩ <;> grind
theorem Dp{n:Nat}{aa:List bI}(w:Dc n aa)(n0:0<n){y:Nat->Rat}{m:Rat}(hm:∀j,j<n->ab (y j)<=m):ab (aO (λd=>cV d*y d.1.toNat) aa)<=m:=by
 have:=EI hm w.to w.c0;have m0:0<=m:=by have:=hm 0 n0;have:=O1 (y 0);grind
 have:=abt w.one m0;grind
theorem HG{B:Int}{c:Fr}(h:0<c.2)(hd:c.2∣B):((l7 B c:Int):Rat)=val c*B:=by
 obtain ⟨k,rfl⟩:=hd;unfold l7 val;rw [abe _ (by omega),aaG,aaG];have:=bb (show c.2≠0 by omega);generalize (c.1:Rat)=a at *
 generalize (c.2:Rat)=b at *
 generalize (k:Rat)=e at *
 grind
theorem IT{B:Int}:∀{ds:List bI},(∀d∈ds,0<(υ d).2/\(υ d).2∣B)->((((ds.map υ).map (l7 B)).sum:Int):Rat)=aO cV ds*B
 |[],_=>by show ((0:Int):Rat)=0*B;grind
 |d::ds,h=>by have i:=IT (ds:=ds) λx hx=>h x (aad _ hx);obtain ⟨a,b⟩:=h d aae;show (((l7 B (υ d)+((ds.map υ).map (l7 B)).sum:Int)):Rat)=(cV d+aO cV ds)*B;rw [Rat.intCast_add,i,HG a b];grind
theorem sD{c:Fr}(h:0<c.2)(h0:0<=c.1):0<=val c:=by
 have e:val c*(c.2:Rat)=c.1:=by
  have:=bb (show c.2≠0 by omega);unfold val;generalize (c.1:Rat)=x at *
  generalize (c.2:Rat)=y at *
  grind
 have p:(0:Rat)<(c.2:Rat):=abo.mpr h;have q:(0:Rat)<=(c.1:Rat):=aaY.mpr h0;by_cases z:0<=val c
 ·exact z
 ·have:=Rat.mul_pos (show 0< -val c by grind) p;grind
theorem NI{ds:List bI}(o:HZ (ds.map υ)):aO cV ds=1/\∀d∈ds,0<=cV d:=by
 obtain ⟨_,_,hB⟩:=jd (ds.map υ) 1 0 (by decide) (ach _) λc hc=>⟨(o.Lp.2 c hc).1,ach _⟩;have hm:∀d∈ds,υ d∈ds.map υ:=λd hd=>aag.mpr ⟨d,hd,rfl⟩;have e:=IT (B:=bD (ds.map υ)) (ds:=ds) λd hd=>⟨(o.Lp.2 _ (hm d hd)).1,hB _ (hm d hd)⟩;rw [o.sum] at e;have b0:=bb (show bD (ds.map υ)≠0 by have:=o.b0;omega);refine ⟨?_,λd hd=>?_⟩
 ·generalize ((bD (ds.map υ):Int):Rat)=b at *
  grind
 ·refine sD (o.Lp.2 _ (hm d hd)).1 ?_;have p:=o.pos _ (hm d hd);unfold l7 at p;have q0:0<=bD (ds.map υ)/(υ d).2:=Int.ediv_nonneg (aaj o.b0) (aaj (o.Lp.2 _ (hm d hd)).1);rcases ab2 (υ d).1 0 with z|z
  ·have:=Int.mul_nonpos_of_nonpos_of_nonneg (aaj z) q0;omega
  ·exact z
theorem Ge{p q:Fr}(hp:0<p.2)(hq:0<q.2):val (iw p q)=val p-val q:=by
 unfold iw;rw [kz (aa9 (aaE hp hq))];have h1:=bb (show p.2≠0 by omega);have h2:=bb (show q.2≠0 by omega);rw [Rat.intCast_sub,aaG,aaG,aaG];unfold val;generalize (p.1:Rat)=a at *
 generalize (p.2:Rat)=b at *
 generalize (q.1:Rat)=c at *
 generalize (q.2:Rat)=d at *
 grind
theorem Bf{p q:Fr}{E:Int}(hp:0<p.2)(hq:0<q.2)(h:hW p E)(h':hW q E):hW (iw p q) E:=by obtain ⟨N,e⟩:=h;obtain ⟨N',e'⟩:=h';unfold iw;exact oI (N:=N-N') (Int.ne_of_gt (Int.mul_pos hp hq)) (by grind)
theorem FX{p q:Fr}{C D:Int}(hp:0<p.2)(hq:0<q.2)(h:ef p C)(h':ef q D):ef (iw p q) (C+D):=by
 unfold iw;have a:=bW h.1 (aaj hq);have b:=bW h'.1 (aaj hp);have c:=bW h.2 (aaj hq);have d:=bW h'.2 (aaj hp);refine nB (aaE hp hq) ?_ ?_
 ·have e:p.2*q.2*(C+D)=p.2*C*q.2+q.2*D*p.2:=by grind
  have e2: -(q.2*D)*p.2= -(q.2*D*p.2):=by grind
  omega
 ·have e: -(p.2*q.2*(C+D))= -(p.2*C)*q.2+ -(q.2*D*p.2):=by grind
  omega
structure Nr(E C:Int)(p:Fr):Prop where
 red:Red p
 he:hW p E
 ab:ef p C
structure mh(n:Nat)(E C:Int)(v:Nat->Rat)(ns:List Fr):Prop where
 len:ns.length=n
 nr:∀x,x<n->Nr E C (ns.getD x (0,1))
 val:∀x,x<n->val (ns.getD x (0,1))=v x
def rz(ε:Fr)(ns:List Fr)(d:bI):List Fr:=ns.set d.1.toNat (iw (ns.getD d.1.toNat (0,1)) (aA ε (υ d)))
def gO(ε:Fr)(n i:Nat)(aa:List bI):List Fr:=aa.foldl (rz ε) ((List.replicate n ((0,1):Fr)).set i (1,1))
theorem Wf{E C:Int}(c:0<=C):Nr E C (0,1):=⟨⟨by decide,by decide⟩,⟨0,by simp⟩,⟨by show (0:Int)<=1*C;omega,by show -(1*C)<=(0:Int);omega⟩⟩
theorem Zi{E:Int}:Nr E 1 (1,1):=⟨⟨by decide,by decide⟩,⟨E,by simp⟩,⟨by decide,by decide⟩⟩
theorem zY{ns:List Fr}{t x:Nat}{a:Fr}(h:t<ns.length):(ns.set t a).getD x (0,1)=if x=t then a else ns.getD x (0,1):=by
 rw [aab,List.getElem?_set];by_cases e:x=t
 ·subst e;rw [if_pos rfl,if_pos h,if_pos rfl];rfl
 ·rw [if_neg (Ne.symm e),if_neg e,<-aab]
theorem Iz{n i:Nat}{E:Int}(hi:i<n):mh n E 1 (λx=>if x=i then 1 else 0) ((List.replicate n ((0,1):Fr)).set i (1,1)):=by
 have g:∀x,((List.replicate n ((0,1):Fr)).set i (1,1)).getD x (0,1)=if x=i then (1,1) else (0,1):=λx=>by
  rw [zY (by simpa using hi)]
  congr 1
  rw [aab,abK];split <;> rfl
 refine ⟨by simp,λx _=>?_,λx _=>?_⟩
 ·rw [g];split
  ·exact Zi
  ·exact Wf (by decide)
 ·rw [g];show Pg.val (if x=i then (1,1) else (0,1))=if x=i then 1 else 0
  unfold Pg.val;split
  ·show ((1:Int):Rat)/((1:Int):Rat)=1;grind
  ·show ((0:Int):Rat)/((1:Int):Rat)=0;grind
structure RE(ε:Fr)(E:Int)(d:bI):Prop where
 s0:0<ε.2
 su:g6 ε
 c0:0<(υ d).2
 cu:g6 (υ d)
 he:hW (aA ε (υ d)) E
theorem RE.nr{ε:Fr}{E:Int}{d:bI}(h:RE ε E d):Nr E 1 (aA ε (υ d)):=by have p:=aaE h.s0 h.c0;have u:=B2 h.s0 h.c0 h.su h.cu;have r:Red (aA ε (υ d)):=b_ (aa9 p);have rp:=r.pos;obtain ⟨u1,u2⟩:=u;exact ⟨r,h.he,⟨by omega,by omega⟩⟩
theorem AS{n:Nat}{ε:Fr}{E C:Int}{v:Nat->Rat}{ns:List Fr}{d:bI}(h:mh n E C v ns)(c:0<=C)(hd:0<=d.1/\d.1<n)(sc:RE ε E d):mh n E (C+1) (λx=>v x-Pg.val ε*((if d.1.toNat=x then 1 else 0)*cV d)) (rz ε ns d):=by
 have ht:d.1.toNat<ns.length:=by rw [h.len];omega
 have k:=sc.nr;have g:=λx=>zY (x:=x) (a:=iw (ns.getD d.1.toNat (0,1)) (aA ε (υ d))) ht;refine ⟨by unfold rz;rw [List.length_set];exact h.len,λx hx=>?_,λx hx=>?_⟩
 ·unfold rz;rw [g];have a:=h.nr x hx;split
  ·rename_i e;rw [<-e];have p:=aaE a.red.pos k.red.pos;exact ⟨b_ (aa9 p),Bf a.red.pos k.red.pos a.he k.he,FX a.red.pos k.red.pos a.ab k.ab⟩
  ·have:=aar (show C<=C+1 by omega) (aaj a.red.pos);exact ⟨a.red,a.he,⟨abm a.ab.1 this,by have:=a.ab.2;omega⟩⟩
 ·unfold rz;rw [g];have a:=h.nr x hx;have b:=h.val x hx;split
  ·rename_i e;rw [<-e,Ge a.red.pos k.red.pos,b,o8 sc.s0 sc.c0,if_pos rfl];grind
  ·rename_i e;rw [b,if_neg (Ne.symm e)];grind
theorem vI{n:Nat}{ε:Fr}{E:Int}:∀{aa:List bI}{ns:List Fr}{v:Nat->Rat}{C:Int},(∀d∈aa,(0<=d.1/\d.1<n)/\RE ε E d)->0<=C->mh n E C v ns->mh n E (C+aa.length) (λx=>v x-Pg.val ε*aO (λd=>(if d.1.toNat=x then 1 else 0)*cV d) aa) (aa.foldl (rz ε) ns)
 |[],ns,v,C,_,_,h=>by
  refine ⟨h.len,λx hx=>?_,λx hx=>?_⟩
  ·rw [ab6,Int.natCast_zero,Int.add_zero];exact h.nr x hx
  ·show _=v x-Pg.val ε*0;rw [show v x-Pg.val ε*0=v x by grind];exact h.val x hx
 |d::aa,ns,v,C,hw,c,h=>by obtain ⟨h1,h2⟩:=hw d aae;have i:=vI (aa:=aa) (λx hx=>hw x (aad _ hx)) (by omega) (AS h c h1 h2);rw [aaW,aax,show C+((aa.length+1:Nat):Int)=C+1+aa.length by omega];refine ⟨i.len,i.nr,λx hx=>?_⟩;rw [i.val x hx];show v x-Pg.val ε*((if d.1.toNat=x then 1 else 0)*cV d)-Pg.val ε*aO (λd=>(if d.1.toNat=x then 1 else 0)*cV d) aa=v x-Pg.val ε*((if d.1.toNat=x then 1 else 0)*cV d+aO (λd=>(if d.1.toNat=x then 1 else 0)*cV d) aa);grind
def vW(s:Rat)(i:Nat)(aa:List bI)(x:Nat):Rat:=(if x=i then 1 else 0)-s*aO (λd=>(if d.1.toNat=x then 1 else 0)*cV d) aa
theorem LV{n i:Nat}{ε:Fr}{E:Int}{aa:List bI}(hi:i<n)(hw:∀d∈aa,(0<=d.1/\d.1<n)/\RE ε E d):mh n E (1+aa.length) (vW (Pg.val ε) i aa) (gO ε n i aa):=vI hw (by decide) (Iz hi)
theorem Ip{n i:Nat}{s:Rat}(hi:i<n)(y:Nat->Rat):∀{aa:List bI},(∀d∈aa,0<=d.1/\d.1<n)->c_ (λx=>vW s i aa x*y x) n=y i-s*aO (λd=>cV d*y d.1.toNat) aa
 |[],_=>by rw [dX (g:=λx=>(if x=i then 1 else 0)*y x) λx _=>by show ((if x=i then 1 else 0)-s*0)*y x=_;grind];rw [sF y hi];show y i=y i-s*0;grind
 |d::aa,h=>by
  obtain ⟨a,b⟩:=h d aae;have ih:=Ip (s:=s) hi y (aa:=aa) λx hx=>h x (aad _ hx)
  rw [dX (g:=λx=>1*(vW s i aa x*y x)-(s*cV d)*((if x=d.1.toNat then 1 else 0)*y x)) λx _=>by
   show ((if x=i then 1 else 0)-s*((if d.1.toNat=x then 1 else 0)*cV d+aO (λd=>(if d.1.toNat=x then 1 else 0)*cV d) aa))*y x=1*(((if x=i then 1 else 0)-s*aO (λd=>(if d.1.toNat=x then 1 else 0)*cV d) aa)*y x)-(s*cV d)*((if x=d.1.toNat then 1 else 0)*y x);by_cases e:x=d.1.toNat
   ·rw [if_pos e,if_pos e.symm];grind
   ·rw [if_neg e,if_neg (Ne.symm e)];grind]
  rw [tX,ih,sF y (show d.1.toNat<n by omega)];show _=y i-s*(cV d*y d.1.toNat+aO (λd=>cV d*y d.1.toNat) aa);grind
def md(ns:List Fr):List Int:=ns.map λc=>c.1*(bD ns/c.2)
theorem yP{ns:List Fr}{E C:Int}(h:∀c∈ns,Nr E C c)(e0:0<E)(c0:0<=C):0<bD ns/\bD ns<=E/\∀c∈ns,((l7 (bD ns) c:Int):Rat)=val c*(bD ns:Int)/\ -(C*E)<=l7 (bD ns) c/\l7 (bD ns) c<=C*E:=by
 have b0:0<bD ns:=fD ns 1 (by decide) λc hc=>(h c hc).red.pos;obtain ⟨d1,_,d3⟩:=jd ns 1 E (by decide) (Int.one_dvd _) λc hc=>⟨(h c hc).red.pos,xR (h c hc).red (h c hc).he⟩;have le:=abS e0 d1;refine ⟨b0,le,λc hc=>⟨HG (h c hc).red.pos (d3 c hc),?_⟩⟩;have hd:=d3 c hc;have cp:=(h c hc).red.pos;obtain ⟨a1,a2⟩:=(h c hc).ab;have le:bD ns<=E:=le;have b0:0<bD ns:=b0;generalize hL:bD ns=L at *
 have hd:c.2∣L:=by rw [<-hL];exact hd
 obtain ⟨k,rfl⟩:=hd;unfold l7;rw [abe _ (by omega)];have k0:0<=k:=by
  rcases ab2 k 0 with z|z
  ·have:=abG cp z;omega
  ·exact z
 have m1:=bW a1 k0;have m2:=bW a2 k0;have m3:=aar le c0;have e1:c.2*C*k=C*(c.2*k):=by grind
 have e2: -(c.2*C)*k= -(C*(c.2*k)):=by grind
 exact ⟨by omega,by omega⟩
def mZ(ε:Fr)(n i:Nat)(aa:List bI)(given:Fr):List Int:=md (gO ε n i aa++[given])
structure uM(ε:Fr)(n:Nat)(E C:Int)(aa:List bI)(given:Fr):Prop where
 wo:Dc n aa
 sc:∀d∈aa,RE ε E d
 gn:Nr E C given
 e0:0<E
 cl:1+(aa.length:Int)<=C
theorem AX{E C D:Int}{p:Fr}(h:Nr E C p)(l:C<=D):Nr E D p:=by have:=aar l (aaj h.red.pos);obtain ⟨a,b⟩:=h.ab;exact ⟨h.red,h.he,⟨by omega,by omega⟩⟩
theorem NS{ns:List Fr}{x:Nat}(h:x<ns.length):ns.getD x (0,1)∈ns:=by rw [aab,aaa h];exact aay h
theorem CI{ε:Fr}{n i:Nat}{E C:Int}{aa:List bI}{given:Fr}(hi:i<n)(p:uM ε n E C aa given):(mZ ε n i aa given).length=n+1/\(∀x∈mZ ε n i aa given, -(C*E)<=x/\x<=C*E)/\∃L:Rat,0<L/\(∀y:Nat->Rat,c_ (λx=>((mZ ε n i aa given).getD x 0:Rat)*y x) n=L*(y i-Pg.val ε*aO (λd=>cV d*y d.1.toNat) aa))/\((mZ ε n i aa given).getD n 0:Rat)=L*Pg.val given:=by
 have no:=LV hi λd hd=>⟨p.wo.to d hd,p.sc d hd⟩;have c0:0<=C:=by have:=p.cl;omega
 have all:∀c∈gO ε n i aa++[given],Nr E C c:=λc hc=>by
  rcases aaP.mp hc with z|z
  ·obtain ⟨x,hx,e⟩:=aa0 z;have RS:x<n:=by rw [<-no.len];exact hx
   have:=no.nr x RS;rw [aab,aaa hx] at this;rw [<-e];exact AX this p.cl
  ·rw [aba.mp z];exact p.gn
 obtain ⟨b0,bE,hb⟩:=yP all p.e0 c0;have ln:(gO ε n i aa).length=n:=no.len;have at_:∀x,x<n+1->(mZ ε n i aa given).getD x 0=l7 (bD (gO ε n i aa++[given])) ((gO ε n i aa++[given]).getD x (0,1)):=λx hx=>by
  unfold mZ md;have hx:x<(gO ε n i aa++[given]).length:=by simp [ln];exact hx
  rw [aab,aal,aab,aaa hx];rfl
 have ZV:∀x,x<n+1->(gO ε n i aa++[given]).getD x (0,1)∈gO ε n i aa++[given]:=λx hx=>NS (by simp [ln];exact hx);refine ⟨by unfold mZ md;simp [ln],λx hx=>?_,((bD (gO ε n i aa++[given]):Int):Rat),?_,λy=>?_,?_⟩
 ·unfold mZ md at hx;obtain ⟨c,hc,rfl⟩:=aag.mp hx;exact (hb c hc).2
 ·exact abo.mpr b0
 ·rw [dX (g:=λx=>((bD (gO ε n i aa++[given]):Int):Rat)*(vW (Pg.val ε) i aa x*y x)-0*0) λx hx=>by
   rw [at_ x (by omega),(hb _ (ZV x (by omega))).1];have:(gO ε n i aa++[given]).getD x (0,1)=(gO ε n i aa).getD x (0,1):=by rw [aab,aaq (by rw [ln];exact hx),<-aab]
   rw [this,no.val x hx];grind]
  rw [tX _ 0 (λx=>vW (Pg.val ε) i aa x*y x) (λ_=>0),Ip hi y p.wo.to];grind
 ·rw [at_ n (by omega),(hb _ (ZV n (by omega))).1];have:(gO ε n i aa++[given]).getD n (0,1)=given:=by rw [aab,aan (by rw [ln];exact aai _),ln,acg];rfl
  rw [this];grind
structure Sys(ε:Fr)(n:Nat)(B:Int)(ws:Nat->List bI)(gv:Nat->Fr):Prop where
 n1:1<=n
 s0:0<=Pg.val ε
 s1:Pg.val ε<1
 b1:1<=B
 Hq:∀i,i<n->∃E C,uM ε n E C (ws i) (gv i)/\C*E<=B
def hV(ε:Fr)(n:Nat)(ws:Nat->List bI)(gv:Nat->Fr):List (List Int):=(List.range n).map λi=>mZ ε n i (ws i) (gv i)
section
variable{ε:Fr}{n:Nat}{B:Int}{ws:Nat->List bI}{gv:Nat->Fr}
theorem BM{k x:Nat}(h:k<n):Bz.arr (hV ε n ws gv) k x=(mZ ε n k (ws k) (gv k)).getD x 0:=by
 unfold Bz.arr hV
 congr 1
 rw [aab,aal,aaH h];rfl
theorem k8:(hV ε n ws gv).length=n:=by unfold hV;simp
theorem Sys.eq(S:Sys ε n B ws gv){k:Nat}(hk:k<n):∃L:Rat,0<L/\(∀y:Nat->Rat,c_ (λx=>(Bz.arr (hV ε n ws gv) k x:Rat)*y x) n=L*(y k-Pg.val ε*aO (λd=>cV d*y d.1.toNat) (ws k)))/\(Bz.arr (hV ε n ws gv) k n:Rat)=L*Pg.val (gv k):=by
 obtain ⟨E,C,p,_⟩:=S.Hq k hk;obtain ⟨_,_,L,l0,l1,l2⟩:=CI hk p;refine ⟨L,l0,λy=>?_,?_⟩
 ·rw [<-l1 y];exact dX λx _=>by rw [BM hk]
 ·rw [BM hk];exact l2
theorem Sys.zero(S:Sys ε n B ws gv){y:Nat->Rat}(h:∀k,k<n->y k=Pg.val ε*aO (λd=>cV d*y d.1.toNat) (ws k)):∀k,k<n->y k=0:=λk hk=>by
 have:=Ld (n:=n) (x:=y) (c:=0) S.s1 (λi hi m hm=>by
  obtain ⟨E,C,p,_⟩:=S.Hq i hi;have w:=lO.mp (Dp p.wo (by omega) hm);have a:=aaL w.1 S.s0;have b:=aaL w.2 S.s0;rw [h i hi]
  refine lO.mpr ⟨?_,?_⟩ <;> grind) k hk
 have a0:=O1 (y k);have s1:=S.s1;have:ab (y k)=0:=by
  by_cases e:ab (y k)=0
  ·exact e
  ·have p:=Rat.mul_pos (show 0<ab (y k) by grind) (show 0<1-Pg.val ε by grind);grind
 unfold ab at this;split at this <;> grind
theorem Sys.Z0(S:Sys ε n B ws gv)(y:Bz.Row)(h:∀k,k<n->Bz.Β (λx=>Bz.arr (hV ε n ws gv) k x*y x) n=0):∀x,x<n->y x=0:=λx hx=>by
 have:=S.zero (y:=λx=>(y x:Rat)) (λk hk=>by
  obtain ⟨L,l0,l1,_⟩:=S.eq hk;have e:=congrArg (λz:Int=>(z:Rat)) (h k hk);rw [oB,dX (g:=λx=>(Bz.arr (hV ε n ws gv) k x:Rat)*(y x:Rat)) λx _=>aaG _ _,l1 λx=>(y x:Rat)] at e;have e:L*((y k:Rat)-Pg.val ε*aO (λd=>cV d*(y d.1.toNat:Rat)) (ws k))=0:=e;rcases Rat.mul_eq_zero.mp e with z|z
  ·grind
  ·grind) x hx
 exact Rat.intCast_eq_zero_iff.mp this
theorem Sys.bd(S:Sys ε n B ws gv):Bz.Bd (Bz.arr (hV ε n ws gv)) n (n+1) B:=⟨S.b1,λk c hk hc=>by
 obtain ⟨E,C,p,hB⟩:=S.Hq k hk;obtain ⟨ln,hb,_⟩:=CI hk p;rw [BM hk];have:=hb ((mZ ε n k (ws k) (gv k)).getD c 0) (by rw [aab,aaa (by omega)];exact aay _)
 exact ⟨by omega,by omega⟩⟩
structure Tab(ε:Fr)(n:Nat)(ws:Nat->List bI)(gv:Nat->Fr)(tb:List Fr):Prop where
 len:tb.length=n
 red:∀i,i<n->Red (tb.getD i (0,1))
 eq:∀i,i<n->Pg.val (tb.getD i (0,1))=Pg.val (gv i)+Pg.val ε*aO (λd=>cV d*Pg.val (tb.getD d.1.toNat (0,1))) (ws i)
theorem Sys.uniq(S:Sys ε n B ws gv){t t':List Fr}(h:Tab ε n ws gv t)(h':Tab ε n ws gv t'):t=t':=by
 have z:=S.zero (y:=λx=>Pg.val (t.getD x (0,1))-Pg.val (t'.getD x (0,1))) (λk hk=>by
  rw [h.eq k hk,h'.eq k hk];rw [show (λd:bI=>cV d*(Pg.val (t.getD d.1.toNat (0,1))-Pg.val (t'.getD d.1.toNat (0,1))))=λd=>cV d*Pg.val (t.getD d.1.toNat (0,1))-cV d*Pg.val (t'.getD d.1.toNat (0,1)) by funext d;grind,sx]
  grind)
 apply aa6
 ·rw [h.len,h'.len]
 ·intro i h1 h2;have hi:i<n:=by rw [<-h.len];exact h1
  have a:=h.red i hi;have b:=h'.red i hi;have c:=z i hi;rw [aab,aaa h1] at a c;rw [aab,aaa h2] at b c;exact qU a b (by have c:Pg.val t[i]-Pg.val t'[i]=0:=c;grind)
theorem Sys.ex(S:Sys ε n B ws gv)(vg:n<=12):∃(tb:List Fr) (z:Bz.Row) (N:Int),Bz.Q9 (Bz.arr (hV ε n ws gv)) n n z N/\N≠0/\(∀i,i<n->N*(tb.getD i (0,1)).1=z i*(tb.getD i (0,1)).2)/\Tab ε n ws gv tb/\∀i,i<n->(tb.getD i (0,1)).2<=(12*B)^n:=by
 obtain ⟨ρ,ν,q,d,W,t⟩:=Bz.Turn.exists (A:=Bz.arr (hV ε n ws gv)) (n:=n) n;have hc:ν=List.range n:=by
  rcases t.all with e|⟨x,h1,h2⟩
  ·exact e
  ·obtain ⟨z,z1,z2⟩:=t.kernel h1 h2;have:=S.Z0 z z2 x h1;rw [z1] at this;exact absurd (by omega) t.d0
 have lr:ρ.length=n:=by rw [<-t.st.lc,hc,aaN]
 have sol:=t.Us λi h1 h2=>absurd h1 (by omega);have d0:=t.d0;generalize hz:Bz.Ln (Bz.arr (hV ε n ws gv)) n W ν n ν.length=z at *
 have g:∀i,i<n->((List.range n).map λi=>aq (z i) d).getD i (0,1)=aq (z i) d:=λi hi=>by rw [aab,aal,aaH hi];rfl
 refine ⟨(List.range n).map λi=>aq (z i) d,z,d,sol,d0,λi hi=>?_,⟨by simp,λi hi=>?_,λi hi=>?_⟩,λi hi=>?_⟩
 ·rw [g i hi,<-cv d0]
 ·rw [g i hi];exact b_ d0
 ·obtain ⟨L,l0,l1,l2⟩:=S.eq hi;obtain ⟨E,C,p,_⟩:=S.Hq i hi;have e:=congrArg (λz:Int=>(z:Rat)) (sol i hi);rw [oB,dX (g:=λx=>(Bz.arr (hV ε n ws gv) i x:Rat)*(z x:Rat)) λx _=>aaG _ _,l1 λx=>(z x:Rat),aaG,l2] at e;rw [g i hi,kz d0]
  rw [ma (g:=λdd=>(1/(d:Rat))*(cV dd*(z dd.1.toNat:Rat))-0) λdd hdd=>by
   obtain ⟨a,b⟩:=p.wo.to dd hdd;rw [g _ (by omega),kz d0];have:=bb d0
   grind]
  have sc:∀(k:Rat) (ds:List bI),aO (λdd=>k*(cV dd*(z dd.1.toNat:Rat))-0) ds=k*aO (λdd=>cV dd*(z dd.1.toNat:Rat)) ds:=λk ds=>by
   induction ds with
   |nil=>show (0:Rat)=k*0;grind
   |cons a ds ih=>
    show k*(cV a*(z a.1.toNat:Rat))-0+aO (λdd=>k*(cV dd*(z dd.1.toNat:Rat))-0) ds=k*(cV a*(z a.1.toNat:Rat)+aO (λdd=>cV dd*(z dd.1.toNat:Rat)) ds);rw [ih];grind
  rw [sc];have:=bb d0;have e:L*((z i:Rat)-Pg.val ε*aO (λdd=>cV dd*(z dd.1.toNat:Rat)) (ws i))=(d:Rat)*(L*Pg.val (gv i)):=e;have e2:(z i:Rat)-Pg.val ε*aO (λdd=>cV dd*(z dd.1.toNat:Rat)) (ws i)=(d:Rat)*Pg.val (gv i):=by
   have:L*((z i:Rat)-Pg.val ε*aO (λdd=>cV dd*(z dd.1.toNat:Rat)) (ws i)-(d:Rat)*Pg.val (gv i))=0:=by grind
   rcases Rat.mul_eq_zero.mp this with y|y
   ·grind
   ·grind
  grind
 ·rw [g i hi];have ad:=t.st.WD S.bd (λc zG=>aat (t.cl c zG) (Nat.le_succ _)) (by omega);rw [lr] at ad;have l:=ku (t:=z i) d0;have q0:=bK (t:=z i) d0;obtain ⟨a1,a2⟩:=ad;omega
end
theorem Oc{d:bI}{c:Fr}{M:Ms}{q:DQ}(e:d.2.2=[c])(h:q (Τ c) M):fV (dt d) (.int 2) M q:=by unfold dt;rw [e];exact Ι (xs:=[.int d.1,Τ d.2.1,Τ c]) rfl (Θ (j:=2) rfl) h
theorem Qw{M:Ms}{k:Nat}{xs:List Dt}(h:M[k]? =some (MO.lst xs)):kU M (.loc k)=some xs:=by show (match M[k]? with|some (MO.lst xs)=>some xs|_=>none)=some xs;rw [h]
theorem J0{E C:Int}{p:Fr}(h:Nr E C p)(e0:0<E)(e1:E<2^190)(c0:0<=C)(c1:C<2^110):Sz 300 p:=Oo (k:=190) (m:=110) h.red h.he e0 e1 h.ab c0 c1
def HR:DF:=λas M q _=>∃(ns:List Fr) (E C:Int),as=[.lst (ns.map Τ)]/\ns.length<=13/\(∀c∈ns,Nr E C c)/\0<E/\E<2^190/\0<=C/\C<2^110/\q (ck (md ns)) M
theorem lW:Δ ["numbers","bottom"] ["numbers"] (τ pJ):= .of rfl
theorem A0{f:Addr}{fd:FuncData}(F:cJ K "whole_row" "whole_row" pJ f fd)(E:Ev K mg w Cm){iE:Addr}{iB:FuncData}(cf:aw P w K mg base 2 "common_bottom" ["chances"] iK iE iB):ah P w K mg base (bU P w) 3 f fd ["numbers"] (cC K HR):=by
 refine F.df lW (λds M q x h=>?_) (λaT A outer s H E' hr=>⟨_,(η (Γ 1 lW.nd (ag cf hr ξ (Υ (jv 0) θ)))
   (μ (Ε (fA (ys:=["bottom"]) (ae:=[1]) (.of lW rfl rfl rfl) (bf (jv 0)) (λC s H fp=>(aR (Ν (jv 0) ω) (kK (jv 1) (Ν (jv 0) ω)))))))),λds M q x h=>?_⟩)
 ·obtain ⟨ns,E,C,rfl,_⟩:=h;rfl
 ·obtain ⟨ns,Ep,C,rfl,hz,hn,e0,e1,c0,c1,h⟩:=h;obtain ⟨b0,bE,_⟩:=yP hn e0 c0;have YF:∀c∈ns,Sz 300 c:=λc hc=>J0 (hn c hc) e0 e1 c0 c1;have b2:∀c∈ns,c.2<2^200:=λc hc=>by have:=abS e0 (xR (hn c hc).red (hn c hc).he);exact aaB this (ab3 e1 (by decide))
  refine ⟨ns,rfl,⟨hz,λc hc=>⟨(hn c hc).red.pos,b2 c hc⟩⟩,?_⟩;walk_at "vc";refine d_ (i:=0) rfl rfl ⟨by rw [aac];exact aap hz (by decide),?_⟩;refine gx (f:=λd=> .int (match d with|.tup [.int a,.int b]=>a*(bD ns/b)|_=>0)) trivial (λx hx q hq=>?_) ?_
  ·obtain ⟨y,hy,rfl⟩:=aag.mp hx;have s:=YF y hy;have y0:=(hn y hy).red.pos;refine ⟨⟨y0,cU s (by decide)⟩,⟨gf s (by decide),?_⟩,hq⟩;exact qu (k:=190) (Int.ediv_nonneg (aaj b0) (aaj y0)) (aaB (abX _ (aaj b0)) (aaB bE e1)) (by decide)
  ·rw [aaF,aau];have e:ns.map ((λd=>Dt.int (match d with|.tup [.int a,.int b]=>a*(bD ns/b)|_=>0)) ∘ Τ)=(md ns).map Dt.int:=by unfold md;rw [aau];rfl
   rw [e];exact h
structure Za(E C:Int):Prop where
 e1:E<2^190
 c1:C<2^110
def UN(A:Addr):DF:=λas M q _=>∃(ε:Fr) (γ:List Rw) (i:Nat) (aa:List bI) (given:Fr) (E C:Int),as=[au A ε γ,.int (i:Nat),.lst (aa.map dt),Τ ε,Τ given]/\i<γ.length/\γ.length<=12/\aM ε=true/\(∀d∈aa,∃c,d.2.2=[c])/\uM ε γ.length E C aa given/\Za E C/\(∀d∈aa,Sz 300 (υ d))/\∀E',q (ck (mZ ε γ.length i aa given)) (M++E')
theorem q_:Δ ["floor","place","ways","share","given","numbers","way"] ["floor","place","ways","share","given"] (τ xq):= .of rfl
theorem G9{f:Addr}{fd:FuncData}(F:cJ K "led_row" "led_row" xq f fd)(E:Ev K mg w Cm){dQ:Addr}{dJ:FuncData}(aU:cE P w K mg base 1 Cm "size" ["self"] (Aw Cm) dQ dJ){Pt:Addr}{Rg:FuncData}(yy:aw P w K mg base 3 "minus" ["one","other"] Kr Pt Rg){r8:Addr}{sE:FuncData}(gm:aw P w K mg base 3 "times" ["one","other"] xD r8 sE){Gz:Addr}{GA:FuncData}(lQ:aw P w K mg base 3 "whole_row" ["numbers"] HR Gz GA):ah P w K mg base (bU P w) 5 f fd ["floor","place","ways","share","given"] (cC K (UN Cm)):=by
 refine F.df q_ (λds M q x h=>?_) (λaT A outer s H E' hr=>⟨_,(η (Γ 5 q_.nd (CV (eR 3 (d:= .lst [.tup [.int 0,.int 1]]) (by rfl)) (ik aU hr ξ (jv 0))))
   (η (nD (jv 5) (jv 1) (c7 (ι ω (ι ω θ (hs:=fQ)) (hs:=fQ))))
   (η (dF (bf (jv 2)) (aD (i:=6) q_.nd rfl (Or.inl rfl)) ba (μ (nD (jv 5) (Ν (jv 6) ω) (ag yy hr ξ (ι (Ν (jv 5) (Ν (jv 6) ω)) (ι (ag gm hr ξ (Υ (jv 3) (ι (Ν (jv 6) ω) θ (hs:=aV)))) θ (hs:=aQ)) (hs:=aV))))))
   (μ (Ε (ag lQ hr ξ (ι (mR (jv 5) (lH (Υ (jv 4) θ))) θ (hs:=bV)))))))),λds M q x h=>?_⟩)
 ·obtain ⟨ε,γ,i,aa,given,E,C,rfl,_⟩:=h;rfl
 ·obtain ⟨ε,γ,i,aa,given,Ep,C,rfl,il,pk,hs,Mb,p,sz,VF,h⟩:=h;have szs:=nY hs;have e0:=p.e0;have c0:0<=C:=by have:=p.cl;omega
  generalize hn:γ.length=n at *
  refine ⟨⟨_,_,.inl rfl,rfl⟩,ε,γ,rfl,?_⟩;rw [hn];refine ⟨[Τ (0,1)],n,rfl,rfl,by omega,by omega,?_,?_⟩
  ·show 1*((n:Int)).toNat<=sizeLine;exact aap (show _<=12 by omega) (by decide)
  rw [show ((n:Int)).toNat=n by omega,tL];dsimp only [yF];walk_at "vc";refine ⟨by show 2<=sizeLine;decide,?_⟩;refine ⟨M.length,(i:Nat),_,i,rfl,rfl,aZ,by rw [aaS];exact xS il,?_⟩;rw [eO];have e00:(List.replicate n (Τ (0,1))).set i (.tup [.int 1,.int 1])=((List.replicate n ((0,1):Fr)).set i (1,1)).map Τ:=by rw [List.map_set,List.map_replicate];rfl
  rw [e00];dsimp only [vY,e_];walk_at "vc";refine cc (λzs ρ' M'=>∃(gC rest:List bI) (ns:List Fr) (v:Nat->Rat) (o:Option Dt),aa=gC++rest/\zs=rest.map dt/\ns=gC.foldl (rz ε) ((List.replicate n ((0,1):Fr)).set i (1,1))/\mh n Ep (1+gC.length) v ns/\M'=M++[MO.lst (ns.map Τ)]/\ρ'=[some (au Cm ε γ),some (.int (i:Int)),some (.lst (aa.map dt)),some (Τ ε),some (Τ given),some (.loc M.length),o]) (λzs ρ' M' hj=>trivial) (λx zs ρ' M' hj ir=>?_) (λρ' M' hj=>?_) _ _ _ ⟨[],aa,_,_,none,rfl,rfl,rfl,Iz il,rfl,rfl⟩
  ·obtain ⟨gC,rest,ns,v,o,ew,ex,en,no,rfl,rfl⟩:=hj;cases rest with
   |nil=>cases ex
   |cons d rest=>
    cases ex;have dm:d∈aa:=by rw [ew];exact aaz _ aae
    obtain ⟨t0,t1⟩:=p.wo.to d dm;obtain ⟨c,hc⟩:=Mb d dm;have ec:υ d=c:=by unfold υ;rw [hc];rfl
    have sc:=p.sc d dm;have RJ:=VF d dm;have dl:1+(gC.length:Int)<=C:=by have:=congrArg List.length ew;rw [aah,aax] at this;have:=p.cl;omega
    have tl:d.1.toNat<ns.length:=by rw [no.len];omega
    have YF:=J0 (AX (no.nr d.1.toNat (by omega)) dl) e0 sz.e1 c0 sz.c1;have szt:=J0 (AX sc.nr (show (1:Int)<=C by omega)) e0 sz.e1 c0 sz.c1;have at_:oJ (ns.map Τ) d.1=some (Τ (ns.getD d.1.toNat (0,1))):=by have:=Sq tl;rw [show ((d.1.toNat:Nat):Int)=d.1 by omega] at this;rw [this,aab,aaa tl];rfl
    have nx:∀o,_:=λo=>ir [some (au Cm ε γ),some (.int (i:Int)),some (.lst (aa.map dt)),some (Τ ε),some (Τ given),some (.loc M.length),o] (M++[MO.lst ((rz ε ns d).map Τ)]) ⟨gC++[d],rest,rz ε ns d,_,o,by rw [ew];simp,rfl,by rw [List.foldl_append,<-en];rfl,by
     have:=AS no (by omega) ⟨t0,t1⟩ sc;rw [show 1+((gC++[d]).length:Int)=1+(gC.length:Int)+1 by simp;omega]
     exact this,rfl,rfl⟩
    dsimp only [gN,yF];walk_at "vc";refine D1 ?_;refine (Ι (d:= .loc M.length) (Qw aZ) at_ ?_:fV (.loc M.length) (.int d.1) _ _);refine Oc hc ?_;rw [<-ec];refine ⟨ε,υ d,11,300,rfl,szs,RJ,by decide,?_⟩;refine ⟨_,_,300,300,rfl,YF,szt,by decide,?_⟩;refine D1 ?_;refine ⟨M.length,d.1,_,d.1.toNat,rfl,rfl,aZ,by rw [aac];have:=xS tl;rwa [show ((d.1.toNat:Nat):Int)=d.1 by omega] at this,?_⟩;rw [eO];have:(ns.map Τ).set d.1.toNat (Τ (iw (ns.getD d.1.toNat (0,1)) (aA ε (υ d))))=(rz ε ns d).map Τ:=by unfold rz;rw [List.map_set]
    rw [this];exact nx _
  ·obtain ⟨gC,rest,ns,v,o,ew,ex,en,no,rfl,rfl⟩:=hj;cases rest with
   |cons d rest=>cases ex
   |nil=>
    rw [aaZ] at ew;subst ew;have en:ns=gO ε n i aa:=en;walk_at "vc";refine ⟨by show 1<=sizeLine;decide,ns.map Τ,[Τ given],yf aZ,rfl,?_,?_⟩
    ·rw [aac,no.len];exact aap (show n+1<=13 by omega) (by decide)
    refine ⟨ns++[given],Ep,C,by rw [aaX];rfl,by rw [aah,no.len];show n+1<=13;omega,λc hc=>?_,e0,sz.e1,c0,sz.c1,?_⟩
    ·rcases aaP.mp hc with z|z
     ·obtain ⟨x,hx,e⟩:=aa0 z;have:=no.nr x (by rw [<-no.len];exact hx);rw [aab,aaa hx] at this;rw [<-e];exact AX this p.cl
     ·rw [aba.mp z];exact p.gn
    rw [en];exact h _
theorem Ay:∀(ps:List (Fr×Fr)) (w:Fr),Red w->(∀p∈ps,0<p.1.2/\0<p.2.2)->Red (ps.foldl (λw p=>cN w (aA p.1 p.2)) w)
 |[],w,h,_=>h
 |p::ps,w,h,hp=>by obtain ⟨a,b⟩:=hp p aae;have t:Red (aA p.1 p.2):=b_ (aa9 (aaE a b));exact Ay ps _ (b_ (aa9 (aaE h.pos t.pos))) λx hx=>hp x (aad _ hx)
structure FW(ε:Fr)(γ:List Rw)(X C:Int):Prop where
 pl:Qb ε γ
 n1:1<=γ.length
 W0:∀k ds,Rw.ο k ds∈γ->χ k=true->∀d∈ds,d.2.2=[]
 Tp:∀k ds,Rw.ο k ds∈γ->∃E,0<E/\E<=X/\∀d∈ds,Nr E C d.2.1
 fin:∀p,Rw.fin p∈γ->∃E,0<E/\E<=X/\Nr E C p
 x1:X<=10^36
 c9:9<=C
 c1:C<=10^30
def ie(X C:Int):Int:=6*C*(1000000000*X)
def ME(Ζ:Pl)(i:Nat):Rw->List bI
 |.fin _=>[]
 |.ο k ds=>av Ζ i (.ο k ds)
def Ol(Ζ:Pl)(i:Nat):Rw->Fr
 |.fin p=>p
 |.ο k ds=>fU (((av Ζ i (.ο k ds)).map υ).zip ((av Ζ i (.ο k ds)).map (·.2.1)))
def fH(γ:List Rw)(i:Nat):Rw:=γ.getD i (.fin (0,1))
structure Xm(n:Nat)(B E C:Int)(d:bI):Prop where
 to:0<=d.1/\d.1<n
 one:d.2.2=[υ d]
 ch:Ch B (υ d)
 py:Nr E C d.2.1
section
variable{ε:Fr}{γ:List Rw}{X C:Int}{Ζ:Pl}
theorem FW.aa(fw:FW ε γ X C)(dk:fS γ Ζ){i:Nat}{k:Str}{ds:List bI}(hi:γ[i]? =some (.ο k ds)):(av Ζ i (.ο k ds)).length<=6/\aO cV (av Ζ i (.ο k ds))=1/\(∀d∈av Ζ i (.ο k ds),0<=cV d)/\∃B E,0<B/\B<=1000000/\0<E/\E<=X/\∀d∈av Ζ i (.ο k ds),Xm γ.length B E C d:=by
 have rm:Rw.ο k ds∈γ:=aam hi;have dr:=eP fw.pl rm;obtain ⟨E,e0,eX,hp⟩:=fw.Tp k ds rm;cases hh:χ k with
 |true=>
  obtain ⟨j,hj,jl⟩:=dk.hand i _ hi hh;have jl:j<ds.length:=jl;have gd:ds.getD j d0=ds[j]:=by rw [aab,aaa jl];rfl
  have dm:=aay jl;have e:av Ζ i (.ο k ds)=[(ds[j].1,ds[j].2.1,[(1,1)])]:=by unfold av;rw [hj];show [((ds.getD ((j:Int)).toNat d0).1,(ds.getD ((j:Int)).toNat d0).2.1,(ds.getD ((j:Int)).toNat d0).2.2++[(1,1)])]=_;rw [abx,gd,fw.W0 k ds rm hh _ dm];rfl
  have v1:cV (ds[j].1,ds[j].2.1,[((1,1):Fr)])=1:=by show ((1:Int):Rat)/((1:Int):Rat)=1;grind
  rw [e];refine ⟨by simp,?_,λd hd=>?_,1,E,by decide,by decide,e0,eX,λd hd=>?_⟩
  ·show cV (ds[j].1,ds[j].2.1,[(1,1)])+0=1;rw [v1];grind
  ·rw [List.mem_singleton.mp hd,v1];grind
  ·rw [aba.mp hd];refine ⟨dr.to ds[j] dm,rfl,?_,hp ds[j] dm⟩;show Ch 1 ((1,1):Fr);exact ⟨by decide,⟨1,by decide⟩,⟨by decide,by decide⟩,qG (k:=2) ⟨by decide,by decide,by decide⟩ (by decide)⟩
 |false=>
  have hc:k="chance"/\HZ (ds.map υ):=by
   rcases dr.kd with z|⟨_,z⟩
   ·rw [z] at hh;cases hh
   ·exact z
  obtain ⟨rfl,co⟩:=hc;have e:av Ζ i (.ο "chance" ds)=ds:=by unfold av;rw [dk.Lj i _ hi hh];rfl
  obtain ⟨s1,s2⟩:=NI co;rw [e];refine ⟨dr.l6,s1,s2,bD (ds.map υ),E,co.b0,co.b1,e0,eX,λd hd=>?_⟩;obtain ⟨a,b,c,f⟩:=Lw co (aag.mpr ⟨d,hd,rfl⟩);exact ⟨dr.to d hd,(dr.ro.2.2.1 rfl).1 d hd,⟨a,zS b,c,f⟩,hp d hd⟩
theorem Oh{E C:Int}{p:Fr}(h:Nr E C p)(e0:0<E)(e1:E<=10^36)(c0:0<=C)(c1:C<=10^30):Nb E C p:=IG h.red h.he h.ab ⟨e0,aaB e1 (by decide),c0,aaB c1 (by decide)⟩
theorem FW.sh(fw:FW ε γ X C):0<ε.2/\ε.2<=1000/\g6 ε/\0<=val ε/\val ε<1/\1<=1000*(1-val ε):=by
 have h:=fw.pl.sh;obtain ⟨a,b,c⟩:=K3 h;unfold aM at h;rw [aao,aao,decide_eq_true_iff,decide_eq_true_iff,decide_eq_true_iff] at h;obtain ⟨h1,h2,h3⟩:=h;have ev:val ε*(ε.2:Rat)=ε.1:=by
  have:=bb (show ε.2≠0 by omega);unfold val;generalize (ε.1:Rat)=x at *
  generalize (ε.2:Rat)=y at *
  grind
 have p:(0:Rat)<(ε.2:Rat):=abo.mpr a;have q:(ε.2:Rat)<=((1000:Int):Rat):=aaY.mpr b;have r:(ε.1:Rat)+((1:Int):Rat)<=(ε.2:Rat):=by rw [<-Rat.intCast_add];exact aaY.mpr (by omega)
 have q:(ε.2:Rat)<=1000:=q;have r:(ε.1:Rat)+1<=(ε.2:Rat):=r;have lt:val ε<1:=by
  by_cases z:val ε<1
  ·exact z
  ·have:=Rat.mul_le_mul_of_nonneg_right (show 1<=val ε by grind) (Rat.le_of_lt p);grind
 refine ⟨a,b,c,sD a h1,lt,?_⟩;have:=Rat.mul_le_mul_of_nonneg_right q (show 0<=1-val ε by grind);grind
theorem FW.Hq(fw:FW ε γ X C)(dk:fS γ Ζ){i:Nat}{r:Rw}(hi:γ[i]? =some r):∃E,uM ε γ.length E (6*C) (ME Ζ i r) (Ol Ζ i r)/\6*C*E<=ie X C/\Za E (6*C)/\(∀d∈ME Ζ i r,∃c,d.2.2=[c])/\∀d∈ME Ζ i r,Sz 300 (υ d):=by
 obtain ⟨s0,s1,su,_⟩:=fw.sh;have c9:=fw.c9;have c1:=fw.c1;have x1:=fw.x1;have rm:r∈γ:=aam hi;have SM:∀E,E<=1000000000*X->6*C*E<=ie X C:=λE h=>aar h (by omega);cases r with
 |fin p=>
  obtain ⟨E,e0,eX,hp⟩:=fw.fin p rm;exact ⟨E,⟨⟨λ_ z=>(nomatch z),λ_ z=>(nomatch z),by show (0:Rat)<=1;grind⟩,λ_ z=>(nomatch z),AX hp (by omega),e0,by show 1+0<=6*C;omega⟩,SM E (by omega),⟨Int.lt_of_le_of_lt eX (by omega),by omega⟩,λ_ z=>(nomatch z),λ_ z=>(nomatch z)⟩
 |ο k ds=>
  obtain ⟨l6,one,pos,B,E,b0,b1,e0,eX,hw⟩:=fw.aa dk hi;show∃E,uM ε γ.length E (6*C) (av Ζ i (.ο k ds)) (fU (((av Ζ i (.ο k ds)).map υ).zip ((av Ζ i (.ο k ds)).map (·.2.1))))/\6*C*E<=ie X C/\Za E (6*C)/\(∀d∈av Ζ i (.ο k ds),∃c,d.2.2=[c])/\∀d∈av Ζ i (.ο k ds),Sz 300 (υ d);generalize Tj:av Ζ i (.ο k ds)=ws at *
  have be0:0<B*E:=aaE b0 e0;have be1:B*E<=1000000*X:=abr b1 eX (aaj e0) (by decide);have se0:0<ε.2*(B*E):=aaE s0 be0;have se1:ε.2*(B*E)<=1000*(1000000*X):=abr s1 be1 (aaj be0) (by decide)
  have nb:=tO (E:=E) (B:=B) (C:=C) b0 e0 (aaB be1 (by omega)) (by omega) (by omega) ((ws.map υ).zip (ws.map (·.2.1))) (0,1) 0 (by rw [abi,aac,aac];omega) (by rw [Int.natCast_zero,Int.zero_mul];exact Ux) (λp hp=>by
   obtain ⟨q1,q2⟩:=abf hp;obtain ⟨d1,m1,x1⟩:=aag.mp q1;obtain ⟨d2,m2,x2⟩:=aag.mp q2
   exact ⟨by rw [<-x1];exact (hw d1 m1).ch,by rw [<-x2];exact Oh (hw d2 m2).py e0 (by omega) (by omega) c1⟩)
  have red:Red (fU ((ws.map υ).zip (ws.map (·.2.1)))):=Ay _ _ ⟨by decide,by decide⟩ λp hp=>by obtain ⟨q1,q2⟩:=abf hp;obtain ⟨d1,m1,x1⟩:=aag.mp q1;obtain ⟨d2,m2,x2⟩:=aag.mp q2;exact ⟨by rw [<-x1];exact (hw d1 m1).ch.pos,by rw [<-x2];exact (hw d2 m2).py.red.pos⟩
  refine ⟨ε.2*(B*E),⟨⟨λd hd=>(hw d hd).to,pos,by rw [one];grind⟩,λd hd=>⟨s0,su,(hw d hd).ch.pos,(hw d hd).ch.u,?_⟩,⟨red,?_,?_⟩,se0,by omega⟩,SM _ (by omega),⟨Int.lt_of_le_of_lt se1 (by omega),by omega⟩,λd hd=>⟨_,(hw d hd).one⟩,λd hd=>(hw d hd).ch.sz⟩
  ·have:=z5 E (rX s0 (hw d hd).ch.pos (Hh ε) (hw d hd).ch.he);rwa [ab7] at this
  ·have:=z5 ε.2 nb.he;rwa [aaU] at this
  ·refine P9 red.pos nb.ab ?_;refine aaD ?_ (by omega);rw [abi,aac,aac];omega
theorem rw_at{i:Nat}(h:i<γ.length):γ[i]? =some (fH γ i):=by unfold fH;rw [aab,aaa h];rfl
abbrev xo(γ:List Rw)(Ζ:Pl)(i:Nat):List bI:=ME Ζ i (fH γ i)
abbrev xc(γ:List Rw)(Ζ:Pl)(i:Nat):Fr:=Ol Ζ i (fH γ i)
theorem FW.sys(fw:FW ε γ X C)(dk:fS γ Ζ)(b1:1<=ie X C):Sys ε γ.length (ie X C) (xo γ Ζ) (xc γ Ζ):=by obtain ⟨_,_,_,v0,v1,_⟩:=fw.sh;refine ⟨fw.n1,v0,v1,b1,λi hi=>?_⟩;obtain ⟨E,p,l,_⟩:=fw.Hq dk (rw_at hi);exact ⟨E,_,p,l⟩
structure jF(ε:Fr)(γ:List Rw)(Ζ:Pl)(tb:List Fr):Prop where
 tab:Tab ε γ.length (xo γ Ζ) (xc γ Ζ) tb
 bot:∀i,i<γ.length->(tb.getD i (0,1)).2<2^1030
end
def JR(A:Addr):DF:=λas M q _=>∃ε γ i r k Ζ X C,as=[au A ε γ,.int (i:Nat),.loc k]/\M[k]? =some (dP Ζ)/\γ[i]? =some r/\fS γ Ζ/\FW ε γ X C/\∀E',q (ck (mZ ε γ.length i (ME Ζ i r) (Ol Ζ i r))) (M++E')
theorem nA:Δ ["floor","place","doors","ways","paid"] ["floor","place","doors"] (τ Cz):= .of rfl
theorem KS{f:Addr}{fd:FuncData}(F:cJ K "row_of" "row_of" Cz f fd)(E:Ev K mg w Cm){aJ:Addr}{aL:FuncData}(Ρ:cE P w K mg base 1 Cm "kind" ["self","place"] (nu Cm) aJ aL){MY:Addr}{MQ:FuncData}(nv:aw P w K mg base 5 "led_row" ["floor","place","ways","share","given"] (UN Cm) MY MQ){pd:Addr}{oV:FuncData}(fm:cE P w K mg base 2 Cm "pay" ["self","place"] (Ra Cm) pd oV){kI:Addr}{kB:FuncData}(cw:cE P w K mg base 1 Cm "share" ["self"] (C3 Cm) kI kB){FE:Addr}{Ft:FuncData}(mj:aw P w K mg base 3 "ways_from" ["floor","place","doors"] (OI Cm) FE Ft){r6:Addr}{rF:FuncData}(gA:aw P w K mg base 4 "weighed" ["chances","numbers"] tG r6 rF):ah P w K mg base (bU P w) 6 f fd ["floor","place","doors"] (cC K (JR Cm)):=by
 refine F.df nA (λds M q x h=>?_) (λaT A outer s H E' hr=>⟨_,(η (aH (e6 hr (bO Ρ hr ξ (jv 0) (Υ (jv 1) θ)) jI) (μ (Ε (ag nv hr ξ (Υ (jv 0) (Υ (jv 1) (ι (lH θ) (ι (ik cw hr ξ (jv 0)) (ι (bO fm hr ξ (jv 0) (Υ (jv 1) θ)) θ (hs:=aQ)) (hs:=aQ)))))))) Φ)
   (η (Γ 3 nA.nd (ag mj hr ξ (Υ (jv 0) (Υ (jv 1) (Υ (jv 2) θ)))))
   (η (Γ 4 nA.nd (ag gA hr ξ (ι (fA (ys:=[]) (ae:=[]) (.of nA rfl rfl rfl) (bf (jv 3)) (λC s H fp=>(Ν (jv 0) ω))) (ι (fA (ys:=[]) (ae:=[]) (.of nA rfl rfl rfl) (bf (jv 3)) (λC s H fp=>(Ν (jv 0) ω))) θ))))
   (μ (Ε (ag nv hr ξ (Υ (jv 0) (Υ (jv 1) (Υ (jv 3) (ι (ik cw hr ξ (jv 0)) (Υ (jv 4) θ) (hs:=aQ))))))))))),λds M q x h=>?_⟩)
 ·obtain ⟨ε,γ,i,r,k,Ζ,X,C,rfl,_⟩:=h;rfl
 ·obtain ⟨ε,γ,i,r,k,Ζ,X,C,rfl,hk,hi,dk,fw,h⟩:=h;have il:=(aaf.mp hi).1;have pk:=fw.pl.len;have rm:r∈γ:=aam hi;have ro:=(fw.pl.row r rm).1;obtain ⟨Ep,p,_,sz,one,RJ⟩:=fw.Hq dk hi;have sl:∀{z:Nat},z<=1000->z<=sizeLine:=λh=>aap h (by decide);refine ⟨⟨_,_,.inl rfl,rfl⟩,ε,γ,i,r,rfl,hi,?_⟩;cases r with
  |fin pp=>
   refine ⟨λ_=>?_,λz=>(nomatch z)⟩;walk_at "vc";refine ⟨sl (by decide),?_⟩;refine ⟨⟨_,_,.inl rfl,rfl⟩,ε,γ,rfl,?_⟩;refine ⟨⟨_,_,.inl rfl,rfl⟩,ε,γ,i,.fin pp,rfl,hi,ro,?_⟩;exact ⟨ε,γ,i,[],pp,Ep,6*C,rfl,il,pk,fw.pl.sh,one,p,sz,RJ,h⟩
  |ο kd ds=>
   refine ⟨λz=>absurd (of_decide_eq_true z) ro.1,λ_=>?_⟩;obtain ⟨l6,_,_,B,E,b0,b1,e0,eX,hw⟩:=fw.aa dk hi;have c9:=fw.c9;have c1:=fw.c1;have x1:=fw.x1;have h:∀E',q (ck (mZ ε γ.length i (av Ζ i (.ο kd ds)) (fU (((av Ζ i (.ο kd ds)).map υ).zip ((av Ζ i (.ο kd ds)).map (·.2.1)))))) (M++E'):=h;have p:uM ε γ.length Ep (6*C) (av Ζ i (.ο kd ds)) (fU (((av Ζ i (.ο kd ds)).map υ).zip ((av Ζ i (.ο kd ds)).map (·.2.1)))):=p;have one:∀d∈av Ζ i (.ο kd ds),∃c,d.2.2=[c]:=one;have RJ:∀d∈av Ζ i (.ο kd ds),Sz 300 (υ d):=RJ;refine ⟨ε,γ,i, .ο kd ds,k,Ζ,rfl,hk,hi,ro,dk,?_⟩;generalize av Ζ i (.ο kd ds)=ws at *
   dsimp only [oM,e_];walk_at "vc";refine ⟨by rw [aac];exact sl (by omega),?_⟩;refine cB (F:=λx d=>x=dt d/\d∈ws) (f:=λd=>Τ (υ d)) (as:=ws) trivial (λx d hx qq hq=>?_) (gJ dt ws ws λx hx=>hx) ?_
   ·obtain ⟨rfl,hd⟩:=hx;walk_at "vc";exact Oc (hw d hd).one hq
   rw [aaF];refine ⟨by rw [aac];exact sl (by omega),?_⟩;refine cB (F:=λx d=>x=dt d/\d∈ws) (f:=λd=>Τ d.2.1) (as:=ws) trivial (λx d hx qq hq=>?_) (gJ dt ws ws λx hx=>hx) ?_
   ·obtain ⟨rfl,hd⟩:=hx;walk_at "vc";exact Iq hq
   rw [aaF];refine ⟨ws.map υ,ws.map (·.2.1),E,B,C,by rw [aau,aau];rfl,by rw [aac];exact l6,b0,e0,?_,by omega,by omega,λc hc=>?_,λc hc=>?_,?_⟩
   ·have:B*E<=1000000*X:=abr b1 eX (aaj e0) (by decide);exact aaB this (by omega)
   ·obtain ⟨d,hd,rfl⟩:=aag.mp hc;exact (hw d hd).ch
   ·obtain ⟨d,hd,rfl⟩:=aag.mp hc;exact Oh (hw d hd).py e0 (by omega) (by omega) c1
   refine ⟨⟨_,_,.inl rfl,rfl⟩,ε,γ,rfl,?_⟩;exact ⟨ε,γ,i,ws,_,Ep,6*C,rfl,il,pk,fw.pl.sh,one,p,sz,RJ,h⟩
def SF(A:Addr):DF:=λas M q _=>∃ε γ k Ζ X C,as=[au A ε γ,.loc k]/\M[k]? =some (dP Ζ)/\fS γ Ζ/\FW ε γ X C/\ie X C<=2^450/\(12*ie X C)^γ.length<2^1030/\∀tb,jF ε γ Ζ tb->q (.loc M.length) (M++[.lst (tb.map Τ)])
theorem rQ:Δ ["floor","doors"] ["floor","doors"] (τ pU):= .of rfl
theorem Aj{f:Addr}{fd:FuncData}(F:cJ K "worths_by" "worths_by" pU f fd)(E:Ev K mg w Cm){FQ:Addr}{Fi:FuncData}(mP:aw P w K mg base 4 "answer_of" ["rows"] yz FQ Fi){dQ:Addr}{dJ:FuncData}(aU:cE P w K mg base 1 Cm "size" ["self"] (Aw Cm) dQ dJ){P4:Addr}{Rb:FuncData}(xP:aw P w K mg base 6 "row_of" ["floor","place","doors"] (JR Cm) P4 Rb):ah P w K mg base (bU P w) 7 f fd ["floor","doors"] (cC K (SF Cm)):=by
 refine F.df rQ (λds M q x h=>?_) (λaT A outer s H E' hr=>⟨_,(μ (Ε (ag mP hr ξ (ι (La (ys:=["floor","doors"]) (ae:=[0,1]) (.of rQ rfl rfl rfl) (eY E.cZ (ι (ik aU hr ξ (jv 0)) θ (hs:=aQ))) (λC s H fp=>(b9 (ag xP hr (fB (P:=P) (w:=w)) (Υ (jv 1) (Υ (jv 0) (Υ (jv 2) θ))))))) θ)))),λds M q x h=>?_⟩)
 ·obtain ⟨ε,γ,k,Ζ,X,C,rfl,_⟩:=h;rfl
 ·obtain ⟨ε,γ,k,Ζ,X,C,rfl,hk,dk,fw,i_,lA,h⟩:=h;have pk:=fw.pl.len;have n1:=fw.n1;have b1:1<=ie X C:=by obtain ⟨E,p,l,_⟩:=fw.Hq dk (rw_at (show 0<γ.length by omega));have c9:=fw.c9;have:=aar (show 1<=E by have:=p.e0;omega) (show 0<=6*C by omega);omega
  have S:=fw.sys dk b1;obtain ⟨tb,z,N,sol,n0,Su,tab,bot⟩:=S.ex pk;have sl:∀{z:Nat},z<=1000->z<=sizeLine:=λh=>aap h (by decide);walk_at "vc";dsimp only [KD];walk_at "vc";refine ⟨⟨_,_,.inl rfl,rfl⟩,ε,γ,rfl,?_⟩;refine ⟨⟨by omega,by omega⟩,by rw [i6];exact sl (by omega),?_⟩;refine oN (f:=λx=>match x with|.int j=>ck ((hV ε γ.length (xo γ Ζ) (xc γ Ζ)).getD j.toNat [])|_=> .bw) _ _ (λx Xq q' hq=>?_) ?_
  ·obtain ⟨j,hj,rfl⟩:=rY Xq;have hj:j<γ.length:=by omega
   rw [Int.zero_add] at hq⊢;have hq:q' (ck ((hV ε γ.length (xo γ Ζ) (xc γ Ζ)).getD j [])) M:=hq;have e:(hV ε γ.length (xo γ Ζ) (xc γ Ζ)).getD j []=mZ ε γ.length j (xo γ Ζ j) (xc γ Ζ j):=by unfold hV;rw [aab,aal,aaH hj];rfl
   rw [e] at hq;exact ⟨ε,γ,j,fH γ j,k,Ζ,X,C,rfl,hk,rw_at hj,dk,fw,λE'=>iG (.old (ig _)) hq⟩
  have er:=Ee (hV ε γ.length (xo γ Ζ) (xc γ Ζ)) [] ck;rw [k8] at er;rw [aaF,show ((γ.length:Int)).toNat=γ.length by omega];refine (λ(key:∀l,l=(hV ε γ.length (xo γ Ζ) (xc γ Ζ)).map ck->yz [.lst l] M q _)=>key _ er) λl hl=>?_;subst hl;have ln:∀r∈hV ε γ.length (xo γ Ζ) (xc γ Ζ),r.length=γ.length+1:=λr fW=>by unfold hV at fW;obtain ⟨i,hi,rfl⟩:=aag.mp fW;obtain ⟨E,p,_⟩:=fw.Hq dk (rw_at (aaT.mp hi));exact (CI (aaT.mp hi) p).1
  have bd:=S.bd;refine ⟨hV ε γ.length (xo γ Ζ) (xc γ Ζ),γ.length,ie X C,tb,z,N,rfl,⟨by rw [k8];exact n1,by rw [k8];exact pk,pk,ln,by rw [k8];exact bd,i_⟩,n1,tab.len,by rw [k8];exact sol,n0,λi hi=>⟨(tab.red i hi).pos,(tab.red i hi).low,Su i hi⟩,by rw [k8];exact S.Z0,?_⟩;exact h tb ⟨tab,λi hi=>aaB (bot i hi) lA⟩
theorem Jz(x:Nat->Rat):∀n,∃i,i<n+1/\∀j,j<n+1->x i<=x j
 |0=>⟨0,by omega,λj hj=>by rw [show j=0 by omega];grind⟩
 |n+1=>by
  obtain ⟨i,hi,h⟩:=Jz x n;by_cases c:x (n+1)<=x i
  ·refine ⟨n+1,by omega,λj hj=>?_⟩;by_cases e:j=n+1
   ·rw [e];grind
   ·have:=h j (by omega);grind
  ·refine ⟨i,by omega,λj hj=>?_⟩;by_cases e:j=n+1
   ·rw [e];grind
   ·exact h j (by omega)
theorem xN{n:Nat}{y:Nat->Rat}{m:Rat}(hm:∀j,j<n->m<=y j):∀{aa:List bI},(∀d∈aa,0<=d.1/\d.1<n)->(∀d∈aa,0<=cV d)->aO cV aa*m<=aO (λd=>cV d*y d.1.toNat) aa
 |[],_,_=>by show (0:Rat)*m<=0;grind
 |d::aa,h1,h2=>by have i:=xN hm (λx hx=>h1 x (aad _ hx)) (λx hx=>h2 x (aad _ hx));have t:=h1 d aae;have:=aaL (hm d.1.toNat (by omega)) (h2 d aae);show (cV d+aO cV aa)*m<=cV d*y d.1.toNat+aO (λd=>cV d*y d.1.toNat) aa;grind
theorem Pf{n:Nat}{s:Rat}{ws:Nat->List bI}{δ r:Nat->Rat}(s0:0<=s)(s1:s<1)(wo:∀i,i<n->Dc n (ws i))(h:∀i,i<n->δ i=r i+s*aO (λd=>cV d*δ d.1.toNat) (ws i))(r0:∀i,i<n->0<=r i):∀i,i<n->r i<=δ i:=λi hi=>by
 obtain ⟨k,rfl⟩:∃k,n=k+1:=⟨n-1,by omega⟩;obtain ⟨t,ht,SV⟩:=Jz δ k;have nn:0<=δ t:=by
  by_cases c:0<=δ t
  ·exact c
  ·have g:=xN SV (wo t ht).to (wo t ht).c0;have o:=Rat.mul_le_mul_of_nonneg_right (wo t ht).one (show 0<= -δ t by grind);have g2:δ t<=aO (λd=>cV d*δ d.1.toNat) (ws t):=by grind
   have g3:=aaL g2 s0;have e:=h t ht;have r:=r0 t ht;have:=Rat.mul_pos (show 0<1-s by grind) (show 0< -δ t by grind);grind
 have g:=xN (y:=δ) (m:=0) (λj hj=>by have:=SV j hj;grind) (wo i hi).to (wo i hi).c0;have:=Rat.mul_nonneg s0 (show 0<=aO (λd=>cV d*δ d.1.toNat) (ws i) by grind);have e:=h i hi;grind
theorem vd(c:Rat)(f:bI->Rat):∀ds:List bI,aO (λd=>c*f d) ds=c*aO f ds
 |[]=>by show (0:Rat)=c*0;grind
 |d::ds=>by show c*f d+aO (λd=>c*f d) ds=c*(f d+aO f ds);rw [vd c f ds];grind
section
variable{ε:Fr}{n:Nat}{B:Int}{ws:Nat->List bI}{gv:Nat->Fr}{tb:List Fr}
def jT(ε:Fr)(ws:Nat->List bI)(gv:Nat->Fr)(x:Nat->Rat)(i:Nat):Rat:=val (gv i)+val ε*aO (λd=>cV d*x d.1.toNat) (ws i)
theorem Tab.cmp(S:Sys ε n B ws gv)(h:Tab ε n ws gv tb){x:Nat->Rat}{sg:Rat}(hr:∀i,i<n->0<=sg*(jT ε ws gv x i-x i)):∀i,i<n->sg*(jT ε ws gv x i-x i)<=sg*(val (tb.getD i (0,1))-x i):=by
 refine Pf (δ:=λi=>sg*(val (tb.getD i (0,1))-x i)) (r:=λi=>sg*(jT ε ws gv x i-x i)) S.s0 S.s1 (ws:=ws) (λi hi=>?_) (λi hi=>?_) hr
 ·obtain ⟨E,C,p,_⟩:=S.Hq i hi;exact p.wo
 ·have e:=h.eq i hi;have l:aO (λd=>cV d*(sg*(val (tb.getD d.1.toNat (0,1))-x d.1.toNat))) (ws i)=sg*(aO (λd=>cV d*val (tb.getD d.1.toNat (0,1))) (ws i)-aO (λd=>cV d*x d.1.toNat) (ws i)):=by rw [<-sx,<-vd];exact ma λd _=>by grind
  show sg*(val (tb.getD i (0,1))-x i)=sg*(jT ε ws gv x i-x i)+val ε*aO (λd=>cV d*(sg*(val (tb.getD d.1.toNat (0,1))-x d.1.toNat))) (ws i);rw [l,e];unfold jT;grind
end
def ak:List (Int×Nat)->Pl->Prop
 |[],[]=>True
 |(k,c)::r,(k',v)::p=>k=k'/\0<=v/\v<c/\ak r p
 |_,_=>False
def n8:List (Int×Nat)->List Pl
 |[]=>[[]]
 |(k,c)::r=>(List.range c).flatMap λj:Nat=>(n8 r).map λp=>(k,(j:Int))::p
theorem sJ:∀{kc:List (Int×Nat)}{p:Pl},ak kc p->p∈n8 kc
 |[],[],_=>aba.mpr rfl
 |(k,c)::r,(k',v)::p,h=>by obtain ⟨rfl,v0,v1,h⟩:=h;refine List.mem_flatMap.mpr ⟨v.toNat,aaT.mpr (by omega),aag.mpr ⟨p,sJ h,?_⟩⟩;rw [abZ v0]
 |[],_::_,h=>h.elim
 |_::_,[],h=>h.elim
theorem bG:∀{kc:List (Int×Nat)}{p:Pl},ak kc p->p.map (·.1)=kc.map (·.1)
 |[],[],_=>rfl
 |(k,c)::r,(k',v)::p,h=>by obtain ⟨rfl,_,_,h⟩:=h;rw [aaA,aaA,bG h]
 |[],_::_,h=>h.elim
 |_::_,[],h=>h.elim
theorem A3:∀{kc:List (Int×Nat)}{p:Pl}{i v:Int},ak kc p->Μ p i=some v->∃c,(i,c)∈kc/\0<=v/\v<(c:Int)
 |[],[],_,_,_,h=>by cases h
 |(k,c)::r,(k',v')::p,i,v,h,g=>by
  obtain ⟨rfl,v0,v1,h⟩:=h;unfold Μ at g;split at g
  ·rename_i e;have e:k=i:=e;cases g;exact ⟨c,by rw [<-e];exact aae,v0,v1⟩
  ·obtain ⟨c',m,a⟩:=A3 h g;exact ⟨c',aad _ m,a⟩
 |[],_::_,_,_,h,_=>h.elim
 |_::_,[],_,_,h,_=>h.elim
theorem yQ:∀{kc:List (Int×Nat)}{p:Pl}{i v:Int},ak kc p->(∀c,(i,c)∈kc->0<=v/\v<(c:Int))->ak kc (p.map λq=>if q.1=i then (q.1,v) else q)
 |[],[],_,_,_,_=>trivial
 |(k,c)::r,(k',v')::p,i,v,h,g=>by
  obtain ⟨rfl,v0,v1,h⟩:=h;have ih:=yQ h λc hc=>g c (aad _ hc);show ak ((k,c)::r) ((if k=i then (k,v) else (k,v'))::p.map λq=>if q.1=i then (q.1,v) else q);by_cases e:k=i
  ·rw [if_pos e];have:=g c (by rw [<-e];exact aae);exact ⟨rfl,this.1,this.2,ih⟩
  ·rw [if_neg e];exact ⟨rfl,v0,v1,ih⟩
 |[],_::_,_,_,h,_=>h.elim
 |_::_,[],_,_,h,_=>h.elim
theorem oq{i:Int}:∀{p:Pl},i∈p.map (·.1)->(Μ p i).isSome=true
 |q::p,h=>by
  unfold Μ;split
  ·rfl
  ·rcases aaC.mp h with e|e
   ·rename_i ne;exact absurd e.symm ne
   ·exact oq e
theorem HH{kc:List (Int×Nat)}{p:Pl}{i v:Int}(h:ak kc p)(hk:i∈kc.map (·.1))(g:∀c,(i,c)∈kc->0<=v/\v<(c:Int)):ak kc (iI p i v):=by unfold iI;rw [if_pos (oq (by rw [bG h];exact hk))];exact yQ h g
theorem BL{α:Type}{P Q:α->Bool}:∀{l:List α},(∀a∈l,P a=true->Q a=true)->∀{b:α},b∈l->Q b=true->P b=false->l.countP P<l.countP Q
 |a::l,h,b,hb,hq,hp=>by
  have le:l.countP P<=l.countP Q:=List.countP_mono_left λx hx=>h x (aad _ hx);rw [List.countP_cons,List.countP_cons];rcases aaC.mp hb with e|e
  ·subst e;rw [hq,hp];show l.countP P+0<l.countP Q+1;omega
  ·have:=BL (λx hx=>h x (aad _ hx)) e hq hp;have ha:=h a aae;cases hP:P a with
   |false=>rw [if_neg (by decide)];split <;> omega
   |true=>rw [ha hP,if_pos rfl];omega
noncomputable def W4(ε:Fr)(γ:List Rw)(Ζ:Pl)(i:Nat):Rat:=open Classical in if h:∃tb,jF ε γ Ζ tb then val (h.choose.getD i (0,1)) else 0
noncomputable def Cv(ε:Fr)(γ:List Rw)(sg:Rat)(Ζ:Pl):Rat:=c_ (λi=>sg*W4 ε γ Ζ i) γ.length
theorem xH{ε:Fr}{γ:List Rw}{Ζ:Pl}{X C:Int}{tb:List Fr}(fw:FW ε γ X C)(dk:fS γ Ζ)(b1:1<=ie X C)(h:jF ε γ Ζ tb)(i:Nat):W4 ε γ Ζ i=val (tb.getD i (0,1)):=by have ex:∃tb,jF ε γ Ζ tb:=⟨tb,h⟩;unfold W4;rw [dif_pos ex,(fw.sys dk b1).uniq ex.choose_spec.tab h.tab]
theorem wV{f g:Nat->Rat}:∀{n:Nat},(∀i,i<n->f i<=g i)->∀{k:Nat},k<n->f k<g k->c_ f n<c_ g n
 |n+1,h,k,hk,hl=>by
  have le:∀{m:Nat},(∀i,i<m->f i<=g i)->c_ f m<=c_ g m:=λ{m}=>by
   induction m with
   |zero=>intro _;show (0:Rat)<=0;grind
   |succ m ih=>
    intro h;have:=ih λi hi=>h i (abI hi);have:=h m (abc _);show c_ f m+f m<=c_ g m+g m;grind
  show c_ f n+f n<c_ g n+g n;by_cases e:k=n
  ·subst e;have:=le λi hi=>h i (abI hi);grind
  ·have:=wV (λi hi=>h i (abI hi)) (show k<n by omega) hl;have:=h n (abc _);grind
noncomputable def above(ε:Fr)(γ:List Rw)(sg:Rat)(mk:Pl->Pl)(kc:List (Int×Nat))(p:Pl):Nat:=open Classical in (n8 kc).countP λq=>decide (Cv ε γ sg (mk p)<Cv ε γ sg (mk q))
theorem Kh{ε:Fr}{γ:List Rw}{sg:Rat}{mk:Pl->Pl}{kc:List (Int×Nat)}{p q:Pl}(hq:ak kc q)(lt:Cv ε γ sg (mk p)<Cv ε γ sg (mk q)):above ε γ sg mk kc q<above ε γ sg mk kc p:=by unfold above;refine BL (λa _ ha=>?_) (sJ hq) (decide_eq_true lt) (decide_eq_false (by grind));have:=of_decide_eq_true ha;exact decide_eq_true (by grind)
def fe(ns:List Fr):Fr:=ns.foldl (λf n=>if br f n then n else f) (ns.headD (0,1))
def fk(ns:List Fr):Fr:=ns.foldl (λf n=>if br n f then n else f) (ns.headD (0,1))
def B8:DF:=λas M q _=>∃p r k l,as=[Τ p,Τ r]/\Sz k p/\Sz l r/\k+l+1<=8000/\q (.bl (br p r)) M
theorem M7:Δ ["one","other"] ["one","other"] (τ Be):= .of rfl
theorem J1{f:Addr}{fd:FuncData}(F:cJ K "under" "under" Be f fd)(E:Ev K mg w Cm):ah P w K mg base (bU P w) 1 f fd ["one","other"] (cC K B8):=by
 refine F.df M7 (λds M q x h=>?_) (λaT A outer s H E' hr=>⟨_,(μ (Ε (Ni (aR (Ν (jv 0) ω) (Ν (jv 1) ω)) (aR (Ν (jv 1) ω) (Ν (jv 0) ω))))),λds M q x h=>?_⟩)
 ·obtain ⟨p,r,k,l,rfl,_⟩:=h;rfl
 ·obtain ⟨p,r,k,l,rfl,hp,fW,hk,h⟩:=h;exact ⟨⟨gf hp (by omega),cU fW (by omega)⟩,⟨gf fW (by omega),cU hp (by omega)⟩,h⟩
def yB(f:List Fr->Fr):DF:=λas M q _=>∃ns:List Fr,as=[.lst (ns.map Τ)]/\ns≠[]/\(∀n∈ns,Sz 1300 n)/\q (Τ (f ns)) M
theorem jg:Δ ["numbers","found","number"] ["numbers"] (τ pL):= .of rfl
theorem zU{f:Addr}{fd:FuncData}(F:cJ K "greatest" "greatest" pL f fd)(E:Ev K mg w Cm){BQ:Addr}{CC:FuncData}(k7:aw P w K mg base 1 "under" ["one","other"] B8 BQ CC):ah P w K mg base (bU P w) 2 f fd ["numbers"] (cC K (yB fe)):=by
 refine F.df jg (λds M q x h=>?_) (λaT A outer s H E' hr=>⟨_,(η (Γ 1 jg.nd (Ν (jv 0) ω))
   (η (dF (bf (jv 0)) (aD (i:=2) jg.nd rfl (Or.inl rfl)) ba (μ (aH (cq (ag k7 hr ξ (Υ (jv 1) (Υ (jv 2) θ)))) (μ (Γ 1 jg.nd (jv 2))) Φ)))
   (μ (Ε (jv 1))))),λds M q x h=>?_⟩)
 ·obtain ⟨ns,rfl,_⟩:=h;rfl
 ·obtain ⟨ns,rfl,h0,hn,h⟩:=h;obtain ⟨n0,ns',rfl⟩:=aa7 h0;walk_at "vc";refine Ι (d:= .lst ((n0::ns').map Τ)) rfl bq ?_;refine d_ (i:=0) (d:= .lst ((n0::ns').map Τ)) rfl rfl ?_;refine cc (λxs ρ M'=>M'=M/\∃(rest:List Fr) (f:Fr) (a:Option Dt),xs=rest.map Τ/\(∀p∈rest,Sz 1300 p)/\Sz 1300 f/\rest.foldl (λf n=>if br f n then n else f) f=fe (n0::ns')/\ρ=[some (.lst ((n0::ns').map Τ)),some (Τ f),a]) (λxs ρ M' hj=>trivial) (λx xs ρ M' hj ir=>?_) (λρ M' hj=>?_) _ _ _ ⟨rfl,n0::ns',n0,none,rfl,hn,hn n0 aae,rfl,rfl⟩
  ·obtain ⟨rfl,rest,f,a,ex,yM,hw,hf,rfl⟩:=hj;cases rest with
   |nil=>cases ex
   |cons p rest=>
    cases ex;have hp:=yM p aae;rw [aaW] at hf;refine ⟨f,p,1300,1300,rfl,hw,hp,by decide,λz=>?_,λz=>?_⟩
    ·rw [z,if_pos rfl] at hf;exact ir _ _ ⟨rfl,rest,p,_,rfl,λp hp=>yM p (aad _ hp),hp,hf,rfl⟩
    ·rw [z,if_neg (by decide)] at hf;exact ir _ _ ⟨rfl,rest,f,_,rfl,λp hp=>yM p (aad _ hp),hw,hf,rfl⟩
  ·obtain ⟨rfl,rest,f,a,ex,yM,hw,hf,rfl⟩:=hj;cases rest with
   |nil=>rw [<-hf] at h;exact h
   |cons p rest=>cases ex
theorem qE:Δ ["numbers","found","number"] ["numbers"] (τ CK):= .of rfl
theorem KN{f:Addr}{fd:FuncData}(F:cJ K "least" "least" CK f fd)(E:Ev K mg w Cm){BQ:Addr}{CC:FuncData}(k7:aw P w K mg base 1 "under" ["one","other"] B8 BQ CC):ah P w K mg base (bU P w) 2 f fd ["numbers"] (cC K (yB fk)):=by
 refine F.df qE (λds M q x h=>?_) (λaT A outer s H E' hr=>⟨_,(η (Γ 1 qE.nd (Ν (jv 0) ω))
   (η (dF (bf (jv 0)) (aD (i:=2) qE.nd rfl (Or.inl rfl)) ba (μ (aH (cq (ag k7 hr ξ (Υ (jv 2) (Υ (jv 1) θ)))) (μ (Γ 1 qE.nd (jv 2))) Φ)))
   (μ (Ε (jv 1))))),λds M q x h=>?_⟩)
 ·obtain ⟨ns,rfl,_⟩:=h;rfl
 ·obtain ⟨ns,rfl,h0,hn,h⟩:=h;obtain ⟨n0,ns',rfl⟩:=aa7 h0;walk_at "vc";refine Ι (d:= .lst ((n0::ns').map Τ)) rfl bq ?_;refine d_ (i:=0) (d:= .lst ((n0::ns').map Τ)) rfl rfl ?_;refine cc (λxs ρ M'=>M'=M/\∃(rest:List Fr) (f:Fr) (a:Option Dt),xs=rest.map Τ/\(∀p∈rest,Sz 1300 p)/\Sz 1300 f/\rest.foldl (λf n=>if br n f then n else f) f=fk (n0::ns')/\ρ=[some (.lst ((n0::ns').map Τ)),some (Τ f),a]) (λxs ρ M' hj=>trivial) (λx xs ρ M' hj ir=>?_) (λρ M' hj=>?_) _ _ _ ⟨rfl,n0::ns',n0,none,rfl,hn,hn n0 aae,rfl,rfl⟩
  ·obtain ⟨rfl,rest,f,a,ex,yM,hw,hf,rfl⟩:=hj;cases rest with
   |nil=>cases ex
   |cons p rest=>
    cases ex;have hp:=yM p aae;rw [aaW] at hf;refine ⟨p,f,1300,1300,rfl,hp,hw,by decide,λz=>?_,λz=>?_⟩
    ·rw [z,if_pos rfl] at hf;exact ir _ _ ⟨rfl,rest,p,_,rfl,λp hp=>yM p (aad _ hp),hp,hf,rfl⟩
    ·rw [z,if_neg (by decide)] at hf;exact ir _ _ ⟨rfl,rest,f,_,rfl,λp hp=>yM p (aad _ hp),hw,hf,rfl⟩
  ·obtain ⟨rfl,rest,f,a,ex,yM,hw,hf,rfl⟩:=hj;cases rest with
   |nil=>rw [<-hf] at h;exact h
   |cons p rest=>cases ex
structure KJ(ε:Fr)(γ:List Rw)(tb:List Fr):Prop where
 sh:aM ε=true
 len:γ.length<=12
 row:∀r∈γ,eJ r/\dD r γ.length=true
 tl:tb.length=γ.length
 ts:∀t∈tb,Sz 1150 t
def eh(ε:Fr)(tb:List Fr):Rw->Fr
 |.fin p=>p
 |.ο k ds=>if k="one" then fe (ds.map (Ξ ε tb)) else fk (ds.map (Ξ ε tb))
def bZ(ε:Fr)(tb:List Fr):Rw->List Nat
 |.fin _=>[]
 |.ο k ds=>if χ k then (List.range ds.length).filter λj=>decide (Ξ ε tb (ds.getD j d0)=eh ε tb (.ο k ds)) else []
theorem yN{ε:Fr}{γ:List Rw}{tb:List Fr}{k:Str}{ds:List bI}(f:KJ ε γ tb)(h:Rw.ο k ds∈γ):Λ ds γ.length=true/\(χ k=true\/k="chance"):=by
 have h2:=(f.row _ h).2;have h2:(if χ k then Λ ds γ.length else if k="chance" then Λ ds γ.length&&Ω (ds.map υ) else false)=true:=h2;by_cases hk:χ k=true
 ·rw [if_pos hk] at h2;exact ⟨h2,.inl hk⟩
 ·rw [if_neg hk] at h2;by_cases hc:k="chance"
  ·rw [if_pos hc,aao] at h2;exact ⟨h2.1,.inr hc⟩
  ·rw [if_neg hc] at h2;cases h2
theorem Ew{ε:Fr}{γ:List Rw}{tb:List Fr}{k:Str}{ds:List bI}{d:bI}(f:KJ ε γ tb)(h:Rw.ο k ds∈γ)(hd:d∈ds):0<=d.1/\d.1<γ.length/\Sz 101 d.2.1:=by have h2:=(yN f h).1;unfold Λ at h2;rw [aao,aao] at h2;have h3:=abl.mp h2.2 d hd;unfold aF at h3;rw [aao,aao,decide_eq_true_iff,decide_eq_true_iff] at h3;exact ⟨h3.1,h3.2.1,P8 h3.2.2 ((f.row _ h).1.2.2.2 d hd).2⟩
theorem HQ{ε:Fr}{γ:List Rw}{tb:List Fr}{k:Str}{ds:List bI}(f:KJ ε γ tb)(h:Rw.ο k ds∈γ):1<=ds.length/\ds.length<=6:=by have h2:=(yN f h).1;unfold Λ at h2;rw [aao,aao,decide_eq_true_iff,decide_eq_true_iff] at h2;exact h2.1
theorem DO{ε:Fr}{γ:List Rw}{tb:List Fr}{t:Int}(f:KJ ε γ tb)(h0:0<=t)(h1:t<γ.length):oJ (tb.map Τ) t=some (Τ (jQ tb t))/\Sz 1150 (jQ tb t):=by
 have hl:t.toNat<tb.length:=by rw [f.tl];omega
 have e:jQ tb t=tb[t.toNat]:=by unfold jQ;rw [List.getD_eq_getElem?_getD,List.getElem?_eq_getElem hl];rfl
 refine ⟨?_,by rw [e];exact f.ts _ (aay hl)⟩;have e2:(tb.map Τ)[t.toNat]? =some (Τ (jQ tb t)):=by rw [aal,aaa hl,e];rfl
 have:=Θ e2;rwa [show ((t.toNat:Nat):Int)=t by omega] at this
theorem JX{ε:Fr}{γ:List Rw}{tb:List Fr}{k:Str}{ds:List bI}{d:bI}(f:KJ ε γ tb)(h:Rw.ο k ds∈γ)(hd:d∈ds):Sz 1300 (Ξ ε tb d):=by obtain ⟨a,b,c⟩:=Ew f h hd;exact qG (LW c (Af (nY f.sh) (DO f a b).2)) (by decide)
theorem Sf(p q:Fr):nR [.int p.1,.int p.2] [.int q.1,.int q.2]=decide (p=q):=by
 obtain ⟨a,b⟩:=p;obtain ⟨c,d⟩:=q;show ((a==c)&&((b==d)&&true))=_;rw [Bool.and_true];by_cases h1:a=c
 ·by_cases h2:b=d
  ·subst h1 h2;simp
  ·have:¬((a,b)=(c,d)):=λz=>h2 (Prod.mk.inj z).2;rw [decide_eq_false this];simp [h2]
 ·have:¬((a,b)=(c,d)):=λz=>h1 (Prod.mk.inj z).1;rw [decide_eq_false this];simp [h1]
theorem R0{p r:Fr}{M:Ms}{k:Bool->Ms->Prop}(h:k (decide (p=r)) M):Bx (Τ p) (Τ r) M (λd M1=>match d with|.bl b=>k b M1|_=>False):=by show k (nR [.int p.1,.int p.2] [.int r.1,.int r.2]) M;rw [Sf];exact h
theorem qk(p:Fr->Bool):∀(xs:List Fr) (n:Nat),((iT n (xs.map Τ)).filter (λx=>match x with|.tup [_,.tup [.int a,.int b]]=>p (a,b)|_=>false)).map (λx=>match x with|.tup [i,_]=>i|_=> .bw)=((List.range xs.length).filter λj=>p (xs.getD j (0,1))).map λj:Nat=>Dt.int ((n+j:Nat):Int)
 |[],n=>rfl
 |x::xs,n=>by
  have ih:=qk p xs (n+1);rw [aax,abA,aaA];show (List.filter _ (.tup [.int n,Τ x]::iT (n+1) (xs.map Τ))).map _=_;have e1:((List.map Nat.succ (List.range xs.length)).filter λj=>p ((x::xs).getD j (0,1)))=((List.range xs.length).filter λj=>p (xs.getD j (0,1))).map Nat.succ:=by rw [List.filter_map];rfl
  by_cases hp:p x=true
  ·have h1:(match Dt.tup [.int n,Τ x] with|.tup [_,.tup [.int a,.int b]]=>p (a,b)|_=>false)=true:=hp;rw [List.filter_cons_of_pos (by exact h1),List.filter_cons_of_pos (by exact hp),aaA,aaA,ih,e1,aau]
   congr 1
   apply aaO;intro j _;show Dt.int _=Dt.int _
   congr 2;omega
  ·have h1:¬(match Dt.tup [.int n,Τ x] with|.tup [_,.tup [.int a,.int b]]=>p (a,b)|_=>false)=true:=hp;rw [List.filter_cons_of_neg (by exact h1),List.filter_cons_of_neg (by exact hp),ih,e1,aau];apply aaO;intro j _;show Dt.int _=Dt.int _
   congr 2;omega
def Hz(C:Addr):DF:=λas M q _=>∃ε γ tb i j k ds d,as=[au C ε γ,.int (i:Nat),.int (j:Nat),.lst (tb.map Τ)]/\γ[i]? =some (.ο k ds)/\ds[j]? =some d/\KJ ε γ tb/\q (Τ (Ξ ε tb d)) M
theorem ng:Δ ["self","place","door","table","taken"] ["self","place","door","table"] (τ kg):= .of rfl
theorem uy{f:Addr}{fd:FuncData}(F:cJ K "shown" "Floor.shown" kg f fd)(E:Ev K mg w Cm){IS:Addr}{KO:FuncData}(pw:aw P w K mg base 3 "plus" ["one","other"] JQ IS KO){r8:Addr}{sE:FuncData}(gm:aw P w K mg base 3 "times" ["one","other"] xD r8 sE):ah P w K mg base (bU P w) 4 f fd ["self","place","door","table"] (cC K (Hz Cm)):=by
 refine F.df ng (λds M q x h=>?_) (λaT A outer s H E' hr=>⟨_,(η (Γ 4 ng.nd (Ν (Ν (Ν (p9 E.cR E.bJ (jv 0)) (jv 1)) ω) (jv 2)))
   (μ (Ε (ag pw hr ξ (ι (Ν (jv 4) ω) (ι (ag gm hr ξ (ι (p9 E.cR E.fv (jv 0)) (ι (Ν (jv 3) (Ν (jv 4) ω)) θ (hs:=aV)))) θ (hs:=aQ)) (hs:=aV)))))),λds M q x h=>?_⟩)
 ·obtain ⟨ε,γ,tb,i,j,k,ds,d,rfl,_⟩:=h;rfl
 ·obtain ⟨ε,γ,tb,i,j,k,ds,d,rfl,hi,hj,f,h⟩:=h;have hm:Rw.ο k ds∈γ:=aam hi;have hd:d∈ds:=aam hj;obtain ⟨a,b,c⟩:=Ew f hm hd;obtain ⟨t1,t2⟩:=DO f a b;have hdj:(ds.map dt)[j]? =some (dt d):=by rw [aal,hj];rfl
  refine ⟨_,_,_,.inl rfl,rfl,?_⟩;walk_at "vc";refine Ι (xs:=γ.map aS) rfl (Θ (qK hi)) (SN (Ι (d:= .lst (ds.map dt)) rfl (Θ hdj) ?_));refine Iq ⟨_,_,_,.inl rfl,rfl,D1 (Ι (d:= .lst (tb.map Τ)) rfl t1 ⟨ε,jQ tb d.1,11,1150,rfl,nY f.sh,t2,by decide,d.2.1,_,101,1161,rfl,c,Af (nY f.sh) t2,by decide,h⟩)⟩
def oY(C:Addr):DF:=λas M q _=>∃ε γ tb i k ds,as=[au C ε γ,.int (i:Nat),.lst (tb.map Τ)]/\γ[i]? =some (.ο k ds)/\KJ ε γ tb/\q (.lst (ds.map λd=>Τ (Ξ ε tb d))) M
theorem jM:Δ ["self","place","table"] ["self","place","table"] (τ g_):= .of rfl
theorem pX{f:Addr}{fd:FuncData}(F:cJ K "all_shown" "Floor.all_shown" g_ f fd)(E:Ev K mg w Cm){cM:Addr}{cQ:FuncData}(aI:cE P w K mg base 2 Cm "doors" ["self","place"] (tm Cm) cM cQ){zB:Addr}{zP:FuncData}(jk:cE P w K mg base 4 Cm "shown" ["self","place","door","table"] (Hz Cm) zB zP):ah P w K mg base (bU P w) 5 f fd ["self","place","table"] (cC K (oY Cm)):=by
 refine F.df jM (λds M q x h=>?_) (λaT A outer s H E' hr=>⟨_,(μ (Ε (La (ys:=["place","table","self"]) (ae:=[1,2,0]) (.of jM rfl rfl rfl) (eY E.cZ (ι (c8 E.bX (ι (b9 (bO aI hr ξ (jv 0) (Υ (jv 1) θ))) θ (hs:=aQ))) θ (hs:=aQ))) (λC s H fp=>(bO jk hr (fB (P:=P) (w:=w)) (jv 3) (Υ (jv 1) (Υ (jv 0) (Υ (jv 2) θ)))))))),λds M q x h=>?_⟩)
 ·obtain ⟨ε,γ,tb,i,k,ds,rfl,_⟩:=h;rfl
 ·obtain ⟨ε,γ,tb,i,k,ds,rfl,hi,f,h⟩:=h;have hm:Rw.ο k ds∈γ:=aam hi;have ro:=(f.row _ hm).1;have l6:=HQ f hm;refine ⟨⟨_,_,.inl rfl,rfl⟩,ε,γ,i, .ο k ds,rfl,hi,ro,da (ds:=ds.map dt) (fY ds) ?_⟩;walk_at "vc";refine aE (d:= .lst (ds.map dt)) (xs:=ds.map dt) rfl ?_;rw [aac];refine ⟨⟨by omega,by omega⟩,by rw [i6];exact aap (show _<=6 by omega) (by decide),?_⟩;refine oN (f:=λx=>match x with|.int j=>Τ (Ξ ε tb (ds.getD j.toNat d0))|_=> .bw) _ _ (λx Xq q' hq=>?_) ?_
  ·obtain ⟨j,hj,rfl⟩:=rY Xq;have hj:j<ds.length:=by omega
   have e:ds.getD (0+(j:Int)).toNat d0=ds[j]:=by rw [show (0+(j:Int)).toNat=j by omega,aab,aaa hj];rfl
   have hq:q' (Τ (Ξ ε tb (ds.getD (0+(j:Int)).toNat d0))) M:=hq;rw [e] at hq;refine ⟨⟨_,_,.inl rfl,rfl⟩,ε,γ,tb,i,j,k,ds,ds[j],by rw [Int.zero_add],hi,aaa hj,f,hq⟩
  ·rw [aaF,show ((ds.length:Int)).toNat=ds.length by omega];exact (λ(key:∀l,l=ds.map (λd=>Τ (Ξ ε tb d))->q (.lst l) M)=>key _ (Ee ds d0 (λd=>Τ (Ξ ε tb d)))) λl hl=>by rw [hl];exact h
def Oy(C:Addr):DF:=λas M q _=>∃ε γ tb i r,as=[au C ε γ,.int (i:Nat),.lst (tb.map Τ)]/\γ[i]? =some r/\χ (kindOf r)=true/\KJ ε γ tb/\q (Τ (eh ε tb r)) M
theorem j_:Δ ["self","place","table","kind"] ["self","place","table"] (τ mL):= .of rfl
theorem xb{f:Addr}{fd:FuncData}(F:cJ K "look" "Floor.look" mL f fd)(E:Ev K mg w Cm){aJ:Addr}{aL:FuncData}(Ρ:cE P w K mg base 1 Cm "kind" ["self","place"] (nu Cm) aJ aL){pd:Addr}{oV:FuncData}(fm:cE P w K mg base 2 Cm "pay" ["self","place"] (Ra Cm) pd oV){r6:Addr}{rF:FuncData}(gA:aw P w K mg base 4 "weighed" ["chances","numbers"] tG r6 rF){gG:Addr}{gT:FuncData}(aW:cE P w K mg base 5 Cm "all_shown" ["self","place","table"] (oY Cm) gG gT){cM:Addr}{cQ:FuncData}(aI:cE P w K mg base 2 Cm "doors" ["self","place"] (tm Cm) cM cQ){Fg:Addr}{Gx:FuncData}(mn:aw P w K mg base 2 "greatest" ["numbers"] (yB fe) Fg Gx){Pd:Addr}{Pr:FuncData}(yG:aw P w K mg base 2 "least" ["numbers"] (yB fk) Pd Pr):ah P w K mg base (bU P w) 6 f fd ["self","place","table"] (cC K (Oy Cm)):=by
 refine F.df j_ (λds M q x h=>?_) (λaT A outer s H E' hr=>⟨_,(η (Γ 3 j_.nd (bO Ρ hr ξ (jv 0) (Υ (jv 1) θ)))
   (η (aH (e6 hr (jv 3) jI) (μ (Ε (bO fm hr ξ (jv 0) (Υ (jv 1) θ)))) Φ)
   (η (aH (e6 hr (jv 3) jI) (μ (Ε (ag gA hr ξ (ι (fA (ys:=[]) (ae:=[]) (.of j_ rfl rfl rfl) (bf (b9 (bO aI hr ξ (jv 0) (Υ (jv 1) θ)))) (λC s H fp=>(Ν (jv 0) ω))) (ι (bO aW hr ξ (jv 0) (Υ (jv 1) (Υ (jv 2) θ))) θ (hs:=aQ)))))) Φ)
   (η (aH (e6 hr (jv 3) jI) (μ (Ε (ag mn hr ξ (ι (bO aW hr ξ (jv 0) (Υ (jv 1) (Υ (jv 2) θ))) θ (hs:=aQ))))) Φ)
   (μ (Ε (ag yG hr ξ (ι (bO aW hr ξ (jv 0) (Υ (jv 1) (Υ (jv 2) θ))) θ (hs:=aQ))))))))),λds M q x h=>?_⟩)
 ·obtain ⟨ε,γ,tb,i,r,rfl,_⟩:=h;rfl
 ·obtain ⟨ε,γ,tb,i,r,rfl,hi,hand,f,h⟩:=h;have hm:r∈γ:=aam hi;have ro:=(f.row _ hm).1;refine ⟨⟨_,_,.inl rfl,rfl⟩,ε,γ,i,r,rfl,hi,?_⟩;cases r with
  |fin p=>exact ⟨λ_=>⟨⟨_,_,.inl rfl,rfl⟩,ε,γ,i,.fin p,rfl,hi,ro,h⟩,λz=>(nomatch z)⟩
  |ο k ds=>
   have l6:=HQ f hm;have eS:ds.map (λd=>Τ (Ξ ε tb d))=(ds.map (Ξ ε tb)).map Τ:=by rw [aau];rfl
   have hS:∀n∈ds.map (Ξ ε tb),Sz 1300 n:=λn hn=>by obtain ⟨d,hd,rfl⟩:=aag.mp hn;exact JX f hm hd
   have hN:ds.map (Ξ ε tb)≠[]:=λz=>by have:=congrArg List.length z;rw [aac] at this;simp at this;rw [this] at l6;exact absurd l6.1 (by decide)
   refine ⟨λz=>absurd (of_decide_eq_true z) ro.1,λ_=>⟨λz=>?_,λz=>?_⟩⟩
   ·have z:k="chance":=of_decide_eq_true z;rw [z] at hand;exact absurd hand (by show¬χ (Str.ofString "chance")=true;decide)
   ·have z:k≠"chance":=of_decide_eq_false z;refine ⟨λz1=>?_,λz1=>?_⟩
    ·have z1:k="one":=of_decide_eq_true z1;have e1:eh ε tb (.ο k ds)=fe (ds.map (Ξ ε tb)):=if_pos z1;rw [e1] at h;refine ⟨⟨_,_,.inl rfl,rfl⟩,ε,γ,tb,i,k,ds,rfl,hi,f,?_⟩;rw [eS];exact ⟨_,rfl,hN,hS,h⟩
    ·have z1:k≠"one":=of_decide_eq_false z1;have e1:eh ε tb (.ο k ds)=fk (ds.map (Ξ ε tb)):=if_neg z1;rw [e1] at h;refine ⟨⟨_,_,.inl rfl,rfl⟩,ε,γ,tb,i,k,ds,rfl,hi,f,?_⟩;rw [eS];exact ⟨_,rfl,hN,hS,h⟩
def N9(C:Addr):DF:=λas M q _=>∃ε γ tb i r,as=[au C ε γ,.int (i:Nat),.lst (tb.map Τ)]/\γ[i]? =some r/\KJ ε γ tb/\q (.lst ((bZ ε tb r).map λj:Nat=>Dt.int j)) M
theorem kL:Δ ["self","place","table","look"] ["self","place","table"] (τ mw):= .of rfl
theorem yt{f:Addr}{fd:FuncData}(F:cJ K "best" "Floor.best" mw f fd)(E:Ev K mg w Cm){aJ:Addr}{aL:FuncData}(Ρ:cE P w K mg base 1 Cm "kind" ["self","place"] (nu Cm) aJ aL){Bg:Addr}{BB:FuncData}(kH:cE P w K mg base 6 Cm "look" ["self","place","table"] (Oy Cm) Bg BB){gG:Addr}{gT:FuncData}(aW:cE P w K mg base 5 Cm "all_shown" ["self","place","table"] (oY Cm) gG gT):ah P w K mg base (bU P w) 7 f fd ["self","place","table"] (cC K (N9 Cm)):=by
 refine F.df kL (λds M q x h=>?_) (λaT A outer s H E' hr=>⟨_,(η (aH (vi (bO Ρ hr ξ (jv 0) (Υ (jv 1) θ)) (Ks E.xi)) (μ (Ε (lH θ))) Φ)
   (η (Γ 3 kL.nd (bO kH hr ξ (jv 0) (Υ (jv 1) (Υ (jv 2) θ))))
   (μ (Ε (IP (ys:=["look"]) (ae:=[3]) (.of kL rfl rfl rfl) (x8 E.eA (ι (bO aW hr ξ (jv 0) (Υ (jv 1) (Υ (jv 2) θ))) θ (hs:=aQ))) (λC s H fp=>(e6 hr (jv 1) (jv 2))) (λC s H fp=>(jv 0))))))),λds M q x h=>?_⟩)
 ·obtain ⟨ε,γ,tb,i,r,rfl,_⟩:=h;rfl
 ·obtain ⟨ε,γ,tb,i,r,rfl,hi,f,h⟩:=h;have hm:r∈γ:=aam hi;have ro:=(f.row _ hm).1;refine ⟨⟨_,_,.inl rfl,rfl⟩,ε,γ,i,r,rfl,hi,.str (kindOf r),[.str "one",.str "other"],[.str "one",.str "other"],rfl,rfl,rfl,?_⟩;rw [s_];cases r with
  |fin p=>exact ⟨λ_=>⟨by decide,h⟩,λz=>(nomatch (show (!χ "end")=false from z))⟩
  |ο k ds=>
   have l6:=HQ f hm;refine ⟨λz=>?_,λz=>?_⟩
   ·have z:χ k=false:=by have:(!χ k)=true:=z;simpa using this
    have e1:bZ ε tb (.ο k ds)=[]:=if_neg (by rw [z];decide);rw [e1] at h;exact ⟨by decide,h⟩
   ·have z:χ k=true:=by have:(!χ k)=false:=z;simpa using this
    have e1:bZ ε tb (.ο k ds)=(List.range ds.length).filter λj=>decide (Ξ ε tb (ds.getD j d0)=eh ε tb (.ο k ds)):=if_pos z;rw [e1] at h;refine ⟨⟨_,_,.inl rfl,rfl⟩,ε,γ,tb,i, .ο k ds,rfl,hi,z,f,?_⟩;refine ⟨⟨_,_,.inl rfl,rfl⟩,ε,γ,tb,i,k,ds,rfl,hi,f,?_⟩;generalize eh ε tb (.ο k ds)=lk at *
    have eS:ds.map (λd=>Τ (Ξ ε tb d))=(ds.map (Ξ ε tb)).map Τ:=by rw [aau];rfl
    rw [eS];refine ⟨_,_,_,rfl,rfl,by rw [jq,aac,aac];exact aap l6.2 (by decide),?_⟩;refine fX trivial (λx=>match x with|.tup [_,.tup [.int a,.int b]]=>decide ((a,b)=lk)|_=>false) (λx=>match x with|.tup [i,_]=>i|_=> .bw) _ _ (λx hx q' p' h1 h2=>?_) ?_
    ·obtain ⟨j,hj,ej⟩:=aa0 hx;obtain ⟨y,hy,rfl⟩:=pN (n:=0) (i:=j) (aaf.mpr ⟨hj,ej⟩);rw [aal] at hy;obtain ⟨s0,hs0,rfl⟩:=Option.map_eq_some_iff.mp hy;have h1:decide (s0=lk)=true->q' (.int ((0+j:Nat):Int)) M:=h1;have h2:decide (s0=lk)=false->p' M:=h2;clear hx hj ej hy;have key:Bx (Τ s0) (Τ lk) M (λd M1=>match d with|.bl b=>(match b with|true=>q' (.int ((0+j:Nat):Int)) M1|false=>p' M1)|_=>False):=by
      refine R0 (k:=λb M1=>match b with|true=>q' (.int ((0+j:Nat):Int)) M1|false=>p' M1) ?_;cases hb:decide (s0=lk) with
      |true=>exact h1 hb
      |false=>exact h2 hb
     exact key
    ·rw [aaF,qk (λs0=>decide (s0=lk)) (ds.map (Ξ ε tb)) 0,aac];have e3:∀j∈List.range ds.length,decide ((ds.map (Ξ ε tb)).getD j (0,1)=lk)=decide (Ξ ε tb (ds.getD j d0)=lk):=λj hj=>by have hj:=aaT.mp hj;rw [aab,aal,aab,aaa hj];rfl
     rw [List.filter_congr e3];have e4:∀l:List Nat,(l.map λj:Nat=>Dt.int ((0+j:Nat):Int))=l.map λj:Nat=>Dt.int j:=λl=>aaO λj _=>by rw [Nat.zero_add]
     rw [e4];exact h
end
end Pg
namespace L2
open PySem
theorem zH{g:Dt->En->(En->Prop)->Prop}{tb:DS}{Dn:lG}{k:Nat}{u:Addr->HO}{m:MO}(J:List Key->En->Ms->Prop)(aY:∀xs ρ M,J xs ρ M->M[k]? =some (.raw u))
  (step:∀x xs ρ M,J (x::xs) ρ M->(∀ρ M,J xs ρ M->ue g tb Dn k u m xs ρ M)->g (Ky x) ρ λρ'=>tb {Dn with nx:=ue g tb Dn k u m xs,ct:=ue g tb Dn k u m xs,bk:=λρ M=>M[k]? =some (.raw u)/\Dn.nx ρ (M.set k m)} ρ' M)
  (fin:∀ρ M,J [] ρ M->Dn.nx ρ (M.set k m)):∀(xs:List Key) (ρ:En) (M:Ms),J xs ρ M->ue g tb Dn k u m xs ρ M
 |[],ρ,M,h=>⟨aY _ _ _ h,fin _ _ h⟩
 |x::xs,ρ,M,h=>⟨aY _ _ _ h,step x xs ρ M h λρ' M' h'=>zH J aY step fin xs ρ' M' h'⟩
end L2
namespace Pg
open PySem L2 Fr0 Tx
def fq(ε:Fr)(γ:List Rw)(tb:List Fr)(i:Int):List Nat:=match γ[i.toNat]? with
 |some r=>bZ ε tb r
 |none=>[]
def Ba(l:List Nat)(v:Int):Bool:=Q7 (.int v) (l.map λj:Nat=>V.int j)
def pB(ε:Fr)(γ:List Rw)(tb:List Fr)(p:Int×Int):Pl:=if Ba (fq ε γ tb p.1) p.2 then [] else [(p.1,((fq ε γ tb p.1).headD 0:Nat))]
def Α(ε:Fr)(γ:List Rw)(tb:List Fr)(pl:Pl):Pl:=pl.flatMap (pB ε γ tb)
theorem vx:∀l:List Nat,hJ (l.map λj:Nat=>Dt.int j)=some (l.map λj:Nat=>V.int j)
 |[]=>rfl
 |j::l=>by have ih:=vx l;rw [aaA,aaA];unfold hJ;rw [ih];rfl
theorem Le{M:Ms}{k:Nat}{m:MO}(h:M[k]? =some m):M.set k m=M:=by
 apply acd;intro i;rw [List.getElem?_set];split
 ·rename_i e;subst e;rw [if_pos (aaf.mp h).1,h]
 ·rfl
theorem wJ(pl:Pl):vP pl=(pl.map (·.2)).map Dt.int:=by unfold vP;rw [List.map_map];rfl
theorem fJ{ε:Fr}{γ:List Rw}{tb:List Fr}{i:Int}:∀{pl:Pl},i∈(Α ε γ tb pl).map (·.1)->i∈pl.map (·.1)
 |p::r,h=>by
  unfold Α at h;rw [List.flatMap_cons,aaX] at h;rcases aaP.mp h with z|z
  ·unfold pB at z;split at z
   ·cases z
   ·rw [aaA];exact aaC.mpr (.inl (aba.mp z))
  ·exact aad _ (fJ z)
theorem jx{ε:Fr}{γ:List Rw}{tb:List Fr}:∀pl:Pl,(Α ε γ tb pl).length<=pl.length
 |[]=>aai _
 |p::r=>by
  have ih:=jx (ε:=ε) (γ:=γ) (tb:=tb) r;unfold Α at ih⊢;rw [List.flatMap_cons,aah,aax];have:(pB ε γ tb p).length<=1:=by
   unfold pB;split
   ·exact abP _
   ·exact aai _
  omega
theorem nJ{i:Int}:∀{pl:Pl},i∉pl.map (·.1)->Μ pl i=none
 |[],_=>rfl
 |p::r,h=>by unfold Μ;rw [if_neg λz=>h (by rw [<-z];exact aae)];exact nJ λz=>h (aad _ z)
section
variable{P:Program}{w:World}{K:fI}{mg:Str->Option Value}{base:Heap}{Cm:Addr}
def xV(A:Addr):DF:=λas M q _=>∃(ε:Fr) (γ:List Rw) (tb:List Fr) (k:Nat) (pl:Pl),as=[au A ε γ,.loc k,.lst (tb.map Τ)]/\M[k]? =some (dP pl)/\KJ ε γ tb/\BI pl/\pl.length<=12/\(∀p∈pl,0<=p.1/\∃r,γ[p.1.toNat]? =some r/\χ (kindOf r)=true/\bZ ε tb r≠[])/\q (.loc M.length) (M++[dP (Α ε γ tb pl)])
theorem fC:Δ ["floor","plan","table","better","place","best"] ["floor","plan","table"] (τ jH):= .of rfl
theorem rD{f:Addr}{fd:FuncData}(F:cJ K "better_doors" "better_doors" jH f fd)(E:Ev K mg w Cm){Cc:Addr}{BS:FuncData}(kn:cE P w K mg base 7 Cm "best" ["self","place","table"] (N9 Cm) Cc BS):ah P w K mg base (bU P w) 8 f fd ["floor","plan","table"] (cC K (xV Cm)):=by
 refine F.df fC (λds M q x h=>?_) (λaT A outer s H E' hr=>⟨_,(η (Γ 3 fC.nd Br)
   (η (MC (jv 1) (aD (i:=4) fC.nd rfl (Or.inl rfl)) ba (η (Γ 5 fC.nd (bO kn hr ξ (jv 0) (Υ (jv 4) (Υ (jv 2) θ))))
   (μ (aH (vi (M6 (jv 1) (jv 4)) (jv 5)) (μ (ya hr (jv 3) (jv 4) (Ν (jv 5) ω))) Φ))))
   (μ (Ε (jv 3))))),λds M q x h=>?_⟩)
 ·obtain ⟨ε,γ,tb,k,pl,rfl,_⟩:=h;rfl
 ·obtain ⟨ε,γ,tb,k,pl,rfl,hk,f,nd,pk,hp,h⟩:=h;have kl:k<M.length:=(aaf.mp hk).1;walk_at "vc";refine ⟨k,kP pl,pl.map (·.2),rfl,by rw [<-wJ];exact dc hk,λep=>?_⟩;show ue _ _ _ k (Oe P w (kP pl) (pl.map (·.2)) ep) _ _ _ ((M++[MO.fF [] []]).set k (.raw (Oe P w (kP pl) (pl.map (·.2)) ep)));have PD:∀p∈pl,dR (kP pl) ((pl.map (·.2)).map Dt.int) (Sum.inl p.1)=some (.int p.2):=λp hm=>by
   rw [<-wJ,AL];have:∀{l:Pl},BI l->p∈l->Μ l p.1=some p.2:=λ{l}=>by
    induction l with
    |nil=>intro _ z;cases z
    |cons a l ih=>
     intro nl hm;unfold BI at nl;rw [aaA,aby] at nl;unfold Μ;rcases aaC.mp hm with e|e
     ·rw [if_pos (by rw [e]),e]
     ·rw [if_neg λz=>nl.1 (by rw [z];exact aag.mpr ⟨p,e,rfl⟩)];exact ih nl.2 e
   rw [this nd hm];rfl
  generalize hu:Oe P w (kP pl) (pl.map (·.2)) ep=u;have XN:(M++[MO.fF [] []]).set k (.raw u)=M.set k (.raw u)++[dP []]:=by rw [abH _ _ kl];rfl
  have hb:∀Ζ,((M.set k (.raw u)++[dP Ζ]).set k (.fF (kP pl) (vP pl)))=M++[dP Ζ]:=λΖ=>by
   rw [abH _ _ (by rw [aa4];exact kl),List.set_set]
   congr 1
   exact Le hk
  rw [XN];refine zH (λxs ρ' M'=>∃(gC rest:Pl) (o4 o5:Option Dt),pl=gC++rest/\xs=kP rest/\M'=M.set k (.raw u)++[dP (Α ε γ tb gC)]/\ρ'=[some (au Cm ε γ),some (.loc k),some (.lst (tb.map Τ)),some (.loc M.length),o4,o5]) (λxs ρ' M' hj=>?_) (λx xs ρ' M' hj ir=>?_) (λρ' M' hj=>?_) _ _ _ ⟨[],pl,none,none,rfl,rfl,rfl,rfl⟩
  ·obtain ⟨gC,rest,o4,o5,e,rfl,rfl,rfl⟩:=hj;exact dc (by rw [aa3 kl])
  ·obtain ⟨gC,rest,o4,o5,e,ex,rfl,rfl⟩:=hj;cases rest with
   |nil=>cases ex
   |cons p rest=>
    cases ex;have pm:p∈pl:=by rw [e];simp
    obtain ⟨p0,r,Vu,yM,hr3⟩:=hp p pm;obtain ⟨p1,v⟩:=p;obtain ⟨i,rfl⟩:∃i:Nat,p1=(i:Int):=⟨p1.toNat,by have:0<=p1:=p0;omega⟩;have Vu:γ[i]? =some r:=Vu;have hbA:fq ε γ tb (i:Int)=bZ ε tb r:=by unfold fq;rw [abx,Vu]
    have LN:(M.set k (.raw u)++[dP (Α ε γ tb gC)])[k]? =some (.raw u):=dc (by rw [aa3 kl]);have TU:(M.set k (.raw u)++[dP (Α ε γ tb gC)])[M.length]? =some (dP (Α ε γ tb gC)):=by have:=aZ (M:=M.set k (.raw u)) (o:=dP (Α ε γ tb gC));rwa [aa4] at this
    have ZA:Α ε γ tb (gC++[((i:Int),v)])=Α ε γ tb gC++pB ε γ tb ((i:Int),v):=by unfold Α;rw [List.flatMap_append];simp
    have U6:∀Ζ o5,Ζ=Α ε γ tb (gC++[((i:Int),v)])->_:=λΖ o5 ea=>ir [some (au Cm ε γ),some (.loc k),some (.lst (tb.map Τ)),some (.loc M.length),some (.int (i:Int)),o5] (M.set k (.raw u)++[dP Ζ]) ⟨gC++[((i:Int),v)],rest,_,o5,by rw [e,aaJ];rfl,rfl,by rw [ea],rfl⟩;have hg:=PD _ pm;rw [<-hu] at LN TU U6⊢;walk_at "vc";refine ⟨⟨_,_,.inl rfl,rfl⟩,ε,γ,tb,i,r,rfl,Vu,f,?_⟩;generalize bZ ε tb r=bl at *
    refine ⟨k,kP pl,(pl.map λx:Int×Int=>x.2),ep,Sum.inl (i:Int),v,rfl,LN,rfl,hg,?_⟩;refine ⟨.int v,_,_,rfl,rfl,vx bl,λz=>?_,λz=>?_⟩
    ·have z:(!Ba bl v)=true:=z;have z:¬Ba bl v=true:=by simpa using z
     obtain ⟨j,bl',rfl⟩:=aa7 hr3;dsimp only [wY];walk_at "vc";refine (Ι (d:= .lst ((j::bl').map λj:Nat=>Dt.int j)) rfl bq ?_:fV (.lst ((j::bl').map λj:Nat=>Dt.int j)) (.int 0) _ _);have ll:=jx (ε:=ε) (γ:=γ) (tb:=tb) gC;have dl:gC.length<=12:=by have:=congrArg List.length e;rw [aah] at this;omega
     refine ⟨M.length,_,_,Sum.inl (i:Int),rfl,TU,rfl,by unfold kP;rw [List.length_map];omega,?_⟩;rw [Ax (v:=(j:Int)),D6];have gn:Μ (Α ε γ tb gC) (i:Int)=none:=nJ λy=>by have y:=fJ y;rw [e] at nd;unfold BI at nd;rw [aaX,acb] at nd;exact nd.2.2 _ y _ aae rfl
     have e1:iI (Α ε γ tb gC) (i:Int) (j:Int)=Α ε γ tb (gC++[((i:Int),v)]):=by rw [ZA];unfold iI pB;rw [gn,hbA,if_neg z,if_neg (by decide)];rfl
     rw [e1,abR (h:=by rw [aa4];exact aai _),aa4,acg];exact U6 _ _ rfl
    ·have z:(!Ba bl v)=false:=z;have z:Ba bl v=true:=by simpa using z
     exact U6 _ _ (by rw [ZA];unfold pB;rw [hbA,if_pos z,List.append_nil])
  ·obtain ⟨gC,rest,o4,o5,e,ex,rfl,rfl⟩:=hj;have:rest=[]:=by cases rest with|nil=>rfl|cons p r=>cases ex
   subst this;rw [aaZ] at e;rw [wJ] at hb;rw [hb,<-e];exact h
def dh(γ:List Rw)(i:Nat):Str:=match γ[i]? with
 |some r=>kindOf r
 |none=>""
def gU(γ:List Rw)(hand:Str):List Nat:=(List.range γ.length).filter λi=>decide (dh γ i=hand)
def pO(γ:List Rw)(hand:Str):Pl:=(gU γ hand).map λi:Nat=>((i:Int),0)
theorem C9(p:Nat->Bool)(n:Nat):((e7 0 n).filter λx=>match x with|.int j=>p j.toNat|_=>false)=((List.range n).filter p).map λi:Nat=>Dt.int i:=by
 unfold e7;rw [List.filter_map];have e:((λx:Dt=>match x with|.int j=>p j.toNat|_=>false) ∘ λi:Nat=>Dt.int (0+(i:Int)))=p:=funext λi=>by show p (0+(i:Int)).toNat=p i;rw [show (0+(i:Int)).toNat=i by omega]
 rw [e];exact aaO λi _=>by show Dt.int (0+(i:Int))=Dt.int i;rw [Int.zero_add]
def Ey(A:Addr):DF:=λas M q _=>∃(ε:Fr) (γ:List Rw) (hand:Str),as=[au A ε γ,.str hand]/\γ.length<=12/\q (.lst ((gU γ hand).map λi:Nat=>Dt.int i)) M
theorem q5:Δ ["floor","hand"] ["floor","hand"] (τ pv):= .of rfl
theorem zC{f:Addr}{fd:FuncData}(F:cJ K "places_of" "places_of" pv f fd)(E:Ev K mg w Cm){dQ:Addr}{dJ:FuncData}(aU:cE P w K mg base 1 Cm "size" ["self"] (Aw Cm) dQ dJ){aJ:Addr}{aL:FuncData}(Ρ:cE P w K mg base 1 Cm "kind" ["self","place"] (nu Cm) aJ aL):ah P w K mg base (bU P w) 2 f fd ["floor","hand"] (cC K (Ey Cm)):=by
 refine F.df q5 (λds M q x h=>?_) (λaT A outer s H E' hr=>⟨_,(μ (Ε (K4 (ys:=["hand","floor"]) (ae:=[1,0]) (.of q5 rfl rfl rfl) (N8 (eY E.cZ (ι (ik aU hr ξ (jv 0)) θ (hs:=aQ)))) (λC s H fp=>(e6 hr (bO Ρ hr (fB (P:=P) (w:=w)) (jv 2) (Υ (jv 0) θ)) (jv 1))) (λC s H fp=>(jv 0))))),λds M q x h=>?_⟩)
 ·obtain ⟨ε,γ,hand,rfl,_⟩:=h;rfl
 ·obtain ⟨ε,γ,hand,rfl,pk,h⟩:=h;have sl:∀{z:Nat},z<=1000->z<=sizeLine:=λh=>aap h (by decide);walk_at "vc";dsimp only [Bk,kOf];walk_at "vc";refine ⟨⟨_,_,.inl rfl,rfl⟩,ε,γ,rfl,?_⟩;refine ⟨by omega,by rw [i6];exact sl (by omega),?_⟩;rw [show ((γ.length:Int)).toNat=γ.length by omega];refine fX trivial (λx=>match x with|.int j=>decide (dh γ j.toNat=hand)|_=>false) (λx=>x) _ _ (λx hx q' p' h1 h2=>?_) ?_
  ·obtain ⟨j,hj,rfl⟩:=rY hx;rw [Int.zero_add] at h1 h2⊢;have hr:γ[j]? =some γ[j]:=aaa hj;have O5:dh γ j=kindOf γ[j]:=by unfold dh;rw [hr]
   have h1:decide (dh γ j=hand)=true->q' (.int (j:Int)) M:=h1;have h2:decide (dh γ j=hand)=false->p' M:=h2;rw [O5] at h1 h2;refine ⟨⟨_,_,.inl rfl,rfl⟩,ε,γ,j,γ[j],rfl,hr,?_⟩;show (match decide (kindOf γ[j]=hand) with|true=>q' (.int (j:Int)) M|false=>p' M);cases hb:decide (kindOf γ[j]=hand) with
   |true=>exact h1 hb
   |false=>exact h2 hb
  ·rw [aaF,List.map_id'];exact (λ(key:∀l,l=(gU γ hand).map (λi:Nat=>Dt.int i)->q (.lst l) M)=>key _ (C9 (λi=>decide (dh γ i=hand)) γ.length)) λl hl=>by rw [hl];exact h
def x9(A:Addr):DF:=λas M q _=>∃(ε:Fr) (γ:List Rw) (hand:Str),as=[au A ε γ,.str hand]/\γ.length<=12/\q (.loc M.length) (M++[dP (pO γ hand)])
theorem ko:Δ ["floor","hand","plan","place"] ["floor","hand"] (τ mO):= .of rfl
theorem wL{f:Addr}{fd:FuncData}(F:cJ K "first_plan" "first_plan" mO f fd)(E:Ev K mg w Cm){Fp:Addr}{GB:FuncData}(mD:aw P w K mg base 2 "places_of" ["floor","hand"] (Ey Cm) Fp GB):ah P w K mg base (bU P w) 3 f fd ["floor","hand"] (cC K (x9 Cm)):=by
 refine F.df ko (λds M q x h=>?_) (λaT A outer s H E' hr=>⟨_,(η (Γ 2 ko.nd Br)
   (η (dF (bf (ag mD hr ξ (Υ (jv 0) (Υ (jv 1) θ)))) (aD (i:=3) ko.nd rfl (Or.inl rfl)) ba (μ (ya hr (jv 2) (jv 3) ω)))
   (μ (Ε (jv 2))))),λds M q x h=>?_⟩)
 ·obtain ⟨ε,γ,hand,rfl,_⟩:=h;rfl
 ·obtain ⟨ε,γ,hand,rfl,pk,h⟩:=h;have aeL:(gU γ hand).length<=12:=by have:=List.length_filter_le (λi=>decide (dh γ i=hand)) (List.range γ.length);rw [aaN] at this;unfold gU;omega
  have pnd:(gU γ hand).Nodup:=List.nodup_range.filter _;walk_at "vc";dsimp only [vY,e_];walk_at "vc";refine ⟨ε,γ,hand,rfl,pk,?_⟩;refine cc (λxs ρ' M'=>∃(gC rest:List Nat) (o3:Option Dt),gU γ hand=gC++rest/\xs=rest.map (λi:Nat=>Dt.int i)/\M'=M++[dP (gC.map λi:Nat=>((i:Int),0))]/\ρ'=[some (au Cm ε γ),some (.str hand),some (.loc M.length),o3]) (λxs ρ' M' hj=>trivial) (λx xs ρ' M' hj ir=>?_) (λρ' M' hj=>?_) _ _ _ ⟨[],gU γ hand,none,rfl,rfl,rfl,rfl⟩
  ·obtain ⟨gC,rest,o3,e,ex,rfl,rfl⟩:=hj;cases rest with
   |nil=>cases ex
   |cons i rest=>
    cases ex;have dl:gC.length<=12:=by have:=congrArg List.length e;rw [aah] at this;omega
    dsimp only [wY];walk_at "vc";refine ⟨M.length,_,_,Sum.inl (i:Int),rfl,aZ,rfl,by unfold kP;rw [List.length_map,List.length_map];omega,?_⟩;rw [Ax (v:=0),D6,eO];have gn:Μ (gC.map λi:Nat=>((i:Int),0)) (i:Int)=none:=nJ λy=>by
     rw [aau] at y;obtain ⟨j,hj,ej⟩:=aag.mp y;have ej:(j:Int)=(i:Int):=ej;have:j=i:=by omega
     subst this;rw [e,acb] at pnd;exact pnd.2.2 _ hj _ aae rfl
    refine ir _ _ ⟨gC++[i],rest,_,by rw [e,aaJ];rfl,rfl,?_,rfl⟩;unfold iI;rw [gn,if_neg (by decide),aaX];rfl
  ·obtain ⟨gC,rest,o3,e,ex,rfl,rfl⟩:=hj;have:rest=[]:=by cases rest with|nil=>rfl|cons p r=>cases ex
   subst this;rw [aaZ] at e;rw [<-e];exact h
def bj:Pl->Pl->Pl
 |p,[]=>p
 |p,e::r=>bj (iI p e.1 e.2) r
theorem DR:∀{r p:Pl},qb (kP p) (kP r)=kP (bj p r)
 |[],p=>rfl
 |e::r,p=>by show qb (gZ (kP p) (Sum.inl e.1)) (kP r)=kP (bj (iI p e.1 e.2) r);rw [Ax (v:=e.2)];exact DR
theorem D5:∀{r p:Pl},rJ (kP p) (vP p) (kP r) (vP r)=vP (bj p r)
 |[],p=>rfl
 |e::r,p=>by show rJ (gZ (kP p) (Sum.inl e.1)) (fb (kP p) (Sum.inl e.1) (vP p) (.int e.2)) (kP r) (vP r)=vP (bj (iI p e.1 e.2) r);rw [Ax (v:=e.2),D6];exact D5
theorem eI{i:Int}:∀{r p:Pl},BI r->Μ (bj p r) i=match Μ r i with|some v=>some v|none=>Μ p i
 |[],p,_=>rfl
 |e::r,p,nd=>by
  unfold BI at nd;rw [aaA,aby] at nd;have ih:=eI (i:=i) (r:=r) (p:=iI p e.1 e.2) nd.2;show Μ (bj (iI p e.1 e.2) r) i=match (if e.1=i then some e.2 else Μ r i) with|some v=>some v|none=>Μ p i
  rw [ih,EE];by_cases h:e.1=i
  ·have hn:Μ r i=none:=by
    cases hg:Μ r i with
    |none=>rfl
    |some v=>exact absurd (aag.mpr ⟨_,EU hg,h.symm⟩) nd.1
   rw [hn,if_pos h,if_pos h.symm]
  ·rw [if_neg h,if_neg (Ne.symm h)]
def S9(A:Addr):DF:=λas M q _=>∃(ε:Fr) (γ:List Rw) (kh ka:Nat) (ph pa:Pl) (X C:Int),as=[au A ε γ,.loc kh,.loc ka]/\M[kh]? =some (dP ph)/\M[ka]? =some (dP pa)/\ph.length+pa.length<=1000/\fS γ (bj ph pa)/\FW ε γ X C/\ie X C<=2^450/\(12*ie X C)^γ.length<2^1030/\∀tb,jF ε γ (bj ph pa) tb->q (.loc (M.length+1)) (M++[dP (bj ph pa),.lst (tb.map Τ)])
theorem jO:Δ ["floor","held","answer","doors"] ["floor","held","answer"] (τ hI):= .of rfl
theorem pF{f:Addr}{fd:FuncData}(F:cJ K "worths_against" "worths_against" hI f fd)(E:Ev K mg w Cm){FI:Addr}{FF:FuncData}(mG:aw P w K mg base 7 "worths_by" ["floor","doors"] (SF Cm) FI FF):ah P w K mg base (bU P w) 8 f fd ["floor","held","answer"] (cC K (S9 Cm)):=by
 refine F.df jO (λds M q x h=>?_) (λaT A outer s H E' hr=>⟨_,(η (Γ 3 jO.nd (Ki E.tM (Υ (jv 1) θ)))
   (η (eW (CQ (jv 3) (jv 2)))
   (μ (Ε (ag mG hr ξ (Υ (jv 0) (Υ (jv 3) θ))))))),λds M q x h=>?_⟩)
 ·obtain ⟨ε,γ,kh,ka,ph,pa,X,C,rfl,_⟩:=h;rfl
 ·obtain ⟨ε,γ,kh,ka,ph,pa,X,C,rfl,hh,ha,lz,dk,fw,i_,lA,h⟩:=h;walk_at "vc";refine ⟨kh,_,_,rfl,hh,?_⟩;dsimp only [DY];walk_at "vc";have kl:ka<M.length:=(aaf.mp ha).1;refine ⟨⟨M.length,_,_,rfl,aZ⟩,M.length,ka,_,_,_,_,rfl,rfl,by omega,aZ,dc ha,by unfold kP;rw [List.length_map,List.length_map];exact lz,?_⟩;rw [DR,D5,eO];refine ⟨ε,γ,_,_,X,C,rfl,aZ,dk,fw,i_,lA,λtb wt=>?_⟩;have:=h tb wt;simpa [List.append_assoc] using this
theorem JC{a b:Fr}(ha:0<a.2)(hb:0<b.2):a.1*b.2<=b.1*a.2↔val a<=val b:=by
 have e1:val a*(a.2:Rat)=a.1:=by
  have:=bb (show a.2≠0 by omega);unfold val;generalize (a.1:Rat)=x at *
  generalize (a.2:Rat)=y at *
  grind
 have e2:val b*(b.2:Rat)=b.1:=by
  have:=bb (show b.2≠0 by omega);unfold val;generalize (b.1:Rat)=x at *
  generalize (b.2:Rat)=y at *
  grind
 have p1:(0:Rat)<(a.2:Rat):=abo.mpr ha;have p2:(0:Rat)<(b.2:Rat):=abo.mpr hb;have pp:=Rat.mul_pos p1 p2;rw [<-aaY,aaG,aaG,<-e1,<-e2];generalize (a.2:Rat)=y at *
 generalize (b.2:Rat)=z at *
 generalize val a=u at *
 generalize val b=v at *
 constructor
 ·intro h;by_cases c:u<=v
  ·exact c
  ·have:=Rat.mul_pos (show 0<u-v by grind) pp;grind
 ·intro h;have:=abt h (Rat.le_of_lt pp);grind
theorem uV{f n:Fr}(h1:0<f.2)(h2:0<n.2):br f n=true↔val f<val n:=by
 unfold br;rw [decide_eq_true_iff];have:=JC h2 h1;constructor
 ·intro h;by_cases c:val n<=val f
  ·have:=this.mpr c;omega
  ·grind
 ·intro h;by_cases c:n.1*f.2<=f.1*n.2
  ·have:=this.mp c;grind
  ·omega
theorem mI:∀(ns:List Fr) (f:Fr),0<f.2->(∀n∈ns,0<n.2)->(ns.foldl (λf n=>if br f n then n else f) f∈f::ns)/\val f<=val (ns.foldl (λf n=>if br f n then n else f) f)/\∀n∈ns,val n<=val (ns.foldl (λf n=>if br f n then n else f) f)
 |[],f,_,_=>⟨List.mem_cons_self,by show val f<=val f;grind,λ_ z=>nomatch z⟩
 |a::ns,f,h,hn=>by
  have ha:=hn a aae;have u:=uV h ha;rw [aaW];by_cases c:br f a=true
  ·rw [if_pos c];obtain ⟨m,l,al⟩:=mI ns a ha λn z=>hn n (aad _ z);have:=u.mp c;refine ⟨List.mem_cons_of_mem _ m,by grind,λn z=>?_⟩;rcases aaC.mp z with e|e
   ·rw [e];exact l
   ·exact al n e
  ·rw [if_neg c];obtain ⟨m,l,al⟩:=mI ns f h λn z=>hn n (aad _ z);have c2:¬val f<val a:=λz=>c (u.mpr z);refine ⟨?_,l,λn z=>?_⟩
   ·rcases aaC.mp m with e|e
    ·rw [e];exact aae
    ·exact aad _ (aad _ e)
   ·rcases aaC.mp z with e|e
    ·rw [e];grind
    ·exact al n e
theorem mX:∀(ns:List Fr) (f:Fr),0<f.2->(∀n∈ns,0<n.2)->(ns.foldl (λf n=>if br n f then n else f) f∈f::ns)/\val (ns.foldl (λf n=>if br n f then n else f) f)<=val f/\∀n∈ns,val (ns.foldl (λf n=>if br n f then n else f) f)<=val n
 |[],f,_,_=>⟨List.mem_cons_self,by show val f<=val f;grind,λ_ z=>nomatch z⟩
 |a::ns,f,h,hn=>by
  have ha:=hn a aae;have u:=uV ha h;rw [aaW];by_cases c:br a f=true
  ·rw [if_pos c];obtain ⟨m,l,al⟩:=mX ns a ha λn z=>hn n (aad _ z);have:=u.mp c;refine ⟨List.mem_cons_of_mem _ m,by grind,λn z=>?_⟩;rcases aaC.mp z with e|e
   ·rw [e];exact l
   ·exact al n e
  ·rw [if_neg c];obtain ⟨m,l,al⟩:=mX ns f h λn z=>hn n (aad _ z);have c2:¬val a<val f:=λz=>c (u.mpr z);refine ⟨?_,l,λn z=>?_⟩
   ·rcases aaC.mp m with e|e
    ·rw [e];exact aae
    ·exact aad _ (aad _ e)
   ·rcases aaC.mp z with e|e
    ·rw [e];grind
    ·exact al n e
def jS(k:Str):Rat:=if k="one" then 1 else -1
section
variable{ε:Fr}{γ:List Rw}{tb:List Fr}{k:Str}{ds:List bI}
theorem vA(h0:ds≠[])(hp:∀d∈ds,0<(Ξ ε tb d).2):eh ε tb (.ο k ds)∈ds.map (Ξ ε tb)/\∀d∈ds,jS k*val (Ξ ε tb d)<=jS k*val (eh ε tb (.ο k ds)):=by
 obtain ⟨d1,mS,rfl⟩:=aa7 h0;have hn:∀n∈(d1::mS).map (Ξ ε tb),0<n.2:=λn hn=>by obtain ⟨d,hd,rfl⟩:=aag.mp hn;exact hp d hd
 have h1:=hp d1 aae;unfold jS;by_cases e:k="one"
 ·have e1:eh ε tb (.ο k (d1::mS))=fe ((d1::mS).map (Ξ ε tb)):=if_pos e;obtain ⟨m,l,al⟩:=mI ((d1::mS).map (Ξ ε tb)) (Ξ ε tb d1) h1 hn;have e2:fe ((d1::mS).map (Ξ ε tb))=((d1::mS).map (Ξ ε tb)).foldl (λf n=>if br f n then n else f) (Ξ ε tb d1):=rfl;rw [e1,e2,if_pos e];refine ⟨?_,λd hd=>?_⟩
  ·rcases aaC.mp m with y|y
   ·rw [y];exact aae
   ·exact y
  ·have:=al _ (aag.mpr ⟨d,hd,rfl⟩);grind
 ·have e1:eh ε tb (.ο k (d1::mS))=fk ((d1::mS).map (Ξ ε tb)):=if_neg e;obtain ⟨m,l,al⟩:=mX ((d1::mS).map (Ξ ε tb)) (Ξ ε tb d1) h1 hn;have e2:fk ((d1::mS).map (Ξ ε tb))=((d1::mS).map (Ξ ε tb)).foldl (λf n=>if br n f then n else f) (Ξ ε tb d1):=rfl;rw [e1,e2,if_neg e];refine ⟨?_,λd hd=>?_⟩
  ·rcases aaC.mp m with y|y
   ·rw [y];exact aae
   ·exact y
  ·have:=al _ (aag.mpr ⟨d,hd,rfl⟩);grind
end
theorem wz{l:List Nat}{v:Int}:Ba l v=true↔∃j∈l,(j:Int)=v:=by
 unfold Ba Q7;rw [List.any_eq_true];constructor
 ·rintro ⟨u,hu,e⟩;obtain ⟨j,hj,rfl⟩:=aag.mp hu;refine ⟨j,hj,?_⟩;unfold uz at e;simpa using e
 ·rintro ⟨j,hj,e⟩;refine ⟨.int j,aag.mpr ⟨j,hj,rfl⟩,?_⟩;unfold uz;simpa using e
section
variable{ε:Fr}{γ:List Rw}{X C:Int}{Ζ bN:Pl}{tb:List Fr}{k:Str}{ds:List bI}{i j:Nat}
theorem k9{r:Rw}(hi:γ[i]? =some r):fH γ i=r:=by unfold fH;rw [aab,hi];rfl
theorem kG(hh:χ k=true):j∈bZ ε tb (.ο k ds)↔j<ds.length/\Ξ ε tb (ds.getD j d0)=eh ε tb (.ο k ds):=by have e:bZ ε tb (.ο k ds)=(List.range ds.length).filter λj=>decide (Ξ ε tb (ds.getD j d0)=eh ε tb (.ο k ds)):=if_pos hh;rw [e,List.mem_filter,aaT,decide_eq_true_iff]
theorem L8(hh:χ k=true)(h0:ds≠[])(hp:∀d∈ds,0<(Ξ ε tb d).2):bZ ε tb (.ο k ds)≠[]:=by obtain ⟨m,_⟩:=vA (k:=k) h0 hp;obtain ⟨d,hd,e⟩:=aag.mp m;obtain ⟨j,jl,ej⟩:=aa0 hd;have:j∈bZ ε tb (.ο k ds):=(kG hh).mpr ⟨jl,by rw [aab,aaa jl];show Ξ ε tb ds[j]=_;rw [ej,e]⟩;exact List.ne_nil_of_mem this
theorem nU(fw:FW ε γ X C)(hm:Rw.ο k ds∈γ){d:bI}(hd:d∈ds)(hp:∀t,t<γ.length->0<(tb.getD t (0,1)).2):val (Ξ ε tb d)=val d.2.1+val ε*val (tb.getD d.1.toNat (0,1))/\Red (Ξ ε tb d):=by have s0:=fw.sh.1;have dr:=eP fw.pl hm;obtain ⟨t0,t1⟩:=dr.to d hd;have tp:0<(tb.getD d.1.toNat (0,1)).2:=hp _ (by omega);have p0:=(dr.py d hd).2;have t:Red (aA ε (tb.getD d.1.toNat (0,1))):=b_ (aa9 (aaE s0 tp));refine ⟨?_,b_ (aa9 (aaE p0 t.pos))⟩;show val (cN d.2.1 (aA ε (tb.getD d.1.toNat (0,1))))=_;rw [A7 p0 t.pos,o8 s0 tp]
theorem nW(fw:FW ε γ X C)(hi:γ[i]? =some (.ο k ds))(hh:χ k=true)(gj:Μ Ζ i=some (j:Int))(jl:j<ds.length)(hp:∀t,t<γ.length->0<(tb.getD t (0,1)).2):jT ε (xo γ Ζ) (xc γ Ζ) (λx=>val (tb.getD x (0,1))) i=val (Ξ ε tb (ds.getD j d0)):=by
 have rm:Rw.ο k ds∈γ:=aam hi;have gd:ds.getD j d0=ds[j]:=by rw [aab,aaa jl];rfl
 have dm:=aay jl;have e:av Ζ i (.ο k ds)=[(ds[j].1,ds[j].2.1,[(1,1)])]:=by unfold av;rw [gj];show [((ds.getD ((j:Int)).toNat d0).1,(ds.getD ((j:Int)).toNat d0).2.1,(ds.getD ((j:Int)).toNat d0).2.2++[(1,1)])]=_;rw [abx,gd,fw.W0 k ds rm hh _ dm];rfl
 have v1:val ((1,1):Fr)=1:=by show ((1:Int):Rat)/((1:Int):Rat)=1;grind
 have v0:val ((0,1):Fr)=0:=by show ((0:Int):Rat)/((1:Int):Rat)=0;grind
 have p0:=((eP fw.pl rm).py ds[j] dm).2;have eg:val (Ol Ζ i (.ο k ds))=val ds[j].2.1:=by show val (fU (((av Ζ i (.ο k ds)).map υ).zip ((av Ζ i (.ο k ds)).map (·.2.1))))=_;rw [e];show val (cN (0,1) (aA (1,1) ds[j].2.1))=_;have t:Red (aA ((1,1):Fr) ds[j].2.1):=b_ (aa9 (aaE (by decide) p0));rw [A7 (by decide) t.pos,o8 (by decide) p0,v0,v1];grind
 unfold jT xo xc;rw [k9 hi,eg,gd,(nU fw rm dm hp).1];show _+val ε*aO (λd=>cV d*val (tb.getD d.1.toNat (0,1))) (av Ζ i (.ο k ds))=_;rw [e];show _+val ε*(cV (ds[j].1,ds[j].2.1,[((1,1):Fr)])*val (tb.getD ds[j].1.toNat (0,1))+0)=_;have:cV (ds[j].1,ds[j].2.1,[((1,1):Fr)])=1:=v1;rw [this];grind
theorem Ak{x:Nat->Rat}(h:Μ Ζ i=Μ bN i):jT ε (xo γ Ζ) (xc γ Ζ) x i=jT ε (xo γ bN) (xc γ bN) x i:=by
 have e:∀r,av Ζ i r=av bN i r:=λr=>by unfold av;rw [h]
 have e1:ME Ζ i (fH γ i)=ME bN i (fH γ i):=by
  cases fH γ i with
  |fin p=>rfl
  |ο k ds=>exact e _
 have e2:Ol Ζ i (fH γ i)=Ol bN i (fH γ i):=by
  cases fH γ i with
  |fin p=>rfl
  |ο k ds=>
   show fU (((av Ζ i (.ο k ds)).map υ).zip ((av Ζ i (.ο k ds)).map (·.2.1)))=fU (((av bN i (.ο k ds)).map υ).zip ((av bN i (.ο k ds)).map (·.2.1)));rw [e]
 unfold jT xo xc;rw [e1,e2]
theorem jF.jT(h:jF ε γ Ζ tb)(il:i<γ.length):jT ε (xo γ Ζ) (xc γ Ζ) (λx=>val (tb.getD x (0,1))) i=val (tb.getD i (0,1)):=(h.tab.eq i il).symm
end
structure iW(hand rival:Str):Prop where
 h1:χ hand=true
 h2:χ rival=true
 ne:hand≠rival
 two:∀z:Str,χ z=true->z=hand\/z=rival
 sg:jS rival= -jS hand
theorem gY{hand rival:Str}(h:hand="one"/\rival="other"\/hand="other"/\rival="one"):iW hand rival:=by
 refine ⟨?_,?_,?_,λz hz=>?_,?_⟩
 ·rcases h with ⟨rfl,rfl⟩|⟨rfl,rfl⟩ <;> decide
 ·rcases h with ⟨rfl,rfl⟩|⟨rfl,rfl⟩ <;> decide
 ·rcases h with ⟨rfl,rfl⟩|⟨rfl,rfl⟩ <;> decide
 ·unfold χ at hz;rw [aca,beq_iff_eq,beq_iff_eq] at hz;rcases h with ⟨rfl,rfl⟩|⟨rfl,rfl⟩
  ·exact hz
  ·exact hz.symm
 ·unfold jS;rcases h with ⟨rfl,rfl⟩|⟨rfl,rfl⟩
  ·rw [if_neg (by decide),if_pos rfl]
  ·rw [if_pos rfl,if_neg (by decide)];grind
theorem AY{k:Str}(h:χ k=true):∃r,iW k r/\iW r k:=by
 unfold χ at h;rw [aca,beq_iff_eq,beq_iff_eq] at h;rcases h with h|h
 ·exact ⟨"other",gY (.inl ⟨h,rfl⟩),gY (.inr ⟨rfl,h⟩)⟩
 ·exact ⟨"one",gY (.inr ⟨h,rfl⟩),gY (.inl ⟨rfl,h⟩)⟩
section
variable{ε:Fr}{γ:List Rw}{X C:Int}{Ζ bN:Pl}{tb tb':List Fr}{rival:Str}
def Dw(ε:Fr)(γ:List Rw)(tb:List Fr)(rival:Str)(Ζ bN:Pl)(i:Nat):Prop:=∃ds j j',γ[i]? =some (.ο rival ds)/\Μ Ζ i=some ((j:Nat):Int)/\Μ bN i=some ((j':Nat):Int)/\j<ds.length/\j∉bZ ε tb (.ο rival ds)/\j'∈bZ ε tb (.ο rival ds)
theorem yV(fw:FW ε γ X C){k:Str}{ds:List bI}(hm:Rw.ο k ds∈γ)(hp:∀t,t<γ.length->0<(tb.getD t (0,1)).2):Red (eh ε tb (.ο k ds))/\∀d∈ds,jS k*val (Ξ ε tb d)<=jS k*val (eh ε tb (.ο k ds)):=by have l1:=(eP fw.pl hm).l1;obtain ⟨m,al⟩:=vA (ε:=ε) (tb:=tb) (k:=k) (ds:=ds) (λz=>by rw [z] at l1;exact absurd l1 (by decide)) λd hd=>(nU fw hm hd hp).2.pos;refine ⟨?_,al⟩;obtain ⟨d,hd,e⟩:=aag.mp m;rw [<-e];exact (nU fw hm hd hp).2
theorem KA{k:Str}{a b:Rat}(h:jS k*a=jS k*b):a=b:=by unfold jS at h;split at h <;> grind
variable{hand:Str}
def Z6(ε:Fr)(γ:List Rw)(tb:List Fr)(hand rival:Str)(Ζ bN:Pl)(i:Nat):Prop:=Μ bN i=Μ Ζ i\/Dw ε γ tb hand Ζ bN i\/∃ds j j',γ[i]? =some (.ο rival ds)/\Μ Ζ i=some ((j:Nat):Int)/\Μ bN i=some ((j':Nat):Int)/\j'<ds.length/\j∈bZ ε tb (.ο rival ds)
theorem tE(fw:FW ε γ X C)(hs:iW hand rival)(MF:fS γ bN)(b1:1<=ie X C)(h:jF ε γ Ζ tb)(h':jF ε γ bN tb')(hd:∀i,i<γ.length->Z6 ε γ tb hand rival Ζ bN i):(∀i,i<γ.length->jS hand*val (tb.getD i (0,1))<=jS hand*val (tb'.getD i (0,1)))/\∀i,i<γ.length->Dw ε γ tb hand Ζ bN i->jS hand*val (tb.getD i (0,1))<jS hand*val (tb'.getD i (0,1)):=by
 have hp:∀t,t<γ.length->0<(tb.getD t (0,1)).2:=λt ht=>(h.tab.red t ht).pos;have chg:∀i,i<γ.length->Dw ε γ tb hand Ζ bN i->0<jS hand*(jT ε (xo γ bN) (xc γ bN) (λx=>val (tb.getD x (0,1))) i-val (tb.getD i (0,1))):=λi il ⟨ds,j,j',hi,g,g',jl,nb,b⟩=>by
  have rm:Rw.ο hand ds∈γ:=aam hi;obtain ⟨Np,e'⟩:=(kG hs.h1).mp b;obtain ⟨lr,al⟩:=yV (tb:=tb) fw rm hp;have gd:ds.getD j d0=ds[j]:=by rw [aab,aaa jl];rfl
  have dm:=aay jl;rw [nW fw hi hs.h1 g' Np hp,<-h.jT il,nW fw hi hs.h1 g jl hp,e',gd];have le:=al _ dm;have ne:val (Ξ ε tb ds[j])≠val (eh ε tb (.ο hand ds)):=λz=>nb ((kG hs.h1).mpr ⟨jl,by rw [gd];exact qU (nU fw rm dm hp).2 lr z⟩);have ne2:jS hand*val (Ξ ε tb ds[j])≠jS hand*val (eh ε tb (.ο hand ds)):=λz=>ne (KA z);grind
 have r0:∀i,i<γ.length->0<=jS hand*(jT ε (xo γ bN) (xc γ bN) (λx=>val (tb.getD x (0,1))) i-val (tb.getD i (0,1))):=λi il=>by
  rcases hd i il with e|e|⟨ds,j,j',hi,g,g',Np,b⟩
  ·rw [Ak e,h.jT il];grind
  ·exact Rat.le_of_lt (chg i il e)
  ·have rm:Rw.ο rival ds∈γ:=aam hi;obtain ⟨jl,e⟩:=(kG hs.h2).mp b;obtain ⟨lr,al⟩:=yV (tb:=tb) fw rm hp;have gd':ds.getD j' d0=ds[j']:=by rw [aab,aaa Np];rfl
   have le:=al _ (aay Np);rw [nW fw hi hs.h2 g' Np hp,<-h.jT il,nW fw hi hs.h2 g jl hp,e,gd'];rw [hs.sg] at le;grind
 have key:=Tab.cmp (fw.sys MF b1) h'.tab (x:=λx=>val (tb.getD x (0,1))) (sg:=jS hand) r0;refine ⟨λi il=>?_,λi il e=>?_⟩
 ·have:=key i il;have:=r0 i il;grind
 ·have:=key i il;have:=chg i il e;grind
theorem Gs(fw:FW ε γ X C)(hh:χ rival=true)(dk:fS γ Ζ)(MF:fS γ bN)(b1:1<=ie X C)(h:jF ε γ Ζ tb)(h':jF ε γ bN tb')(hd:∀i,i<γ.length->Μ bN i=Μ Ζ i\/Dw ε γ tb rival Ζ bN i):(∀i,i<γ.length->jS rival*val (tb.getD i (0,1))<=jS rival*val (tb'.getD i (0,1)))/\∀i,i<γ.length->Dw ε γ tb rival Ζ bN i->jS rival*val (tb.getD i (0,1))<jS rival*val (tb'.getD i (0,1)):=by obtain ⟨r,hs,_⟩:=AY hh;exact tE fw hs MF b1 h h' λi il=>(hd i il).elim .inl λc=> .inr (.inl c)
theorem C2(fw:FW ε γ X C)(hh:χ rival=true)(dk:fS γ Ζ)(MF:fS γ bN)(b1:1<=ie X C)(h:jF ε γ Ζ tb)(h':jF ε γ bN tb')(hd:∀i,i<γ.length->Μ bN i=Μ Ζ i\/Dw ε γ tb rival Ζ bN i){i:Nat}(il:i<γ.length)(hc:Dw ε γ tb rival Ζ bN i):Cv ε γ (jS rival) Ζ<Cv ε γ (jS rival) bN:=by
 obtain ⟨a,b⟩:=Gs fw hh dk MF b1 h h' hd;unfold Cv;refine wV (λj hj=>?_) il ?_
 ·rw [xH fw dk b1 h,xH fw MF b1 h'];exact a j hj
 ·rw [xH fw dk b1 h,xH fw MF b1 h'];exact b i il hc
theorem zu(fw:FW ε γ X C)(hh:χ rival=true)(MF:fS γ bN)(b1:1<=ie X C)(h:jF ε γ Ζ tb)(h':jF ε γ bN tb')(hd:∀i,i<γ.length->Μ bN i=Μ Ζ i\/∃ds j j',γ[i]? =some (.ο rival ds)/\Μ Ζ i=some ((j:Nat):Int)/\Μ bN i=some ((j':Nat):Int)/\j'<ds.length/\j∈bZ ε tb (.ο rival ds)):∀i,i<γ.length->jS rival*val (tb'.getD i (0,1))<=jS rival*val (tb.getD i (0,1)):=λi il=>by obtain ⟨r,_,hs⟩:=AY hh;have k:=(tE fw hs MF b1 h h' λi il=>(hd i il).elim .inl λc=> .inr (.inr c)).1 i il;rw [hs.sg];grind
end
theorem MK{p:Fr}{C:Int}(h:0<p.2)(a:ef p C):ab (val p)<=(C:Rat):=by
 have e:val p*(p.2:Rat)=p.1:=by
  have:=bb (show p.2≠0 by omega);unfold val;generalize (p.1:Rat)=x at *
  generalize (p.2:Rat)=y at *
  grind
 have p0:(0:Rat)<(p.2:Rat):=abo.mpr h;have a1:(p.1:Rat)<=(p.2:Rat)*(C:Rat):=by rw [<-aaG];exact aaY.mpr a.1
 have a2: -((p.2:Rat)*(C:Rat))<=(p.1:Rat):=by rw [<-aaG,<-Rat.intCast_neg];exact aaY.mpr a.2
 refine lO.mpr ⟨?_,?_⟩
 ·by_cases z: -(C:Rat)<=val p
  ·exact z
  ·have:=Rat.mul_pos (show 0< -(C:Rat)-val p by grind) p0;grind
 ·by_cases z:val p<=(C:Rat)
  ·exact z
  ·have:=Rat.mul_pos (show 0<val p-(C:Rat) by grind) p0;grind
theorem Nf{p:Fr}{C:Int}(h:0<p.2)(a:ab (val p)<=(C:Rat)):ef p C:=by
 have e:val p*(p.2:Rat)=p.1:=by
  have:=bb (show p.2≠0 by omega);unfold val;generalize (p.1:Rat)=x at *
  generalize (p.2:Rat)=y at *
  grind
 have p0:(0:Rat)<=(p.2:Rat):=aaY.mpr (aaj h);obtain ⟨a1,a2⟩:=lO.mp a;have b1:=abt a1 p0;have b2:=abt a2 p0;constructor
 ·apply aaY.mp;rw [Rat.intCast_mul];grind
 ·apply aaY.mp;rw [Rat.intCast_neg,Rat.intCast_mul];grind
theorem Sys.abs{ε:Fr}{n:Nat}{B:Int}{ws:Nat->List bI}{gv:Nat->Fr}{tb:List Fr}{c:Rat}(S:Sys ε n B ws gv)(h:Tab ε n ws gv tb)(s3:1<=1000*(1-val ε))(hg:∀i,i<n->ab (val (gv i))<=c):∀i,i<n->ab (val (tb.getD i (0,1)))<=1000*c:=λi hi=>by
 have s0:=S.s0;have s1:=S.s1
 have:=Ld (n:=n) (x:=λx=>val (tb.getD x (0,1))) (c:=c) s1 (λi hi m hm=>by
  obtain ⟨E,C,p,_⟩:=S.Hq i hi;have w:=lO.mp (Dp p.wo (by omega) hm);have a:=aaL w.1 s0;have b:=aaL w.2 s0;have g:=lO.mp (hg i hi);rw [h.eq i hi]
  refine lO.mpr ⟨?_,?_⟩ <;> grind) i hi
 have a0:=O1 (val (tb.getD i (0,1)));have:=aaL s3 a0;grind
structure PN(tb:List Fr)(n:Nat):Prop where
 len:tb.length=n
 red:∀t∈tb,Red t
 sz:∀t∈tb,t.2<2^1030/\t.1.natAbs<2^1150
theorem jF.ok{ε:Fr}{γ:List Rw}{Ζ:Pl}{tb:List Fr}{X C:Int}(fw:FW ε γ X C)(dk:fS γ Ζ)(b1:1<=ie X C)(h:jF ε γ Ζ tb):PN tb γ.length:=by
 have S:=fw.sys dk b1;obtain ⟨_,_,_,_,_,s3⟩:=fw.sh;have c1:=fw.c1;have ln:=h.tab.len;have g:∀t∈tb,∃i,i<γ.length/\tb.getD i (0,1)=t:=λt ht=>by obtain ⟨i,hi,e⟩:=aa0 ht;exact ⟨i,by omega,by rw [aab,aaa hi,e];rfl⟩
 have ab:=S.abs h.tab s3 (c:=((6*C:Int):Rat)) λi hi=>by obtain ⟨E,p,_⟩:=fw.Hq dk (rw_at hi);exact MK p.gn.red.pos p.gn.ab
 refine ⟨ln,λt ht=>?_,λt ht=>?_⟩
 ·obtain ⟨i,hi,e⟩:=g t ht;rw [<-e];exact h.tab.red i hi
 ·obtain ⟨i,hi,e⟩:=g t ht;have r:=h.tab.red i hi;have b:=h.bot i hi;have a:=ab i hi;rw [e] at r b a;have r0:=r.pos;have a:Pg.ab (val t)<=((1000*(6*C):Int):Rat):=by rw [aaG];exact a
  obtain ⟨v1,v2⟩:=Nf r0 a;refine ⟨b,?_⟩;have m:t.2*(1000*(6*C))<=2^1030*(1000*(6*10^30)):=abr (aaj b) (by omega) (by have:=fw.c9;omega) (by decide);have:(t.1.natAbs:Int)<((2^1150:Nat):Int):=aaB (show _<=(2:Int)^1030*(1000*(6*10^30)) by omega) (by decide);exact abE.mp this
def u_(hand:Str)(pl:Pl):Str->Option Pl:=λz=>if z=hand then some pl else none
abbrev cn(γ:List Rw)(hand:Str)(pl:Pl):Pl:=de γ (u_ hand pl) γ.length
def eE(γ:List Rw)(rival:Str):List (Int×Nat):=(gU γ rival).map λi:Nat=>((i:Int),(Η (fH γ i)).length)
theorem EV{γ:List Rw}:∀{l:List Nat},(∀i∈l,1<=(Η (fH γ i)).length)->ak (l.map λi:Nat=>((i:Int),(Η (fH γ i)).length)) (l.map λi:Nat=>((i:Int),(0:Int)))
 |[],_=>trivial
 |i::l,h=>⟨rfl,Int.le_refl _,by have:=h i aae;omega,EV λj hj=>h j (aad _ hj)⟩
section
variable{ε:Fr}{γ:List Rw}{X C:Int}{tb:List Fr}{hand rival:Str}{pl p:Pl}{i:Nat}
theorem i0:i∈gU γ rival↔i<γ.length/\dh γ i=rival:=by unfold gU;rw [List.mem_filter,aaT,decide_eq_true_iff]
theorem Ap(fw:FW ε γ X C)(hh:χ rival=true)(h:i∈gU γ rival):∃ds,γ[i]? =some (.ο rival ds)/\Η (fH γ i)=ds/\1<=ds.length:=by
 obtain ⟨il,e⟩:=i0.mp h;have hi:γ[i]? =some γ[i]:=aaa il;unfold dh at e;rw [hi] at e;have e:kindOf γ[i]=rival:=e;cases hr:γ[i] with
 |fin p=>
  rw [hr] at e;rw [<-e] at hh;exact absurd hh (by show¬χ (Str.ofString "end")=true;decide)
 |ο k ds=>
  rw [hr] at e hi;have e:k=rival:=e;subst e;exact ⟨ds,hi,by rw [k9 hi];rfl,(eP fw.pl (aam hi)).l1⟩
theorem tH(fw:FW ε γ X C)(hh:χ rival=true):ak (eE γ rival) (pO γ rival):=EV λi hi=>by obtain ⟨ds,_,e,l⟩:=Ap fw hh hi;rw [e];exact l
theorem gh:(eE γ rival).map (·.1)=(gU γ rival).map λi:Nat=>(i:Int):=by unfold eE;rw [List.map_map];rfl
theorem bt(h:ak (eE γ rival) p):BI p:=by unfold BI;rw [bG h,gh];have nd:(gU γ rival).Nodup:=List.nodup_range.filter _;exact List.Pairwise.map _ (λa b Wl z=>Wl (by have z:(a:Int)=(b:Int):=z;omega)) nd
theorem cz(fw:FW ε γ X C)(hh:χ rival=true)(h:ak (eE γ rival) p):(∀ds,γ[i]? =some (.ο rival ds)->∃j:Nat,Μ p i=some (j:Int)/\j<ds.length)/\(∀r,γ[i]? =some r->kindOf r≠rival->Μ p i=none):=by
 refine ⟨λds hi=>?_,λr hi hk=>?_⟩
 ·have il:=(aaf.mp hi).1;have m:i∈gU γ rival:=i0.mpr ⟨il,by unfold dh;rw [hi];rfl⟩;have s:=oq (i:=(i:Int)) (p:=p) (by rw [bG h,gh];exact aag.mpr ⟨i,m,rfl⟩);obtain ⟨v,hv⟩:=abu.mp s;obtain ⟨c,hc,v0,v1⟩:=A3 h hv;unfold eE at hc;obtain ⟨i',_,e⟩:=aag.mp hc;have e1:(i':Int)=(i:Int):=congrArg Prod.fst e;have e2:(Η (fH γ i')).length=c:=congrArg Prod.snd e;have:i'=i:=by omega
  subst this;rw [k9 hi] at e2;have e2:ds.length=c:=e2;exact ⟨v.toNat,by rw [hv,abZ v0],by omega⟩
 ·refine nJ λz=>?_;rw [bG h,gh] at z;obtain ⟨i',m,e⟩:=aag.mp z;have:i'=i:=by have e:(i':Int)=(i:Int):=e;omega
  subst this;have:=(i0.mp m).2;unfold dh at this;rw [hi] at this;exact hk this
theorem Rn(fw:FW ε γ X C)(h1:χ hand=true)(h2:χ rival=true)(lI:hand≠rival)(two:∀k:Str,χ k=true->k=hand\/k=rival)(gd:∀i,i<γ.length->fT γ (u_ hand pl) i=true)(h:ak (eE γ rival) p):fS γ (bj (cn γ hand pl) p):=by
 have PD:∀(i:Nat) (r:Rw),γ[i]? =some r->kindOf r≠hand->Μ (cn γ hand pl) i=none:=λi r hi hk=>by have il:=(aaf.mp hi).1;rw [jC,if_pos il,hi];show Option.map _ (u_ hand pl (kindOf r))=none;unfold u_;rw [if_neg hk];rfl
 refine ⟨λi r hi hk=>?_,λi r hi hk=>?_⟩
 ·rw [eI (bt h)];rcases two _ hk with e|e
  ·have il:=(aaf.mp hi).1;rw [(cz (i:=i) fw h2 h).2 r hi (λz=>lI (e.symm.trans z))];dsimp only;have g:=gd i il;unfold fT at g;rw [hi] at g;have g:jP (u_ hand pl) i r=true:=g;have ep:u_ hand pl (kindOf r)=some pl:=by unfold u_;rw [if_pos e]
   unfold jP at g;rw [ep] at g;have g:dU pl i (Η r).length=true:=g;rw [jC,if_pos il,hi];show∃j:Nat,Option.map (λpl=>(Μ pl i).getD 0) (u_ hand pl (kindOf r))=some (j:Int)/\_;rw [ep];unfold dU at g;cases hv:Μ pl i with
   |none=>rw [hv] at g;cases g
   |some v=>
    rw [hv] at g;have g:(decide (0<=v)&&decide (v<((Η r).length:Int)))=true:=g;rw [aao,decide_eq_true_iff,decide_eq_true_iff] at g;refine ⟨v.toNat,?_,by omega⟩;show some ((Μ pl i).getD 0)=_;rw [hv,abZ g.1];rfl
  ·cases r with
   |fin q=>exact absurd hk (by show¬χ (Str.ofString "end")=true;decide)
   |ο k ds=>
    have e:k=rival:=e;subst e;obtain ⟨j,gj,jl⟩:=(cz (i:=i) fw h2 h).1 ds hi;rw [gj];exact ⟨j,rfl,jl⟩
 ·rw [eI (bt h),(cz (i:=i) fw h2 h).2 r hi (λz=>by rw [z,h2] at hk;cases hk)];exact PD i r hi λz=>by rw [z,h1] at hk;cases hk
end
section
variable{ε:Fr}{γ:List Rw}{X C:Int}{tb:List Fr}{hand rival:Str}{pl p:Pl}{i:Nat}
theorem tY:∀pl:Pl,((Α ε γ tb pl).map (·.1)).Sublist (pl.map (·.1))
 |[]=>List.Sublist.refl _
 |a::r=>by
  have ih:=tY r;have e:Α ε γ tb (a::r)=pB ε γ tb a++Α ε γ tb r:=by unfold Α;rw [List.flatMap_cons]
  rw [e,aaX,aaA];unfold pB;split
  ·exact List.Sublist.cons _ ih
  ·exact List.Sublist.cons₂ _ ih
theorem pP(h:BI pl):BI (Α ε γ tb pl):=(tY pl).nodup h
theorem g8{i:Int}:∀{pl:Pl},BI pl->Μ (Α ε γ tb pl) i=(match Μ pl i with
 |some v=>if Ba (fq ε γ tb i) v then none else some (((fq ε γ tb i).headD 0:Nat):Int)
 |none=>none)
 |[],_=>rfl
 |a::r,nd=>by
  unfold BI at nd;rw [aaA,aby] at nd;have ih:=g8 (i:=i) (pl:=r) nd.2;have e:Α ε γ tb (a::r)=pB ε γ tb a++Α ε γ tb r:=by unfold Α;rw [List.flatMap_cons]
  rw [e];by_cases ei:a.1=i
  ·have e2:Μ (a::r) i=some a.2:=by unfold Μ;rw [if_pos ei]
   have hn:Μ (Α ε γ tb r) i=none:=nJ λz=>nd.1 (by rw [ei];exact fJ z);rw [e2];dsimp only;unfold pB;rw [ei];by_cases c:Ba (fq ε γ tb i) a.2=true
   ·rw [if_pos c,if_pos c,aaF,hn]
   ·rw [if_neg c,if_neg c];show Μ ((i,(((fq ε γ tb i).headD 0:Nat):Int))::Α ε γ tb r) i=_;unfold Μ;rw [if_pos rfl]
  ·have e2:Μ (a::r) i=Μ r i:=by rw [Μ,if_neg ei]
   rw [e2,<-ih];unfold pB;split
   ·rfl
   ·show Μ ((a.1,_)::Α ε γ tb r) i=_;rw [Μ,if_neg ei]
theorem zy{kc:List (Int×Nat)}:∀(q s:Pl),ak kc s->(∀e∈q,e.1∈kc.map (·.1)/\∀c,(e.1,c)∈kc->0<=e.2/\e.2<(c:Int))->ak kc (bj s q)
 |[],s,h,_=>h
 |e::q,s,h,hq=>by obtain ⟨a,b⟩:=hq e aae;exact zy q (iI s e.1 e.2) (HH h a b) λx hx=>hq x (aad _ hx)
theorem iO(fw:FW ε γ X C)(hh:χ rival=true)(h:ak (eE γ rival) p)(hp:∀t,t<γ.length->0<(tb.getD t (0,1)).2)(hm:i∈gU γ rival):∃ds j,γ[i]? =some (.ο rival ds)/\Η (fH γ i)=ds/\Μ p i=some ((j:Nat):Int)/\j<ds.length/\fq ε γ tb i=bZ ε tb (.ο rival ds)/\bZ ε tb (.ο rival ds)≠[]/\(bZ ε tb (.ο rival ds)).headD 0∈bZ ε tb (.ο rival ds):=by obtain ⟨ds,hi,ed,l1⟩:=Ap fw hh hm;obtain ⟨j,gj,jl⟩:=(cz (i:=i) fw hh h).1 ds hi;have rm:Rw.ο rival ds∈γ:=aam hi;have ne:bZ ε tb (.ο rival ds)≠[]:=L8 hh (λz=>by rw [z] at l1;exact absurd l1 (by decide)) λd hd=>(nU fw rm hd hp).2.pos;refine ⟨ds,j,hi,ed,gj,jl,by unfold fq;rw [Int.toNat_natCast,hi],ne,?_⟩;obtain ⟨b,bs,e⟩:=aa7 ne;rw [e];exact aae
theorem fP(fw:FW ε γ X C)(hh:χ rival=true)(h:ak (eE γ rival) p)(hp:∀t,t<γ.length->0<(tb.getD t (0,1)).2):ak (eE γ rival) (bj p (Α ε γ tb p)):=by
 refine zy _ _ h λe he=>?_;have ke:e.1∈p.map (·.1):=fJ (aag.mpr ⟨e,he,rfl⟩);have kk:=ke;rw [bG h] at kk;rw [bG h,gh] at ke;obtain ⟨i,hm,ei⟩:=aag.mp ke;obtain ⟨ds,j,hi,ed,gj,jl,eb,ne,hd⟩:=iO fw hh h hp hm;refine ⟨kk,λc hc=>?_⟩;have c1:c=ds.length:=by
  unfold eE at hc;obtain ⟨i',_,e'⟩:=aag.mp hc;have e1:(i':Int)=e.1:=congrArg Prod.fst e';have e2:(Η (fH γ i')).length=c:=congrArg Prod.snd e';have:i'=i:=by have ei:(i:Int)=e.1:=ei;omega
  subst this;rw [<-e2,ed]
 have gb:=g8 (ε:=ε) (γ:=γ) (tb:=tb) (i:=e.1) (bt h);have nb:=pP (ε:=ε) (γ:=γ) (tb:=tb) (bt h);have ge:Μ (Α ε γ tb p) e.1=some e.2:=by
  have:∀{l:Pl},BI l->e∈l->Μ l e.1=some e.2:=λ{l}=>by
   induction l with
   |nil=>intro _ z;cases z
   |cons a l ih=>
    intro nl hm;unfold BI at nl;rw [aaA,aby] at nl;unfold Μ;rcases aaC.mp hm with y|y
    ·rw [if_pos (by rw [y]),y]
    ·rw [if_neg λz=>nl.1 (by rw [z];exact aag.mpr ⟨e,y,rfl⟩)];exact ih nl.2 y
  exact this nb he
 have ei:e.1=(i:Int):=ei.symm;rw [ge,ei,gj,eb] at gb;dsimp only at gb;split at gb
 ·cases gb
 ·have gb:=aav gb;have:=((kG hh).mp hd).1;omega
theorem u7(fw:FW ε γ X C)(hh:χ rival=true)(h:ak (eE γ rival) p)(hp:∀t,t<γ.length->0<(tb.getD t (0,1)).2)(hb:Pl):∀i,i<γ.length->Μ (bj hb (bj p (Α ε γ tb p))) i=Μ (bj hb p) i\/Dw ε γ tb rival (bj hb p) (bj hb (bj p (Α ε γ tb p))) i:=λi il=>by
 have h':=fP (tb:=tb) fw hh h hp;have gb:=g8 (ε:=ε) (γ:=γ) (tb:=tb) (i:=(i:Int)) (bt h);have g1:=eI (i:=(i:Int)) (p:=p) (pP (ε:=ε) (γ:=γ) (tb:=tb) (bt h));have g2:=eI (i:=(i:Int)) (p:=hb) (bt h');have g3:=eI (i:=(i:Int)) (p:=hb) (bt h);by_cases hm:i∈gU γ rival
 ·obtain ⟨ds,j,hi,ed,gj,jl,eb,ne,hd⟩:=iO fw hh h hp hm;rw [gj,eb] at gb;dsimp only at gb;by_cases c:Ba (bZ ε tb (.ο rival ds)) (j:Int)=true
  ·rw [if_pos c] at gb;rw [gb] at g1;left;rw [g2,g3,g1]
  ·rw [if_neg c] at gb;rw [gb] at g1;right;refine ⟨ds,j,_,hi,by rw [g3,gj],by rw [g2,g1],jl,λz=>c (wz.mpr ⟨j,z,rfl⟩),hd⟩
 ·have hi:γ[i]? =some γ[i]:=aaa il;have gn:=(cz (i:=i) fw hh h).2 γ[i] hi λz=>hm (i0.mpr ⟨il,by unfold dh;rw [hi];exact z⟩);rw [gn] at gb;have gb:Μ (Α ε γ tb p) i=none:=gb;rw [gb] at g1;left;rw [g2,g3,g1]
theorem qj(fw:FW ε γ X C)(hh:χ rival=true)(h:ak (eE γ rival) p)(hp:∀t,t<γ.length->0<(tb.getD t (0,1)).2)(hb:Pl)(ne:Α ε γ tb p≠[]):∃i,i<γ.length/\Dw ε γ tb rival (bj hb p) (bj hb (bj p (Α ε γ tb p))) i:=by
 obtain ⟨e,r,er⟩:=aa7 ne;have he:e∈Α ε γ tb p:=by rw [er];exact aae
 have ke:e.1∈p.map (·.1):=fJ (aag.mpr ⟨e,he,rfl⟩);rw [bG h,gh] at ke;obtain ⟨i,hm,ei⟩:=aag.mp ke;have ei:(i:Int)=e.1:=ei;have il:=(i0.mp hm).1;refine ⟨i,il,?_⟩;have h':=fP (tb:=tb) fw hh h hp;obtain ⟨ds,j,hi,ed,gj,jl,eb,ne',hd⟩:=iO fw hh h hp hm;have gb:=g8 (ε:=ε) (γ:=γ) (tb:=tb) (i:=(i:Int)) (bt h);have s:(Μ (Α ε γ tb p) (i:Int)).isSome=true:=oq (aag.mpr ⟨e,he,ei.symm⟩);rw [gj,eb] at gb;dsimp only at gb;by_cases c:Ba (bZ ε tb (.ο rival ds)) (j:Int)=true
 ·rw [if_pos c] at gb;rw [gb] at s;cases s
 ·rw [if_neg c] at gb;have g1:=eI (i:=(i:Int)) (p:=p) (pP (ε:=ε) (γ:=γ) (tb:=tb) (bt h));rw [gb] at g1;refine ⟨ds,j,_,hi,by rw [eI (bt h),gj],by rw [eI (bt h'),g1],jl,λz=>c (wz.mpr ⟨j,z,rfl⟩),hd⟩
theorem tT(fw:FW ε γ X C)(hh:χ rival=true)(h:ak (eE γ rival) p)(hp:∀t,t<γ.length->0<(tb.getD t (0,1)).2)(e:Α ε γ tb p=[]){ds:List bI}{j:Nat}(hi:γ[i]? =some (.ο rival ds))(gj:Μ p i=some (j:Int)):j∈bZ ε tb (.ο rival ds):=by
 have il:=(aaf.mp hi).1;have hm:i∈gU γ rival:=i0.mpr ⟨il,by unfold dh;rw [hi];rfl⟩;obtain ⟨mS,j',DJ,_,Vt,_,eb,_,_⟩:=iO (tb:=tb) fw hh h hp hm;rw [hi] at DJ;cases DJ;have gb:=g8 (ε:=ε) (γ:=γ) (tb:=tb) (i:=(i:Int)) (bt h);rw [e,gj,eb] at gb;dsimp only at gb;split at gb
 ·rename_i c;obtain ⟨b,hb,y⟩:=wz.mp c;have:b=j:=by omega
  rw [<-this];exact hb
 ·cases gb
end
theorem jF.Xv{ε:Fr}{γ:List Rw}{Ζ:Pl}{tb:List Fr}{X C:Int}(fw:FW ε γ X C)(dk:fS γ Ζ)(b1:1<=ie X C)(h:jF ε γ Ζ tb):KJ ε γ tb:=by
 have ok:=h.ok fw dk b1;refine ⟨fw.pl.sh,fw.pl.len,fw.pl.row,ok.len,λt ht=>⟨(ok.sz t ht).2,(ok.red t ht).pos,?_⟩⟩;have:(t.2.natAbs:Int)<((2^1150:Nat):Int):=by rw [aa8 (aaj (ok.red t ht).pos)];exact ab3 (ok.sz t ht).1 (by decide)
 exact abE.mp this
theorem LC{M:Ms}{k:Nat}{hand:Str}{pl:Pl}(h:M[k]? =some (dP pl)):Rv (M++[.fF [Sum.inr hand] [.loc k]]) M.length (u_ hand pl):=by
 refine ⟨_,_,aZ,λz=>⟨?_,λq e=>?_⟩⟩
 ·unfold u_;show (decide ((Sum.inr hand:Key)=Sum.inr z) || false)=_;rw [Bool.or_false];by_cases y:z=hand
  ·rw [if_pos y,decide_eq_true (by rw [y])];rfl
  ·rw [if_neg y,decide_eq_false λx=>y (Sum.inr.inj x).symm];rfl
 ·unfold u_ at e;split at e
  ·rename_i y;cases e;subst y;refine ⟨k,?_,dc h⟩;show ((List.zip [Sum.inr z] [Dt.loc k]).find? _).map _=_;simp [List.zip]
  ·cases e
theorem K9{n:Nat}:∀tb:List Fr,Dt.bC n (tb.map Τ)
 |[]=>trivial
 |t::tb=>⟨kq t,K9 tb⟩
theorem IE{S:Ms}{q:DQ}{m:MO}{tb:List Fr}(h:q (.lst (tb.map Τ)) S):tV S q (.loc (S.length+1)) (S++[m,.lst (tb.map Τ)]):=
 iG (d':= .lst (tb.map Τ)) (.Aa (Nat.le_succ _) (by rw [abg];rfl) (gI.old (K9 tb))) h
def qZ(A:Addr):DF:=λas M q _=>∃(ε:Fr) (γ:List Rw) (hand rival:Str) (k:Nat) (pl:Pl) (X C:Int),as=[au A ε γ,.str hand,.loc k]/\M[k]? =some (dP pl)/\(hand="one"/\rival="other"\/hand="other"/\rival="one")/\FW ε γ X C/\ie X C<=2^450/\(12*ie X C)^γ.length<2^1030/\1<=ie X C/\(∀i,i<γ.length->fT γ (u_ hand pl) i=true)/\∀(p:Pl) (tb:List Fr) (E':Ms),ak (eE γ rival) p->jF ε γ (bj (cn γ hand pl) p) tb->Α ε γ tb p=[]->q (.tup [.loc (M.length+2),.lst (tb.map Τ)]) (M++[.fF [Sum.inr hand] [.loc k],dP (cn γ hand pl),dP p]++E')
theorem fj:Δ ["floor","hand","plan","held","answer","table","better"] ["floor","hand","plan"] (τ rj):= .of rfl
theorem BV{f:Addr}{fd:FuncData}(F:cJ K "against" "against" rj f fd)(E:Ev K mg w Cm){Jc:Addr}{JZ:FuncData}(pb:aw P w K mg base 4 "doors_of" ["floor","plans"] (A2 Cm) Jc JZ){my:Addr}{mB:FuncData}(d7:aw P w K mg base 3 "first_plan" ["floor","hand"] (x9 Cm) my mB){tD:Addr}{tK:FuncData}(dE:aw P w K mg base 8 "worths_against" ["floor","held","answer"] (S9 Cm) tD tK){jJ:Addr}{jr:FuncData}(bQ:aw P w K mg base 8 "better_doors" ["floor","plan","table"] (xV Cm) jJ jr):ah P w K mg base (bU P w) 9 f fd ["floor","hand","plan"] (cC K (qZ Cm)):=by
 refine F.df fj (λds M q x h=>?_) (λaT A outer s H E' hr=>⟨_,(η (Γ 3 fj.nd (ag pb hr ξ (Υ (jv 0) (ι (IB (jv 1) (jv 2)) θ))))
   (η (Γ 4 fj.nd (ag d7 hr ξ (Υ (jv 0) (ι (Og E.iA (jv 1)) θ (hs:=aV)))))
   (η (Γ 5 fj.nd (b9 (ag dE hr ξ (Υ (jv 0) (Υ (jv 3) (Υ (jv 4) θ))))))
   (η (Γ 6 fj.nd (ag bQ hr ξ (Υ (jv 0) (Υ (jv 4) (Υ (jv 5) θ)))))
   (η (nE (ES (Jl E.bX (Υ (jv 6) θ)) ω) (η (eW (CQ (jv 4) (jv 6)))
   (η (Γ 5 fj.nd (b9 (ag dE hr ξ (Υ (jv 0) (Υ (jv 3) (Υ (jv 4) θ))))))
   (μ (Γ 6 fj.nd (ag bQ hr ξ (Υ (jv 0) (Υ (jv 4) (Υ (jv 5) θ)))))))))
   (μ (Ε (c7 (Υ (jv 4) (Υ (jv 5) θ)))))))))),λds M q x h=>?_⟩)
 ·obtain ⟨ε,γ,hand,rival,k,pl,X,C,rfl,_⟩:=h;rfl
 ·obtain ⟨ε,γ,hand,rival,k,pl,X,C,rfl,hk,fW,fw,i_,lA,b1,gd,h⟩:=h;have pk:=fw.pl.len;have lk:List.lookup hand [(Str.ofString "one",Str.ofString "other"),(Str.ofString "other",Str.ofString "one"),(Str.ofString "chance",Str.ofString "chance")]=some rival:=by rcases fW with ⟨rfl,rfl⟩|⟨rfl,rfl⟩ <;> decide
  have h1:χ hand=true:=by rcases fW with ⟨rfl,rfl⟩|⟨rfl,rfl⟩ <;> decide
  have h2:χ rival=true:=by rcases fW with ⟨rfl,rfl⟩|⟨rfl,rfl⟩ <;> decide
  have lI:hand≠rival:=by rcases fW with ⟨rfl,rfl⟩|⟨rfl,rfl⟩ <;> decide
  have two:∀z:Str,χ z=true->z=hand\/z=rival:=λz hz=>by
   unfold χ at hz;rw [aca,beq_iff_eq,beq_iff_eq] at hz;rcases fW with ⟨rfl,rfl⟩|⟨rfl,rfl⟩
   ·exact hz
   ·exact hz.symm
  have OS:∀{p},ak (eE γ rival) p->fS γ (bj (cn γ hand pl) p):=λhp=>Rn fw h1 h2 lI two gd hp;have EW:∀{p},ak (eE γ rival) p->p.length<=12:=λ{p} hp=>by have:=congrArg List.length (bG hp);rw [aac,gh,aac] at this;have l:=List.length_filter_le (λi=>decide (dh γ i=rival)) (List.range γ.length);rw [aaN] at l;have l:(gU γ rival).length<=γ.length:=l;omega
  have hlen:(cn γ hand pl).length<=12:=aap (wK γ _ _) pk;walk_at "vc";dsimp only [Kz,Tw];walk_at "vc";refine ⟨Sum.inr hand,rfl,?_⟩;refine ⟨ε,γ,M.length,u_ hand pl,rfl,LC hk,fw.pl,gd,?_⟩;refine ⟨hand,rival,rfl,lk,?_⟩;refine ⟨ε,γ,rival,rfl,pk,?_⟩;obtain ⟨Hw,hd0⟩:∃d:MO,d=MO.fF [Sum.inr hand] [Dt.loc k]:=⟨_,rfl⟩;rw [<-hd0] at h⊢;dsimp only [cn] at h OS hlen;generalize aak:de γ (u_ hand pl) γ.length=held at *
  have B3:∀p:Pl,M++[Hw]++[dP held]++[dP p]=M++[Hw,dP held,dP p]:=λp=>by simp
  have kh1:(M++[Hw]).length=M.length+1:=by simp
  have ka1:(M++[Hw]++[dP held]).length=M.length+2:=by simp
  rw [kh1,ka1,B3];have atH:∀(p:Pl) (E:Ms),(M++[Hw,dP held,dP p]++E)[M.length+1]? =some (dP held):=λp E=>dc (by rw [aan (by omega),show M.length+1-M.length=1 by omega];rfl);have RM:∀(p:Pl) (E:Ms),(M++[Hw,dP held,dP p]++E)[M.length+2]? =some (dP p):=λp E=>dc (by rw [aan (by omega),show M.length+2-M.length=2 by omega];rfl);have f0:=tH fw h2;generalize pO γ rival=p0 at *
  have gp:∀{p:Pl} {tb:List Fr},jF ε γ (bj held p) tb->∀t,t<γ.length->0<(tb.getD t (0,1)).2:=λwt t ht=>(wt.tab.red t ht).pos;have ZD:∀{p:Pl} {tb:List Fr},ak (eE γ rival) p->jF ε γ (bj held p) tb->∀e∈p,0<=e.1/\∃r,γ[e.1.toNat]? =some r/\χ (kindOf r)=true/\bZ ε tb r≠[]:=λ{p tb} hp wt e he=>by have ke:e.1∈p.map (·.1):=aag.mpr ⟨e,he,rfl⟩;rw [bG hp,gh] at ke;obtain ⟨i,hm,ei⟩:=aag.mp ke;have ei:(i:Int)=e.1:=ei;obtain ⟨ds,j,hi,_,_,_,_,ne,_⟩:=iO fw h2 hp (gp wt) hm;exact ⟨by omega, .ο rival ds,by rw [<-ei,abx];exact hi,h2,ne⟩
  have e0:M++[Hw,dP held,dP p0]=M++[Hw,dP held,dP p0]++[]:=(aaZ _).symm;rw [e0];refine ⟨ε,γ,M.length+1,M.length+2,held,p0,X,C,rfl,atH p0 [],RM p0 [],by have:=EW f0;omega,OS f0,fw,i_,lA,λXp Xg=>IE ?_⟩;refine ⟨ε,γ,Xp,M.length+2,p0,rfl,RM p0 [],Xg.Xv fw (OS f0) b1,bt f0,EW f0,ZD f0 Xg,?_⟩;have V0:∀(p p':Pl) (E:Ms),(M++[Hw,dP held,dP p]++E).set (M.length+2) (dP p')=M++[Hw,dP held,dP p']++E:=λp p' E=>by rw [aaJ,aaJ,abR (h:=by omega),show M.length+2-M.length=2 by omega];rfl
  have l3:∀(p:Pl) (E:Ms),M.length+3<=(M++[Hw,dP held,dP p]++E).length:=λp E=>by rw [aah,aah];show M.length+3<=M.length+3+E.length;omega
  have WU:∀{p:Pl} {tb:List Fr},ak (eE γ rival) p->(Α ε γ tb p).length<=12:=λhp=>aap (jx _) (EW hp);refine ⟨λm ρ' M'=>∃(p:Pl) (tb:List Fr) (E1:Ms) (kb:Nat),ak (eE γ rival) p/\jF ε γ (bj held p) tb/\above ε γ (jS rival) (bj held) (eE γ rival) p=m/\M'=M++[Hw,dP held,dP p]++E1/\M'[kb]? =some (dP (Α ε γ tb p))/\M.length+3<=kb/\ρ'=[some (au Cm ε γ),some (.str hand),some (.loc k),some (.loc (M.length+1)),some (.loc (M.length+2)),some (.lst (tb.map Τ)),some (.loc kb)],⟨_,p0,Xp,[dP (Α ε γ Xp p0)],_,f0,Xg,rfl,by rw [aaZ],aZ,l3 p0 [],rfl⟩,λm ρ' M' hw=>?_⟩;obtain ⟨p,tb,E1,kb,fp,wt,hm,rfl,UA,kb3,rfl⟩:=hw;walk_at "vc";refine ⟨kb,_,_,rfl,UA,?_⟩;have kl:(kP (Α ε γ tb p)).length=(Α ε γ tb p).length:=by unfold kP;rw [List.length_map]
  rw [kl];refine ⟨λz=>⟨_,λρ2 M2 hn=>hn,?_⟩,λz=>?_⟩
  ·have z:(0:Int)<((Α ε γ tb p).length:Int):=of_decide_eq_true z;have ne:Α ε γ tb p≠[]:=λy=>by rw [y] at z;exact absurd z (by decide)
   have uA:=fP (tb:=tb) fw h2 fp (gp wt);have hd:=u7 fw h2 fp (gp wt) held;obtain ⟨i,il,hc⟩:=qj fw h2 fp (gp wt) held ne;dsimp only [J8,DY];walk_at "vc";refine ⟨⟨M.length+2,_,_,rfl,RM p E1⟩,M.length+2,kb,_,_,_,_,rfl,rfl,by omega,RM p E1,UA,by rw [kl];have:=EW fp;have:=WU (tb:=tb) fp;unfold kP;rw [List.length_map];omega,?_⟩;rw [DR,D5,V0];generalize bj p (Α ε γ tb p)=p' at *
   refine ⟨ε,γ,M.length+1,M.length+2,held,p',X,C,rfl,atH p' E1,RM p' E1,by have:=EW uA;omega,OS uA,fw,i_,lA,λtb' Ll=>IE ?_⟩;refine ⟨ε,γ,tb',M.length+2,p',rfl,RM p' E1,Ll.Xv fw (OS uA) b1,bt uA,EW uA,ZD uA Ll,?_⟩;refine ⟨_,?_,p',tb',E1++[dP (Α ε γ tb' p')],_,uA,Ll,rfl,by rw [<-aaJ],aZ,l3 p' E1,rfl⟩;rw [<-hm];exact Kh uA (C2 fw h2 (OS fp) (OS uA) b1 wt Ll hd il hc)
  ·have z:¬(0:Int)<((Α ε γ tb p).length:Int):=of_decide_eq_false z;have e:Α ε γ tb p=[]:=List.length_eq_zero_iff.mp (by omega);exact ⟨by show 2<=sizeLine;decide,h p tb E1 fp wt e⟩
section
variable{ε:Fr}{γ:List Rw}{X C:Int}{Ζ bN:Pl}{tb tb':List Fr}{hand rival:Str}{p pa p' Ta:Pl}{i:Nat}
theorem jA(fw:FW ε γ X C)(hs:iW hand rival)(fp:ak (eE γ hand) p)(fa:ak (eE γ rival) pa){r:Rw}(hi:γ[i]? =some r):(kindOf r=hand->Μ (bj (cn γ hand p) pa) i=Μ p i)/\(kindOf r=rival->Μ (bj (cn γ hand p) pa) i=Μ pa i)/\(χ (kindOf r)=false->Μ (bj (cn γ hand p) pa) i=none):=by
 have il:=(aaf.mp hi).1;have g:=eI (i:=(i:Int)) (p:=cn γ hand p) (bt fa);have hh:Μ (cn γ hand p) i=((u_ hand p (kindOf r)).map λpl=>(Μ pl i).getD 0):=by rw [jC,if_pos il,hi];rfl
 refine ⟨λe=>?_,λe=>?_,λe=>?_⟩
 ·rw [g,(cz (i:=i) fw hs.h2 fa).2 r hi λz=>hs.ne (e.symm.trans z)];show Μ (cn γ hand p) i=_;rw [hh];cases r with
  |fin q=>exact absurd (show χ (Str.ofString "end")=true by rw [<-hs.h1,<-e];rfl) (by decide)
  |ο k ds=>
   have e:k=hand:=e;subst e;obtain ⟨j,gj,_⟩:=(cz (i:=i) fw hs.h1 fp).1 ds hi;have:u_ k p (kindOf (.ο k ds))=some p:=if_pos rfl;rw [this];show some ((Μ p i).getD 0)=Μ p i;rw [gj];rfl
 ·cases r with
  |fin q=>exact absurd (show χ (Str.ofString "end")=true by rw [<-hs.h2,<-e];rfl) (by decide)
  |ο k ds=>
   have e:k=rival:=e;subst e;obtain ⟨j,gj,_⟩:=(cz (i:=i) fw hs.h2 fa).1 ds hi;rw [g,gj]
 ·rw [g,(cz (i:=i) fw hs.h2 fa).2 r hi (λz=>by rw [z,hs.h2] at e;cases e)];show Μ (cn γ hand p) i=_;rw [hh];have:u_ hand p (kindOf r)=none:=if_neg λz=>by rw [z,hs.h1] at e;cases e
  rw [this];rfl
def FO(ε:Fr)(γ:List Rw)(hand rival:Str)(p pa:Pl)(tb:List Fr):Prop:=ak (eE γ rival) pa/\jF ε γ (bj (cn γ hand p) pa) tb/\Α ε γ tb pa=[]
theorem DG{q:Pl}(nd:BI q)(i:Int):Μ (bj [] q) i=Μ q i:=by rw [eI nd];cases Μ q i <;> rfl
theorem sY(fw:FW ε γ X C)(hs:iW hand rival)(fp:ak (eE γ hand) p)(b:FO ε γ hand rival p pa tb)(Z8:ak (eE γ rival) Ta)(uA:ak (eE γ hand) p')(hb:∀i,i<γ.length->Μ p' i=Μ p i\/Dw ε γ tb hand p p' i):∀i,i<γ.length->Z6 ε γ tb hand rival (bj (cn γ hand p) pa) (bj (cn γ hand p') Ta) i:=λi il=>by
 obtain ⟨fa,wt,be⟩:=b;have hp:∀t,t<γ.length->0<(tb.getD t (0,1)).2:=λt ht=>(wt.tab.red t ht).pos;have hi:γ[i]? =some γ[i]:=aaa il;generalize γ[i]=r at *
 obtain ⟨a1,a2,a3⟩:=jA (i:=i) fw hs fp fa hi;obtain ⟨c1,c2,c3⟩:=jA (i:=i) fw hs uA Z8 hi;cases hk:χ (kindOf r) with
 |false=>left;rw [a3 hk,c3 hk]
 |true=>
  rcases hs.two _ hk with e|e
  ·rcases hb i il with z|⟨ds,j,j',DJ,g,g',jl,nb,b⟩
   ·left;rw [a1 e,c1 e,z]
   ·right;left;exact ⟨ds,j,j',DJ,by rw [a1 e];exact g,by rw [c1 e];exact g',jl,nb,b⟩
  ·right;right;cases r with
   |fin q=>exact absurd hk (by show¬χ (Str.ofString "end")=true;decide)
   |ο k ds=>
    have e':k=rival:=e;subst e';obtain ⟨j,gj,jl⟩:=(cz (i:=i) fw hs.h2 fa).1 ds hi;obtain ⟨j',Vt,Np⟩:=(cz (i:=i) fw hs.h2 Z8).1 ds hi;exact ⟨ds,j,j',hi,by rw [a2 rfl,gj],by rw [c2 rfl,Vt],Np,tT fw hs.h2 fa hp be hi gj⟩
theorem qJ(fw:FW ε γ X C)(hs:iW hand rival)(fp:ak (eE γ hand) p)(fa:ak (eE γ rival) pa):fS γ (bj (cn γ hand p) pa):=by
 refine ⟨λi r hi hk=>?_,λi r hi hk=>(jA fw hs fp fa hi).2.2 hk⟩;obtain ⟨a1,a2,_⟩:=jA (i:=i) fw hs fp fa hi;cases r with
 |fin q=>exact absurd hk (by show¬χ (Str.ofString "end")=true;decide)
 |ο k ds=>
  rcases hs.two _ hk with e|e
  ·have e':k=hand:=e;subst e';rw [a1 rfl];exact (cz (i:=i) fw hs.h1 fp).1 ds hi
  ·have e':k=rival:=e;subst e';rw [a2 rfl];exact (cz (i:=i) fw hs.h2 fa).1 ds hi
noncomputable def RH(ε:Fr)(γ:List Rw)(hand rival:Str)(p:Pl)(i:Nat):Rat:=open Classical in if h:∃tb,∃pa,FO ε γ hand rival p pa tb then val (h.choose.getD i (0,1)) else 0
theorem Di(fw:FW ε γ X C)(hs:iW hand rival)(b1:1<=ie X C)(fp:ak (eE γ hand) p)(b:FO ε γ hand rival p pa tb){i:Nat}(il:i<γ.length):RH ε γ hand rival p i=val (tb.getD i (0,1)):=by
 have ex:∃tb,∃pa,FO ε γ hand rival p pa tb:=⟨tb,pa,b⟩;unfold RH;rw [dif_pos ex];obtain ⟨Ta,b'⟩:=ex.choose_spec;generalize ex.choose=tb' at *
 have u:=(tE fw hs (qJ fw hs fp b'.1) b1 b.2.1 b'.2.1 (sY fw hs fp b b'.1 fp λ_ _=> .inl rfl)).1 i il;have v:=(tE fw hs (qJ fw hs fp b.1) b1 b'.2.1 b.2.1 (sY fw hs fp b' b.1 fp λ_ _=> .inl rfl)).1 i il;exact KA (k:=hand) (Rat.le_antisymm v u)
noncomputable def pD(ε:Fr)(γ:List Rw)(hand rival:Str)(p:Pl):Nat:=open Classical in (n8 (eE γ hand)).countP λq=>decide (c_ (λi=>jS hand*RH ε γ hand rival p i) γ.length<c_ (λi=>jS hand*RH ε γ hand rival q i) γ.length)
theorem MR(fw:FW ε γ X C)(hs:iW hand rival)(b1:1<=ie X C)(fp:ak (eE γ hand) p)(b:FO ε γ hand rival p pa tb)(ne:Α ε γ tb p≠[])(b':FO ε γ hand rival (bj p (Α ε γ tb p)) Ta tb'):pD ε γ hand rival (bj p (Α ε γ tb p))<pD ε γ hand rival p:=by
 have hp:∀t,t<γ.length->0<(tb.getD t (0,1)).2:=λt ht=>(b.2.1.tab.red t ht).pos;have uA:=fP (tb:=tb) fw hs.h1 fp hp;have n1:=DG (bt fp);have n2:=DG (bt uA);have cut:∀i,Dw ε γ tb hand (bj [] p) (bj [] (bj p (Α ε γ tb p))) i->Dw ε γ tb hand p (bj p (Α ε γ tb p)) i:=λi ⟨ds,j,j',hi,g,g',r⟩=>⟨ds,j,j',hi,by rw [<-n1];exact g,by rw [<-n2];exact g',r⟩;have hb:∀i,i<γ.length->Μ (bj p (Α ε γ tb p)) i=Μ p i\/Dw ε γ tb hand p (bj p (Α ε γ tb p)) i:=λi il=>by
  rcases u7 fw hs.h1 fp hp [] i il with e|e
  ·left;rw [<-n1,<-n2];exact e
  ·exact .inr (cut i e)
 obtain ⟨i,il,hc⟩:=qj fw hs.h1 fp hp [] ne;have mm:=sY fw hs fp b b'.1 uA hb;obtain ⟨u,v⟩:=tE fw hs (qJ fw hs uA b'.1) b1 b.2.1 b'.2.1 mm;have zG:Dw ε γ tb hand (bj (cn γ hand p) pa) (bj (cn γ hand (bj p (Α ε γ tb p))) Ta) i:=by obtain ⟨ds,j,j',hi,g,g',r⟩:=cut i hc;exact ⟨ds,j,j',hi,by rw [(jA fw hs fp b.1 hi).1 rfl];exact g,by rw [(jA fw hs uA b'.1 hi).1 rfl];exact g',r⟩
 have lt:c_ (λi=>jS hand*RH ε γ hand rival p i) γ.length<c_ (λi=>jS hand*RH ε γ hand rival (bj p (Α ε γ tb p)) i) γ.length:=by
  refine wV (λj hj=>?_) il ?_
  ·rw [Di fw hs b1 fp b hj,Di fw hs b1 uA b' hj];exact u j hj
  ·rw [Di fw hs b1 fp b il,Di fw hs b1 uA b' il];exact v i il zG
 unfold pD;refine BL (λa _ ha=>?_) (sJ uA) (decide_eq_true lt) (decide_eq_false (by grind));have:=of_decide_eq_true ha;exact decide_eq_true (by grind)
end
section
variable{ε:Fr}{γ:List Rw}{X C:Int}{hand rival:Str}{p pa:Pl}{tb:List Fr}
theorem vO(fw:FW ε γ X C)(hh:χ hand=true)(fp:ak (eE γ hand) p):∀i,i<γ.length->fT γ (u_ hand p) i=true:=λi il=>by
 have hi:γ[i]? =some γ[i]:=aaa il;generalize γ[i]=r at *
 unfold fT;rw [hi];show jP (u_ hand p) i r=true;unfold jP u_;by_cases e:kindOf r=hand
 ·rw [if_pos e];cases r with
  |fin q=>exact absurd (show χ (Str.ofString "end")=true by rw [<-hh,<-e];rfl) (by decide)
  |ο k ds=>
   have e:k=hand:=e;subst e;obtain ⟨j,gj,jl⟩:=(cz (i:=i) fw hh fp).1 ds hi;show dU p i ds.length=true;unfold dU;rw [gj];show (decide (0<=(j:Int))&&decide ((j:Int)<(ds.length:Int)))=true;rw [decide_eq_true (show 0<=(j:Int) by omega),decide_eq_true (show (j:Int)<(ds.length:Int) by omega)];rfl
 ·rw [if_neg e]
theorem Jb:pD ε γ hand rival p<=(n8 (eE γ hand)).length:=List.countP_le_length
theorem Ij(fp:ak (eE γ hand) p):p.length<=γ.length:=by have:=congrArg List.length (bG fp);rw [aac,gh,aac] at this;have l:=List.length_filter_le (λi=>decide (dh γ i=hand)) (List.range γ.length);rw [aaN] at l;have l:(gU γ hand).length<=γ.length:=l;omega
theorem MA(fw:FW ε γ X C)(hh:χ hand=true)(fp:ak (eE γ hand) p)(hp:∀t,t<γ.length->0<(tb.getD t (0,1)).2):∀e∈p,0<=e.1/\∃r,γ[e.1.toNat]? =some r/\χ (kindOf r)=true/\bZ ε tb r≠[]:=λe he=>by have ke:e.1∈p.map (·.1):=aag.mpr ⟨e,he,rfl⟩;rw [bG fp,gh] at ke;obtain ⟨i,hm,ei⟩:=aag.mp ke;have ei:(i:Int)=e.1:=ei;obtain ⟨ds,j,hi,_,_,_,_,ne,_⟩:=iO fw hh fp hp hm;exact ⟨by omega, .ο hand ds,by rw [<-ei,abx];exact hi,hh,ne⟩
def Rd(ε:Fr)(γ:List Rw)(hand rival:Str)(m:Nat)(p:Pl):Prop:=m=(n8 (eE γ hand)).length+1\/∃pp Z2 VM,ak (eE γ hand) pp/\FO ε γ hand rival pp Z2 VM/\Α ε γ VM pp≠[]/\p=bj pp (Α ε γ VM pp)/\m=pD ε γ hand rival pp
theorem Rd.lt{m:Nat}(h:Rd ε γ hand rival m p)(fw:FW ε γ X C)(hs:iW hand rival)(b1:1<=ie X C)(fp:ak (eE γ hand) p)(b:FO ε γ hand rival p pa tb):pD ε γ hand rival p<m:=by
 rcases h with e|⟨pp,Z2,VM,f,b0,ne,e,em⟩
 ·rw [e];exact Nat.lt_succ_of_le Jb
 ·subst e;rw [em];exact MR fw hs b1 f b0 ne b
end
def AA(A:Addr):DF:=λas M q _=>∃(ε:Fr) (γ:List Rw) (hand:Str),as=[au A ε γ,.str hand,.bw]/\γ.length<=12/\q (.loc M.length) (M++[dP (pO γ hand)])
theorem GH:Δ ["floor","hand","start"] ["floor","hand","start"] (τ si):= .of rfl
theorem C1{f:Addr}{fd:FuncData}(F:cJ K "started" "started" si f fd)(E:Ev K mg w Cm){my:Addr}{mB:FuncData}(d7:aw P w K mg base 3 "first_plan" ["floor","hand"] (x9 Cm) my mB):ah P w K mg base (bU P w) 5 f fd ["floor","hand","start"] (cC K (AA Cm)):=by
 refine F.df GH (λds M q x h=>?_) (λaT A outer s H E' hr=>⟨_,(η (aH (J9 (jv 2) Ma) (μ (Ε (ag d7 hr ξ (Υ (jv 0) (Υ (jv 1) θ))))) Φ)
   (μ fL)),λds M q x h=>?_⟩)
 ·obtain ⟨ε,γ,hand,rfl,_⟩:=h;rfl
 ·obtain ⟨ε,γ,hand,rfl,pk,h⟩:=h;refine ⟨λ_=>?_,λz=>(nomatch z)⟩;exact ⟨ε,γ,hand,rfl,pk,h⟩
def xk(A:Addr):DF:=λas M q _=>∃(ε:Fr) (γ:List Rw) (hand rival:Str) (X C:Int),as=[au A ε γ,.str hand,.bw]/\(hand="one"/\rival="other"\/hand="other"/\rival="one")/\FW ε γ X C/\ie X C<=2^450/\(12*ie X C)^γ.length<2^1030/\1<=ie X C/\(n8 (eE γ hand)).length<=1000/\∀(p pa:Pl) (tb:List Fr) (E:Ms) (ka:Nat),ak (eE γ hand) p->FO ε γ hand rival p pa tb->Α ε γ tb p=[]->(M++[dP p]++E)[ka]? =some (dP pa)->q (.tup [.loc M.length,.loc ka,.lst (tb.map Τ),.loc (M.length+1)]) (M++[dP p]++E)
theorem kT:Δ ["floor","hand","start","plan","rounds","found","better"] ["floor","hand","start"] (τ wF):= .of rfl
theorem He{U:Addr}{its:Array Value}{f:Addr}{fd:FuncData}(F:Ga K "mended" wF U its f fd)(E:Ev K mg w Cm){Jy:Addr}{Jn:FuncData}(pW:aw P w K mg base 5 "started" ["floor","hand","start"] (AA Cm) Jy Jn){rB:Addr}{sW:FuncData}(gE:aw P w K mg base 9 "against" ["floor","hand","plan"] (qZ Cm) rB sW){jJ:Addr}{jr:FuncData}(bQ:aw P w K mg base 8 "better_doors" ["floor","plan","table"] (xV Cm) jJ jr):ah P w K mg base (bU P w) 10 f fd ["floor","hand","start"] (cC K (xk Cm)):=by
 refine F.df kT (λds M q x h=>?_) (λaT A outer s H E' hr=>⟨_,(η (Γ 3 kT.nd (ag pW hr ξ (Υ (jv 0) (Υ (jv 1) (Υ (jv 2) θ)))))
   (η (Γ 4 kT.nd (kW θ))
   (μ (nE (cq Ht) (η (Γ 5 kT.nd (ag gE hr ξ (Υ (jv 0) (Υ (jv 1) (Υ (jv 3) θ)))))
   (η (eW (fR (jv 4) (ι (c7 (ι (Ki E.tM (Υ (jv 3) θ)) (ι (xZ E.kC (ι (Ν (jv 5) ω) θ (hs:=aV))) θ (hs:=aQ)) (hs:=aQ))) θ (hs:=DZ))))
   (η (Γ 6 kT.nd (ag bQ hr ξ (Υ (jv 0) (Υ (jv 3) (ι (Ν (jv 5) ω) θ (hs:=aV))))))
   (η (aH (e6 hr (Jl E.bX (Υ (jv 6) θ)) ω) (μ (Ε (c7 (Υ (jv 3) (ι (Ν (jv 5) ω) (ι (Ν (jv 5) ω) (Υ (jv 4) θ) (hs:=aV)) (hs:=aV)))))) Φ)
   (μ (eW (CQ (jv 3) (jv 6)))))))))))),λds M q x h=>?_⟩)
 ·obtain ⟨ε,γ,hand,rival,X,C,rfl,_⟩:=h;rfl
 ·obtain ⟨ε,γ,hand,rival,X,C,rfl,fW,fw,i_,lA,b1,hN,h⟩:=h;have hs:=gY fW;have pk:=fw.pl.len;have sl:∀{z:Nat},z<=1000->z<sizeLine:=λh=>aaM h (by decide);refine ⟨ε,γ,hand,rfl,pk,?_⟩;walk_at "vc";dsimp only [Oj];walk_at "vc";refine ⟨by decide,?_⟩;have f0:=tH fw hs.h1;have kr:(M++[dP (pO γ hand)]).length=M.length+1:=by simp
  rw [kr];generalize pO γ hand=p0 at *
  refine ⟨λm ρ' M'=>∃(p:Pl) (xs:List Dt) (E1:Ms) (o5 o6:Option Dt),ak (eE γ hand) p/\Rd ε γ hand rival m p/\xs.length+m<=(n8 (eE γ hand)).length+1/\M'=M++[dP p,.lst xs]++E1/\ρ'=[some (au Cm ε γ),some (.str hand),some .bw,some (.loc M.length),some (.loc (M.length+1)),o5,o6],⟨_,p0,[],[],none,none,f0,.inl rfl,by rw [List.length_nil,Nat.zero_add];exact Nat.le_refl _,by simp,rfl⟩,λm ρ' M' hw=>?_⟩;obtain ⟨p,xs,E1,o5,o6,fp,hm,hx,rfl,rfl⟩:=hw;walk_at "vc";refine ⟨λ_=>⟨_,λρ2 M2 hn=>hn,?_⟩,λz=>(nomatch z)⟩;have SJ:∀(p:Pl) (m:MO) (E:Ms),(M++[dP p,m]++E)[M.length]? =some (dP p):=λp m E=>dc (by rw [aan (aai _),acg];rfl);have atR:∀(p:Pl) (m:MO) (E:Ms),(M++[dP p,m]++E)[M.length+1]? =some m:=λp m E=>dc (by rw [aan (by omega),abg];rfl);refine ⟨ε,γ,hand,rival,M.length,p,X,C,rfl,SJ p _ E1,fW,fw,i_,lA,b1,vO fw hs.h1 fp,λpa tb E2 fa wt be=>?_⟩;have TK:FO ε γ hand rival p pa tb:=⟨fa,wt,be⟩;have lt:=hm.lt fw hs b1 fp TK;have kE:(M++[dP p,MO.lst xs]++E1).length+2=M.length+4+E1.length:=by rw [aah,aah];show M.length+2+E1.length+2=_;omega
  have eS:M++[dP p,MO.lst xs]++E1++[MO.fF [Sum.inr hand] [Dt.loc (List.length M)],dP (cn γ hand p),dP pa]++E2=M++[dP p,MO.lst xs]++(E1++[MO.fF [Sum.inr hand] [Dt.loc (List.length M)],dP (cn γ hand p),dP pa]++E2):=by simp only [List.append_assoc]
  have Hr:∀(m1 m2:MO) (E:Ms),(M++[m1,m2]++(E1++[MO.fF [Sum.inr hand] [Dt.loc (List.length M)],dP (cn γ hand p),dP pa]++E2++E))[M.length+4+E1.length]? =some (dP pa):=λm1 m2 E=>by rw [aan (by rw [aah];show M.length+2<=_;omega),aaJ,aaJ,aan (by rw [aah];show E1.length<=M.length+4+E1.length-(M.length+2);omega)];rw [aah];show ([MO.fF [Sum.inr hand] [Dt.loc (List.length M)],dP (cn γ hand p),dP pa]++(E2++E))[M.length+4+E1.length-(M.length+2)-E1.length]? =_;rw [show M.length+4+E1.length-(M.length+2)-E1.length=2 by omega];rfl
  rw [kE,eS];generalize M.length+4+E1.length=ka at *
  generalize E1++[MO.fF [Sum.inr hand] [Dt.loc (List.length M)],dP (cn γ hand p),dP pa]++E2=E3 at *
  dsimp only [TM];walk_at "vc";refine ⟨⟨_,_,rfl,atR p _ E3⟩,M.length,_,_,rfl,SJ p _ E3,?_⟩;have r1:∀(M':Ms) (q:DQ),q (.lst (tb.map Τ)) M'->fV (.tup [.loc ka,.lst (tb.map Τ)]) (.int 1) M' q:=λM' q hq=>Ι (d:= .tup [.loc ka,.lst (tb.map Τ)]) rfl (Θ (j:=1) rfl) hq;have r0:∀(M':Ms) (q:DQ),q (.loc ka) M'->fV (.tup [.loc ka,.lst (tb.map Τ)]) (.int 0) M' q:=λM' q hq=>Ι (d:= .tup [.loc ka,.lst (tb.map Τ)]) rfl bq hq;refine r1 _ _ ?_;dsimp only [zQ,kU];refine ⟨by decide,M.length+1,xs,_,rfl,rfl,dc (dc (atR p _ E3)),sl (by omega),?_⟩;have eT:M++[dP p,MO.lst xs]++E3++[MO.fF (kP p) (vP p)]++[MO.lst (tb.map Τ)]=M++[dP p,MO.lst xs]++(E3++[MO.fF (kP p) (vP p),MO.lst (tb.map Τ)]):=by simp
  have YV:∀(ys:List Dt) (E:Ms),(M++[dP p,MO.lst xs]++E).set (M.length+1) (.lst ys)=M++[dP p,MO.lst ys]++E:=λys E=>by rw [aaJ,aaJ,abR (h:=by omega),abg];rfl
  have XE:∀(p':Pl) (ys:List Dt) (E:Ms),(M++[dP p,MO.lst ys]++E).set M.length (dP p')=M++[dP p',MO.lst ys]++E:=λp' ys E=>by rw [aaJ,aaJ,abR (h:=aai _),acg];rfl
  rw [eT,YV];have hl:(xs++[Dt.tup [.loc (M++[dP p,MO.lst xs]++E3).length,.loc (M++[dP p,MO.lst xs]++E3++[MO.fF (kP p) (vP p)]).length]]).length=xs.length+1:=by rw [aah];rfl
  generalize xs++[Dt.tup [.loc (M++[dP p,MO.lst xs]++E3).length,.loc (M++[dP p,MO.lst xs]++E3++[MO.fF (kP p) (vP p)]).length]]=ys at *
  have Hr:=λm1 m2 E=>Hr m1 m2 ([MO.fF (kP p) (vP p),MO.lst (tb.map Τ)]++E);have e4:∀E:Ms,E3++([MO.fF (kP p) (vP p),MO.lst (tb.map Τ)]++E)=E3++[MO.fF (kP p) (vP p),MO.lst (tb.map Τ)]++E:=λE=>by rw [aaJ]
  simp only [e4] at Hr;generalize E3++[MO.fF (kP p) (vP p),MO.lst (tb.map Τ)]=E4 at *
  have hp:∀t,t<γ.length->0<(tb.getD t (0,1)).2:=λt ht=>(wt.tab.red t ht).pos;have uA:=fP (tb:=tb) fw hs.h1 fp hp;have pl:=Ij fp;refine r1 _ _ ?_;refine ⟨ε,γ,tb,M.length,p,rfl,SJ p _ E4,wt.Xv fw (qJ fw hs fp fa) b1,bt fp,by omega,MA fw hs.h1 fp hp,?_⟩;have bl:(Α ε γ tb p).length<=12:=aap (jx _) (by omega);refine ⟨_,_,_,rfl,aZ,?_⟩;have kl:(kP (Α ε γ tb p)).length=(Α ε γ tb p).length:=by unfold kP;rw [List.length_map]
  rw [kl];refine ⟨λz=>?_,λz=>?_⟩
  ·have z:((Α ε γ tb p).length:Int)=0:=of_decide_eq_true z;have e:Α ε γ tb p=[]:=List.length_eq_zero_iff.mp (by omega);refine r0 _ _ (r1 _ _ ⟨by decide,?_⟩);have:=h p pa tb ([.lst ys]++(E4++[dP (Α ε γ tb p)])) ka fp TK e;have eU:M++[dP p]++([MO.lst ys]++(E4++[dP (Α ε γ tb p)]))=M++[dP p,MO.lst ys]++(E4++[dP (Α ε γ tb p)]):=by simp
   rw [eU] at this;rw [aaJ];exact this (Hr _ _ _)
  ·have z:¬((Α ε γ tb p).length:Int)=0:=of_decide_eq_false z;have ne:Α ε γ tb p≠[]:=λy=>z (by rw [y];rfl);dsimp only [DY];walk_at "vc";have ll:(M++[dP p,MO.lst ys]++E4).length=M.length+2+E4.length:=by rw [aah,aah];rfl
   refine ⟨⟨_,_,_,rfl,dc (SJ p _ E4)⟩,M.length,_,_,_,_,_,rfl,rfl,by omega,dc (SJ p _ E4),aZ,by rw [kl];unfold kP;rw [List.length_map];omega,?_⟩;rw [DR,D5,aaJ,XE];exact ⟨_,lt,_,ys,_,_,_,uA,.inr ⟨p,pa,tb,fp,TK,ne,rfl,rfl⟩,by omega,rfl,rfl⟩
def Av(A:Addr):DF:=λas M q _=>∃(ε:Fr) (γ:List Rw) (X C:Int),as=[au A ε γ]/\FW ε γ X C/\ie X C<=2^450/\(12*ie X C)^γ.length<2^1030/\1<=ie X C/\(n8 (eE γ "one")).length<=1000/\∀(p pa:Pl) (tb:List Fr) (E:Ms),ak (eE γ "one") p->FO ε γ "one" "other" p pa tb->Α ε γ tb p=[]->q (.lst (tb.map Τ)) (M++E)
theorem J5:Δ ["floor"] ["floor"] (τ yk):= .of rfl
theorem Fv{f:Addr}{fd:FuncData}(F:cJ K "worths" "worths" yk f fd)(E:Ev K mg w Cm){yA:Addr}{yb:FuncData}(gw:Mj P w K mg base 10 "mended" ["floor","hand","start"] (xk Cm) [.str "one",.bw] yA yb):ah P w K mg base (bU P w) 11 f fd ["floor"] (cC K (Av Cm)):=by
 refine F.df J5 (λds M q x h=>?_) (λaT A outer s H E' hr=>⟨_,(μ (Ε (Ν (OC gw hr ξ (Υ (jv 0) θ)) ω))),λds M q x h=>?_⟩)
 ·obtain ⟨ε,γ,X,C,rfl,_⟩:=h;rfl
 ·obtain ⟨ε,γ,X,C,rfl,fw,i_,lA,b1,hN,h⟩:=h;refine ⟨ε,γ,"one","other",X,C,rfl,.inl ⟨rfl,rfl⟩,fw,i_,lA,b1,hN,λp pa tb E ka fp TK be _=>?_⟩;refine Ι (d:= .tup [.loc M.length,.loc ka,.lst (tb.map Τ),.loc (M.length+1)]) rfl (Θ (j:=2) rfl) ?_;rw [aaJ];exact h p pa tb _ fp TK be
section
variable{ε:Fr}{γ:List Rw}{X C:Int}{Ζ bN:Pl}{tb tb':List Fr}{hand rival:Str}{p pa p1 p2 q1 q2 qr:Pl}{i:Nat}
theorem jF.ext(h:jF ε γ Ζ tb)(e:∀i:Nat,i<γ.length->Μ bN i=Μ Ζ i):jF ε γ bN tb:=
 ⟨⟨h.tab.len,h.tab.red,λi il=>by
  have:=h.jT il;rw [<-Ak (e i il)] at this
  exact this.symm⟩,h.bot⟩
def Cr(γ:List Rw)(hand:Str)(p:Pl):Prop:=∀(i:Nat) (r:Rw),γ[i]? =some r->kindOf r=hand->∃j:Nat,Μ p i=some (j:Int)/\j<(Η r).length
theorem bL(fw:FW ε γ X C)(hh:χ hand=true)(fp:ak (eE γ hand) p):Cr γ hand p:=λi r hi e=>by
 cases r with
 |fin q=>exact absurd (show χ (Str.ofString "end")=true by rw [<-hh,<-e];rfl) (by decide)
 |ο k ds=>
  have e:k=hand:=e;subst e;exact (cz (i:=i) fw hh fp).1 ds hi
theorem DL{r:Rw}(o:Cr γ hand p)(hi:γ[i]? =some r)(e:kindOf r=hand):dU p i (Η r).length=true:=by obtain ⟨j,gj,jl⟩:=o i r hi e;unfold dU;rw [gj];show (decide (0<=(j:Int))&&decide ((j:Int)<((Η r).length:Int)))=true;rw [decide_eq_true (show 0<=(j:Int) by omega),decide_eq_true (show (j:Int)<((Η r).length:Int) by omega)];rfl
theorem je(o1:Cr γ "one" p1)(o2:Cr γ "other" p2):∀i,i<γ.length->fT γ (aj p1 p2) i=true:=λi il=>by
 have hi:γ[i]? =some γ[i]:=aaa il;generalize γ[i]=r at *
 unfold fT;rw [hi];show jP (aj p1 p2) i r=true;unfold jP aj;by_cases e:kindOf r="one"
 ·rw [if_pos e];exact DL o1 hi e
 ·rw [if_neg e];by_cases e2:kindOf r="other"
  ·rw [if_pos e2];exact DL o2 hi e2
  ·rw [if_neg e2]
theorem nH{r:Rw}(hi:γ[i]? =some r):Μ (de γ (aj p1 p2) γ.length) i=((aj p1 p2 (kindOf r)).map λpl=>(Μ pl i).getD 0):=by rw [jC,if_pos (aaf.mp hi).1,hi];rfl
structure wN(ε:Fr)(γ:List Rw)(p1 p2:Pl)(tb:List Fr):Prop where
 f1:ak (eE γ "one") p1
 f2:ak (eE γ "other") p2
 wt:jF ε γ (de γ (aj p1 p2) γ.length) tb
 n1:Α ε γ tb p1=[]
 n2:Α ε γ tb p2=[]
theorem dM:iW "one" "other":=gY (.inl ⟨rfl,rfl⟩)
theorem PX:iW "other" "one":=gY (.inr ⟨rfl,rfl⟩)
theorem AK{z:Str}(h:χ z=false):aj p1 p2 z=none:=by unfold aj;rw [if_neg (λe=>by rw [e] at h;exact absurd h (by decide)),if_neg (λe=>by rw [e] at h;exact absurd h (by decide))]
theorem Am(fw:FW ε γ X C)(hs:iW hand rival)(fp:ak (eE γ hand) p)(fa:ak (eE γ rival) pa)(e1:aj p1 p2 hand=some p)(e2:aj p1 p2 rival=some pa)(w:jF ε γ (bj (cn γ hand p) pa) tb):jF ε γ (de γ (aj p1 p2) γ.length) tb:=w.ext λi il=>by
 have hi:γ[i]? =some γ[i]:=aaa il;generalize γ[i]=r at *
 obtain ⟨a1,a2,a3⟩:=jA (i:=i) fw hs fp fa hi;rw [nH hi];cases hk:χ (kindOf r) with
 |false=>rw [a3 hk,AK hk];rfl
 |true=>
  rcases hs.two _ hk with e|e
  ·obtain ⟨j,gj,_⟩:=bL fw hs.h1 fp i r hi e;rw [a1 e,e,e1,gj];show some ((Μ p i).getD 0)=_;rw [gj];rfl
  ·obtain ⟨j,gj,_⟩:=bL fw hs.h2 fa i r hi e;rw [a2 e,e,e2,gj];show some ((Μ pa i).getD 0)=_;rw [gj];rfl
theorem Ae(fw:FW ε γ X C)(fp:ak (eE γ "one") p)(b:FO ε γ "one" "other" p pa tb)(n:Α ε γ tb p=[]):wN ε γ p pa tb:=⟨fp,b.1,Am fw dM fp b.1 rfl rfl b.2.1,n,b.2.2⟩
theorem sS(fw:FW ε γ X C)(b1:1<=ie X C)(hh:χ rival=true)(fa:ak (eE γ rival) pa)(be:Α ε γ tb pa=[])(e1:aj p1 p2 rival=some pa)(e2:aj q1 q2 rival=some qr)(eo:∀z:Str,z≠rival->aj q1 q2 z=aj p1 p2 z)(has:Cr γ rival qr)(dk:fS γ (de γ (aj q1 q2) γ.length))(wt:jF ε γ (de γ (aj p1 p2) γ.length) tb)(Ll:jF ε γ (de γ (aj q1 q2) γ.length) tb'):∀i,i<γ.length->jS rival*val (tb'.getD i (0,1))<=jS rival*val (tb.getD i (0,1)):=by
 have hp:∀t,t<γ.length->0<(tb.getD t (0,1)).2:=λt ht=>(wt.tab.red t ht).pos;refine zu fw hh dk b1 wt Ll λi il=>?_;have hi:γ[i]? =some γ[i]:=aaa il;generalize γ[i]=r at *
 rw [nH hi,nH hi];by_cases ek:kindOf r=rival
 ·right;obtain ⟨j,gj,_⟩:=bL fw hh fa i r hi ek;obtain ⟨j',Vt,Np⟩:=has i r hi ek;cases r with
  |fin q=>exact absurd (show χ (Str.ofString "end")=true by rw [<-hh,<-ek];rfl) (by decide)
  |ο k ds=>
   have ek:k=rival:=ek;subst ek;refine ⟨ds,j,j',hi,?_,?_,Np,tT fw hh fa hp be hi gj⟩
   ·show Option.map _ (aj p1 p2 k)=_;rw [e1];show some ((Μ pa i).getD 0)=_;rw [gj];rfl
   ·show Option.map _ (aj q1 q2 k)=_;rw [e2];show some ((Μ qr i).getD 0)=_;rw [Vt];rfl
 ·left;rw [eo _ ek]
theorem sg1:jS "one"=1:=if_pos rfl
theorem sg2:jS "other"= -1:=if_neg (by decide)
theorem wB{z:Str}(h:z≠"other"):aj p1 q2 z=aj p1 p2 z:=by
 unfold aj;by_cases e:z="one"
 ·rw [if_pos e,if_pos e]
 ·rw [if_neg e,if_neg e,if_neg h,if_neg h]
theorem rG{z:Str}(h:z≠"one"):aj q1 p2 z=aj p1 p2 z:=by unfold aj;rw [if_neg h,if_neg h]
theorem wN.low(o:wN ε γ p1 p2 tb)(fw:FW ε γ X C)(b1:1<=ie X C)(has:Cr γ "other" q2)(Ll:jF ε γ (de γ (aj p1 q2) γ.length) tb')(il:i<γ.length):val (tb.getD i (0,1))<=val (tb'.getD i (0,1)):=by have:=sS fw b1 dM.h2 o.f2 o.n2 rfl rfl (λz hz=>wB hz) has (vm (je (bL fw dM.h1 o.f1) has)) o.wt Ll i il;rw [sg2] at this;grind
theorem wN.high(o:wN ε γ p1 p2 tb)(fw:FW ε γ X C)(b1:1<=ie X C)(has:Cr γ "one" q1)(Ll:jF ε γ (de γ (aj q1 p2) γ.length) tb')(il:i<γ.length):val (tb'.getD i (0,1))<=val (tb.getD i (0,1)):=by have:=sS fw b1 dM.h1 o.f1 o.n1 rfl rfl (λz hz=>rG hz) has (vm (je has (bL fw dM.h2 o.f2))) o.wt Ll i il;rw [sg1] at this;grind
end
theorem Sd{a b:Int}(h1: -(10^30)<=a)(h2:a<=10^30)(h3:b<=1000000):aX (a,b)=true:=by
 unfold aX;have:(if a<0 then -a else a)<=10^30:=by split <;> omega
 show (decide ((if a<0 then -a else a)<=10^30)&&decide (b<=1000000))=true;rw [decide_eq_true this,decide_eq_true h3];rfl
theorem Ek{t b:Int}(h1: -(10^30)<=t)(h2:t<=10^30)(h0:0<b)(h3:b<=1000000):aX (aq t b)=true:=by
 have l1:=tU (t:=t) (show b≠0 by omega);have l2:=ku (t:=t) (show b≠0 by omega);generalize aq t b=f at *
 obtain ⟨x,y⟩:=f;have l1:x.natAbs<=t.natAbs:=l1;have l2:y.natAbs<=b.natAbs:=l2;exact Sd (by omega) (by omega) (by omega)
theorem CG{t b:Int}(t0:0<=t)(t1:t<b)(Z4:b<=1000):aM (aq t b)=true:=by
 have Lm:0<b:=by omega
 have l2:=ku (t:=t) (show b≠0 by omega);have q0:=bK (t:=t) (show b≠0 by omega);have hc:=cv (t:=t) (show b≠0 by omega);generalize aq t b=f at *
 obtain ⟨x,y⟩:=f;have l2:y.natAbs<=b.natAbs:=l2;have q0:0<y:=q0;have hc:t*y=b*x:=hc;have x0:0<=x:=by
  rcases ab2 x 0 with z|z
  ·have:=abG Lm z;have:=aa1 t0 (aaj q0);omega
  ·exact z
 have x1:x<y:=by
  rcases ab2 x y with z|z
  ·exact z
  ·have h3:b*y<=b*x:=aar z (aaj Lm);have h4:t*y<b*y:=Int.mul_lt_mul_of_pos_right t1 q0;omega
 unfold aM;show (decide (0<=x)&&(decide (x<y)&&decide (y<=1000)))=true;rw [decide_eq_true x0,decide_eq_true x1,decide_eq_true (show y<=1000 by omega)];rfl
def Xu(ns:List Int)(k:Int):Int:=ns.getD k.toNat 0
theorem Rq{ns:List Int}{k:Int}(h0:0<=k)(h2:k<ns.length):oJ (ns.map Dt.int) k=some (.int (Xu ns k)):=by
 have e:(ns.map Dt.int)[k.toNat]? =some (.int (Xu ns k)):=by rw [aal,aaa (show k.toNat<ns.length by omega)];unfold Xu;rw [aab,aaa (show k.toNat<ns.length by omega)];rfl
 have:=Θ e;rwa [show ((k.toNat:Nat):Int)=k by omega] at this
def Nm(n:Int):Prop:=0<=n/\n<10^300
theorem UZ:zm 10 60:=⟨by decide,by decide,by decide⟩
theorem X2:zm 10 30:=⟨by decide,by decide,by decide⟩
theorem p18:zm 10 18:=⟨by decide,by decide,by decide⟩
theorem p12:zm 10 12:=⟨by decide,by decide,by decide⟩
theorem p6:zm 10 6:=⟨by decide,by decide,by decide⟩
theorem x5{n:Int}(h:Nm n):iL n:=qu (k:=1000) h.1 (ab3 h.2 (by decide)) (by decide)
theorem IF{a b:Int}(h0:0<b)(h1:b<=10^300):Nm (a%b):=⟨aaV _ (by omega),Int.lt_of_lt_of_le (aaQ _ h0) h1⟩
theorem I_{n b:Int}(h:Nm n)(h0:0<b):Nm (n/b):=⟨Int.ediv_nonneg h.1 (aaj h0),aaB (abX _ h.1) h.2⟩
def W7:DF:=λas M q _=>∃(ns:List Int) (k:Int),as=[.kj ns,.int k]/\ns.length<=63/\0<=k/\k<=200/\∀n,Nm n->q (.int n) M
theorem qQ:Δ ["_law_script","_law_k","_law_mixed","_law_cell"] ["_law_script","_law_k"] (τ BU):= .of rfl
theorem JG{f:Addr}{fd:FuncData}(F:cJ K "_law_at" "_law_at" BU f fd)(E:Ev K mg w Cm):ah P w K mg base (bU P w) 1 f fd ["_law_script","_law_k"] (cC K W7):=by
 refine F.df qQ (λds M q x h=>?_) (λaT A outer s H E' hr=>⟨_,(η (aH (vp (jv 1) (c8 E.bX (Υ (jv 0) θ))) (μ (Ε (bY (Ν (jv 0) (jv 1)) (aR (aR (aR (aR (i5 ω ω) (i5 ω ω)) (i5 ω ω)) (i5 ω ω)) (i5 ω ω))))) Φ)
   (η (Γ 2 qQ.nd (cI ω (aR ω (c8 E.bX (Υ (jv 0) θ)))))
   (η (dF (bf (b9 (wQ (jv 0) ω))) (aD (i:=3) qQ.nd rfl (Or.inl rfl)) ba (μ (Γ 2 qQ.nd (bY (cI (aR (jv 2) ω) (bY (jv 3) (i5 ω ω))) ω))))
   (μ (Ε (bY (aR (cI (jv 2) ω) (cI (aR (jv 1) (jv 1)) ω)) ω)))))),λds M q x h=>?_⟩)
 ·obtain ⟨ns,k,rfl,_⟩:=h;rfl
 ·obtain ⟨ns,k,rfl,nl,hk,k2,h⟩:=h;have bk:iL k:=bg (k:=40) (by omega);have bl:iL (ns.length:Int):=bg (k:=40) (by omega);have b6:iL ((10:Int)^(60:Int).toNat):=bg (k:=210) (by decide);walk_at "vc";refine (aE (d:= .kj ns) (xs:=ns.map .int) rfl ?_:iD [.kj ns] M _);rw [aac];refine ⟨λh1=>?_,λh1=>?_⟩
  ·have Xa:k<ns.length:=of_decide_eq_true h1;refine (Ι (d:= .kj ns) rfl (Rq hk Xa) ?_:fV (.kj ns) (.int k) M _);exact ⟨UZ,UZ,⟨b6,b6⟩,UZ,⟨bg (k:=410) (by decide),b6⟩,UZ,⟨bg (k:=610) (by decide),b6⟩,UZ,⟨bg (k:=810) (by decide),b6⟩,by decide,h _ (IF (by decide) (by decide))⟩
  ·refine (aE (d:= .kj ns) (xs:=ns.map .int) rfl ?_:iD [.kj ns] M _);rw [aac];refine ⟨⟨bg (k:=40) (by decide),bl⟩,?_⟩;dsimp only [vY,e_,S4,HA];walk_at "vc";refine ⟨ns.map .int,6,rfl,rfl,?_⟩;rw [<-ab8];refine da (ig _) ?_;refine cc (λzs ρ' M'=>M'=M/\∃(rest:List Int) (m:Int) (o:Option Dt),zs=rest.map Dt.int/\0<=m/\m<2147483647/\ρ'=[some (.kj ns),some (.int k),some (.int m),o]) (λzs ρ' M' hj=>trivial) (λx zs ρ' M' hj ir=>?_) (λρ' M' hj=>?_) _ _ _ ⟨rfl,_,_,none,rfl,by omega,by omega,rfl⟩
   ·obtain ⟨rfl,rest,m,o,ex,m0,m1,rfl⟩:=hj;cases rest with
    |nil=>cases ex
    |cons c rest=>
     cases ex;exact ⟨⟨bg (k:=40) (by omega),bg (k:=40) (by decide)⟩,p12,by decide,by decide,ir _ _ ⟨rfl,rest,_,_,rfl,aaV _ (by decide),aaQ _ (by decide),rfl⟩⟩
   ·obtain ⟨rfl,rest,m,o,ex,m0,m1,rfl⟩:=hj;have kk:0<=k*k/\k*k<=200*200:=⟨aa1 hk hk,abr k2 k2 hk (by decide)⟩;exact ⟨⟨bk,bk⟩,⟨bg (k:=40) (by omega),bg (k:=40) (by omega)⟩,by decide,h _ (IF (by decide) (by decide))⟩
def Xs(x:Int):Prop:=0<=x/\x<2^110
def EB:DF:=λas M q _=>∃(n:Int) (ai:Nat),as=[.int n,.int (ai:Nat)]/\iL n/\ai<=60/\∀xs:List Int,xs.length=ai->(∀x∈xs,Xs x)->q (.loc M.length) (M++[.lst (xs.map Dt.int)])
theorem fM:Δ ["_law_number","_law_many","_law_some","_law_seed","_law_k"] ["_law_number","_law_many"] (τ mH):= .of rfl
theorem xY{f:Addr}{fd:FuncData}(F:cJ K "_law_stream" "_law_stream" mH f fd)(E:Ev K mg w Cm):ah P w K mg base (bU P w) 1 f fd ["_law_number","_law_many"] (cC K EB):=by
 refine F.df fM (λds M q x h=>?_) (λaT A outer s H E' hr=>⟨_,(η (Γ 2 fM.nd (kW θ))
   (η (Γ 3 fM.nd (cI (bY (aR (jv 0) ω) ω) ω))
   (η (lZ (eY E.cZ (Υ (jv 1) θ)) (aD (i:=4) fM.nd rfl (Or.inl rfl)) ba (η (Γ 3 fM.nd (bY (cI (cI (aR (jv 3) ω) (aR (jv 4) (jv 4))) ω) ω))
   (μ (eW (fR (jv 2) (Υ (jv 3) θ))))))
   (μ (Ε (jv 2)))))),λds M q x h=>?_⟩)
 ·obtain ⟨n,ai,rfl,_⟩:=h;rfl
 ·obtain ⟨n,ai,rfl,bn,m60,h⟩:=h;refine ⟨by decide,⟨bn,bg (k:=20) (by decide)⟩,by decide,?_⟩;have s0:=aaV (n*69621) (show (2147483629:Int)≠0 by decide);have s1:=aaQ (n*69621) (show (0:Int)<2147483629 by decide);dsimp only [y8];generalize n*69621%2147483629=sd at *
  refine ⟨⟨by omega,by omega⟩,?_⟩;rw [show ((ai:Int)).toNat=ai by omega];refine fG (λzs ρ' M'=>∃(i c:Nat) (xs:List Int) (sd:Int) (o:Option Dt),zs=e7 (i:Int) c/\i+c=ai/\xs.length=i/\(∀x∈xs,Xs x)/\0<=sd/\sd<=2147483647/\M'=M++[.lst (xs.map Dt.int)]/\ρ'=[some (.int n),some (.int (ai:Int)),some (.loc M.length),some (.int sd),o]) (λx zs ρ' M' hj ir=>?_) (λρ' M' hj=>?_) _ _ _ ⟨0,ai,[],sd+1,none,rfl,by omega,rfl,λ_ z=>(nomatch z),by omega,by omega,rfl,rfl⟩
  ·obtain ⟨i,c,xs,sd,o,ex,ic,xl,hx,d0,d1,rfl,rfl⟩:=hj;obtain ⟨c',rfl,rfl,rfl⟩:=fo ex;have i60:(i:Int)<60:=by omega
   have ii:0<=(i:Int)*i/\(i:Int)*i<=60*60:=⟨aa1 (by omega) (by omega),abr (by omega) (by omega) (by omega) (by decide)⟩;refine ⟨⟨bg (k:=40) (by omega),bg (k:=20) (by decide)⟩,⟨bg (k:=20) (by omega),bg (k:=20) (by omega)⟩,by decide,?_⟩;have t0:=aaV (sd*48271+(i:Int)*i+7) (show (2147483647:Int)≠0 by decide);have t1:=aaQ (sd*48271+(i:Int)*i+7) (show (0:Int)<2147483647 by decide);refine ⟨⟨_,_,rfl,aZ⟩,M.length,_,_,rfl,rfl,aZ,?_,?_⟩
   ·rw [aac,xl];exact aaM (show i<=60 by omega) (by decide)
   rw [eO];refine ir _ _ ⟨i+1,c',xs++[(sd*48271+(i:Int)*i+7)%2147483647],_,_,by rw [Int.natCast_add];rfl,by omega,by simp [xl],λy hy=>?_,t0,Int.le_of_lt t1,by simp,rfl⟩;rcases aaP.mp hy with z|z
   ·exact hx y z
   ·rw [aba.mp z];exact ⟨t0,ab3 t1 (by decide)⟩
  ·obtain ⟨i,c,xs,sd,o,ex,ic,xl,hx,d0,d1,rfl,rfl⟩:=hj;have c0:c=0:=by have:=congrArg List.length ex;rw [i6] at this;exact this.symm
   exact h xs (by omega) hx
def KQ:DF:=λas M q _=>∃t b:Int,as=[.int t,.int b]/\0<b/\iL b/\q (Τ (aq t b)) M
theorem kN:Δ ["_law_top","_law_bottom","_law_one","_law_two"] ["_law_top","_law_bottom"] (τ l9):= .of rfl
theorem wI{f:Addr}{fd:FuncData}(F:cJ K "_law_lowest" "_law_lowest" l9 f fd)(E:Ev K mg w Cm):ah P w K mg base (bU P w) 1 f fd ["_law_top","_law_bottom"] (cC K KQ):=by
 refine F.df kN (λds M q x h=>?_) (λaT A outer s H E' hr=>⟨_,(η (J7 (i:=2) (j:=3) kN.nd rfl rfl (ι (EA E.qX (Υ (jv 0) θ)) (Υ (jv 1) θ) (hs:=aQ)))
   (η (nE (rH hr (jv 3) ω) (μ (J7 (i:=2) (j:=3) kN.nd rfl rfl (Υ (jv 3) (ι (bY (jv 2) (jv 3)) θ (hs:=bV))))))
   (μ (Ε (c7 (ι (kK (jv 0) (jv 2)) (ι (kK (jv 1) (jv 2)) θ (hs:=bV)) (hs:=bV))))))),λds M q x h=>?_⟩)
 ·obtain ⟨t,b,rfl,_⟩:=h;rfl
 ·obtain ⟨t,b,rfl,h0,h1,h⟩:=h;have ga:g (if t<0 then -t else t) b=g t b:=by have:=N_ t b;rwa [if_neg (show¬b<0 by omega)] at this
  refine ⟨λm ρ M'=>M'=M/\∃(x y:Int),ρ=[some (.int t),some (.int b),some (.int x),some (.int y)]/\0<=x/\0<=y/\g x y=g t b/\m=y.toNat,⟨_,rfl,_,_,rfl,by split <;> omega,by omega,ga,rfl⟩,?_⟩;rintro m ρ M' ⟨rfl,x,y,rfl,hx,hy,e,rfl⟩;refine ⟨λhb=>?_,λhb=>?_⟩
  ·have Md:y≠0:=by simpa using hb
   refine ⟨_,λρ' M2 h2=>h2,?_⟩;refine ⟨by omega,(x%y).toNat,?_,rfl,y,x%y,rfl,hy,aaV _ Md,?_,rfl⟩
   ·have:=aaQ x (show 0<y by omega);have:=aaV x Md;omega
   ·rw [<-abC x hy,IA (by omega)];exact e
  ·have Md:y=0:=by simpa using hb
   subst Md;rw [Jd hx] at e;subst e;have hg:0<g t b:=vU (by omega);have hle:g t b<=b:=abS h0 (Int.gcd_dvd_right ..);have hb:iL (g t b):=aaM (show (g t b).natAbs<=b.natAbs by omega) h1;have e:aq t b=(t/g t b,b/g t b):=by rw [xQ h0,abn _ (aaj hg),abn _ (aaj hg)]
   rw [e] at h;exact ⟨⟨hg,hb⟩,⟨hg,hb⟩,(by show 2<=sizeLine;decide),h⟩
def Ls:DF:=λas M q _=>∃n:Int,as=[.int n]/\∀b,q (.bl b) M
theorem ug:Δ ["_law_number"] ["_law_number"] (τ jj):= .of rfl
theorem rq{f:Addr}{fd:FuncData}(F:cJ K "_law_by_digits" "_law_by_digits" jj f fd)(E:Ev K mg w Cm):ah P w K mg base (bU P w) 1 f fd ["_law_number"] (cC K Ls):=by
 refine F.df ug (λds M q x h=>?_) (λaT A outer s H E' hr=>⟨_,(μ (Ε (WL (jv 0) (i5 ω ω)))),λds M q x h=>?_⟩)
 ·obtain ⟨n,rfl,_⟩:=h;rfl
 ·obtain ⟨n,rfl,h⟩:=h;exact ⟨p18,h _⟩
def Bb(ss:List Int):Dt:= .lst (ss.map Dt.int)
structure Ku(ss:List Int):Prop where
 len:ss.length=5
 pos:∀s∈ss,0<s/\s<=2*10^30+1
theorem UO{ss:List Int}(h:Ku ss){j:Int}:∃s,oJ (ss.map Dt.int) (j%5)=some (.int s)/\0<s/\s<=2*10^30+1:=by
 have j0:=aaV j (show (5:Int)≠0 by decide);have j1:=aaQ j (show (0:Int)<5 by decide);have hl:(j%5).toNat<ss.length:=by rw [h.len];omega
 have:=hU hl;rw [show (((j%5).toNat:Nat):Int)=j%5 by omega] at this;exact ⟨_,this,h.pos _ (aay hl)⟩
def Et:DF:=λas M q _=>∃(n k:Int) (ai:Nat) (ss:List Int),as=[.int n,.int k,.int (ai:Nat),Bb ss]/\Nm n/\0<=k/\k<=12/\ai<=30/\Ku ss/\∀xs:List Int,xs.length=ai->(∀x∈xs,Xs x)->q (.loc M.length) (M++[.lst (xs.map Dt.int)])
theorem fK:Δ ["_law_number","_law_k","_law_many","_law_sizes","_law_some","_law_rest","_law_j"] ["_law_number","_law_k","_law_many","_law_sizes"] (τ mr):= .of rfl
theorem yr{f:Addr}{fd:FuncData}(F:cJ K "_law_things" "_law_things" mr f fd)(E:Ev K mg w Cm){eB:Addr}{eD:FuncData}(aP:aw P w K mg base 1 "_law_by_digits" ["_law_number"] Ls eB eD){CZ:Addr}{CO:FuncData}(kF:aw P w K mg base 1 "_law_stream" ["_law_number","_law_many"] EB CZ CO):ah P w K mg base (bU P w) 2 f fd ["_law_number","_law_k","_law_many","_law_sizes"] (cC K Et):=by
 refine F.df fK (λds M q x h=>?_) (λaT A outer s H E' hr=>⟨_,(η (aH (gL (cq (ag aP hr ξ (Υ (jv 0) θ)))) (μ (Ε (ag kF hr ξ (ι (cI (aR (jv 0) ω) (jv 1)) (Υ (jv 2) θ) (hs:=bV))))) Φ)
   (η (Γ 4 fK.nd (kW θ))
   (η (Γ 5 fK.nd (kK (jv 0) ω))
   (η (lZ (eY E.cZ (Υ (jv 2) θ)) (aD (i:=6) fK.nd rfl (Or.inl rfl)) ba (η (eW (fR (jv 4) (ι (bY (jv 5) (Ν (jv 3) (bY (jv 6) ω))) θ (hs:=bV))))
   (μ (Γ 5 fK.nd (kK (jv 5) (Ν (jv 3) (bY (jv 6) ω)))))))
   (μ (Ε (jv 4))))))),λds M q x h=>?_⟩)
 ·obtain ⟨n,k,ai,ss,rfl,_⟩:=h;rfl
 ·obtain ⟨n,k,ai,ss,rfl,hn,k0,k1,Xo,so,h⟩:=h;refine ⟨n,rfl,λb=>⟨λ_=>?_,λ_=>?_⟩⟩
  ·refine ⟨⟨x5 hn,bg (k:=10) (by decide)⟩,?_⟩;refine ⟨n*12+k,ai,rfl,?_,by omega,h⟩;obtain ⟨n0,n1⟩:=hn;refine qu (k:=1100) (by omega) ?_ (by decide);exact Int.lt_of_lt_of_le (show n*12+k<10^300*12+13 by omega) (by decide)
  ·refine ⟨by decide,⟨by decide,bg (k:=10) (by decide)⟩,⟨by omega,by omega⟩,?_⟩;rw [show ((ai:Int)).toNat=ai by omega];refine fG (λzs ρ' M'=>∃(i c:Nat) (xs:List Int) (r:Int) (o:Option Dt),zs=e7 (i:Int) c/\i+c=ai/\xs.length=i/\(∀x∈xs,Xs x)/\Nm r/\M'=M++[.lst (xs.map Dt.int)]/\ρ'=[some (.int n),some (.int k),some (.int (ai:Int)),some (Bb ss),some (.loc M.length),some (.int r),o]) (λx zs ρ' M' hj ir=>?_) (λρ' M' hj=>?_) _ _ _ ⟨0,ai,[],_,none,rfl,by omega,rfl,λ_ z=>(nomatch z),I_ hn (by decide),rfl,rfl⟩
   ·obtain ⟨i,c,xs,r,o,ex,ic,xl,hx,fW,rfl,rfl⟩:=hj;obtain ⟨c',rfl,rfl,rfl⟩:=fo ex;obtain ⟨sz,es,s0,s1⟩:=UO so (j:=(i:Int));have rd:∀(M':Ms) (q:DQ),q (.int sz) M'->fV (Bb ss) (.int ((i:Int)%5)) M' q:=λM' q hq=>Ι (d:=Bb ss) rfl es hq;walk_at "vc";refine ⟨⟨_,_,rfl,aZ⟩,?_⟩;refine ⟨by decide,rd _ _ ⟨s0,?_⟩⟩;refine ⟨M.length,_,_,rfl,rfl,aZ,?_,?_⟩
    ·rw [aac,xl];exact aaM (show i<=60 by omega) (by decide)
    rw [eO];refine ⟨by decide,rd _ _ ⟨⟨s0,qu (k:=110) (aaj s0) (aaB s1 (by decide)) (by decide)⟩,?_⟩⟩;refine ir _ _ ⟨i+1,c',xs++[r%sz],_,_,by rw [Int.natCast_add];rfl,by omega,by simp [xl],λy hy=>?_,I_ fW s0,by simp,rfl⟩;rcases aaP.mp hy with z|z
    ·exact hx y z
    ·rw [aba.mp z];exact ⟨aaV _ (by omega),ab3 (aaQ _ s0) (aaB s1 (by decide))⟩
   ·obtain ⟨i,c,xs,r,o,ex,ic,xl,hx,fW,rfl,rfl⟩:=hj;have c0:c=0:=by have:=congrArg List.length ex;rw [i6] at this;exact this.symm
    exact h xs (by omega) hx
def yY:DF:=λas M q _=>∃n low:Int,as=[.int n,.int low]/\Nm n/\1<=low/\low<=1000/\∀p,aM p=true->q (Τ p) M
theorem jB:Δ ["_law_number","_law_low","_law_bottom","_law_top"] ["_law_number","_law_low"] (τ j5):= .of rfl
theorem uI{f:Addr}{fd:FuncData}(F:cJ K "_law_share_of" "_law_share_of" j5 f fd)(E:Ev K mg w Cm){eB:Addr}{eD:FuncData}(aP:aw P w K mg base 1 "_law_by_digits" ["_law_number"] Ls eB eD){dY:Addr}{dW:FuncData}(aN:aw P w K mg base 1 "_law_lowest" ["_law_top","_law_bottom"] KQ dY dW):ah P w K mg base (bU P w) 2 f fd ["_law_number","_law_low"] (cC K yY):=by
 refine F.df jB (λds M q x h=>?_) (λaT A outer s H E' hr=>⟨_,(η (Γ 2 jB.nd (cI ω (bY (jv 0) (jv 1))))
   (η (lY (Γ 3 jB.nd (zc (cq (ag aP hr ξ (Υ (jv 0) θ))) (kK (jv 0) (jv 1)) (bY (aR (jv 0) ω) ω))))
   (μ (Ε (ag aN hr ξ (ι (bY (jv 3) (jv 2)) (Υ (jv 2) θ) (hs:=bV))))))),λds M q x h=>?_⟩)
 ·obtain ⟨n,low,rfl,_⟩:=h;rfl
 ·obtain ⟨n,low,rfl,hn,l1,l2,h⟩:=h;have b0:=aaV n (show low≠0 by omega);have b1:=aaQ n (show 0<low by omega);refine ⟨by omega,?_⟩;dsimp only [y8];generalize n%low=r at *
  have fin:∀t:Int,aM (aq (t%(1+r)) (1+r))=true:=λt=>CG (aaV _ (by omega)) (aaQ _ (by omega)) (by omega);refine ⟨λρ M'=>M'=M/\∃t:Int,ρ=[some (.int n),some (.int low),some (.int (1+r)),some (.int t)],?_,?_⟩
  ·refine ⟨n,rfl,λb=>⟨λ_=>?_,λ_=>?_⟩⟩
   ·exact ⟨⟨by omega,bg (k:=12) (by omega)⟩,rfl,_,rfl⟩
   ·exact ⟨⟨x5 hn,bg (k:=20) (by decide)⟩,by decide,rfl,_,rfl⟩
  ·rintro ρ M' ⟨rfl,t,rfl⟩;exact ⟨by omega,_,_,rfl,by omega,bg (k:=12) (by omega),h _ (fin t)⟩
structure vM(kd:Str)(size:Int)(cs:List Fr)(ds:List bI):Prop where
 fit:∀d∈ds,aF d.1 d.2.1 size=true/\0<d.2.1.2
 Vv:kd="chance"->(∀d∈ds,d.2.2=[υ d])/\ds.map υ=cs.take ds.length
 YL:kd≠"chance"->∀d∈ds,d.2.2=[]
theorem vM.more{kd:Str}{size:Int}{cs:List Fr}{ds:List bI}{d:bI}(h:vM kd size cs ds)(h1:aF d.1 d.2.1 size=true)(h2:0<d.2.1.2)(hl:ds.length<cs.length)(h3:kd="chance"->d.2.2=[cs[ds.length]])(h4:kd≠"chance"->d.2.2=[]):vM kd size cs (ds++[d]):=by
 refine ⟨λe he=>?_,λhc=>⟨λe he=>?_,?_⟩,λhc e he=>?_⟩
 ·rcases aaP.mp he with he|he
  ·exact h.fit e he
  ·have:e=d:=by simpa using he
   subst this;exact ⟨h1,h2⟩
 ·rcases aaP.mp he with he|he
  ·exact (h.Vv hc).1 e he
  ·have:e=d:=by simpa using he
   subst this;unfold υ;rw [h3 hc];rfl
 ·rw [aaX,(h.Vv hc).2,aah];show cs.take ds.length++[υ d]=cs.take (ds.length+1);rw [List.take_succ,aaa hl];unfold υ;rw [h3 hc];rfl
 ·rcases aaP.mp he with he|he
  ·exact h.YL hc e he
  ·have:e=d:=by simpa using he
   subst this;exact h4 hc
theorem vM.good{kd:Str}{size:Int}{cs:List Fr}{ds:List bI}(h:vM kd size cs ds)(hk:χ kd=true\/kd="chance")(h1:1<=ds.length)(h6:ds.length<=6)(hl:ds.length=cs.length)(hc:Ω cs=true)(ho:Qp cs):ia size (.ο kd ds):=by
 by_cases A':kd="chance"
 ·subst A';have e:ds.map υ=cs:=by rw [(h.Vv rfl).2,hl,List.take_length]
  exact GU h1 h6 (λd hd=>(h.fit d hd).1) (h.Vv rfl).1 (by rw [e];exact hc) (by rw [e];exact ho) λd hd=>(h.fit d hd).2
 ·exact Nn (hk.resolve_right A') h1 h6 (λd hd=>(h.fit d hd).1) λd hd=>⟨h.YL A' d hd,(h.fit d hd).2⟩
def RwG(size:Int)(r:Rw):Prop:=ia size r/\∀k ds,r= .ο k ds->χ k=true->∀d∈ds,d.2.2=[]
theorem Mt{k:Str}(h:χ k=true):k≠"chance":=λz=>by subst z;exact absurd h (by decide)
structure xj(cj:Bool)(p:Fr):Prop where
 red:Red p
 fit:aX p=true
 near:cj=false->p.2∣12/\ef p 9
theorem LP{t b:Int}(h1: -(10^30)<=t)(h2:t<=10^30)(h0:0<b)(h3:b<=1000000):xj true (aq t b):=⟨b_ (by omega),Ek h1 h2 h0 h3,λz=>(nomatch z)⟩
theorem Ja{x y:Int}:xj false (aq (x%19-9) (1+y%4)):=by
 have b0:0<1+y%4:=by omega
 refine ⟨b_ (by omega),Ek (by omega) (by omega) b0 (by omega),λ_=>⟨?_,nB b0 (by omega) (by omega)⟩⟩;refine Int.dvd_trans (AZ b0) ?_;have:y%4=0\/y%4=1\/y%4=2\/y%4=3:=by omega
 rcases this with e|e|e|e <;> rw [e] <;> decide
theorem Xs.big{x:Int}(h:Xs x):iL x:=qu h.1 h.2 (by decide)
theorem HC{a b:Int}{j k:Nat}(a0:0<=a)(a1:a<2^j)(b0:0<=b)(b1:b<2^k):0<=a*b/\a*b<2^(j+k):=by refine ⟨aa1 a0 b0,?_⟩;rw [Int.pow_add];exact aaB (aaD (aaj a1) b0) (Int.mul_lt_mul_of_pos_left b1 (Int.pow_pos (by decide)))
def Jq:DF:=λas M q _=>∃(xs:List Int) (cj:Bool),as=[.lst (xs.map Dt.int),.bl cj]/\3<=xs.length/\(∀x∈xs,Xs x)/\∀p,xj cj p->q (Τ p) M
theorem A5:Δ ["_law_xs","_law_far","_law_top"] ["_law_xs","_law_far"] (τ xw):= .of rfl
theorem GO{f:Addr}{fd:FuncData}(F:cJ K "_law_pay" "_law_pay" xw f fd)(E:Ev K mg w Cm){dY:Addr}{dW:FuncData}(aN:aw P w K mg base 1 "_law_lowest" ["_law_top","_law_bottom"] KQ dY dW):ah P w K mg base (bU P w) 2 f fd ["_law_xs","_law_far"] (cC K Jq):=by
 refine F.df A5 (λds M q x h=>?_) (λaT A outer s H E' hr=>⟨_,(η (aH (cq (jv 1)) (η (lY (Γ 2 A5.nd (zc (ES (Ν (jv 0) ω) ω) (aR (aR (aR (Ν (jv 0) ω) (Ν (jv 0) ω)) (Ν (jv 0) ω)) (Ν (jv 0) ω)) (Ν (jv 0) ω))))
   (μ (Ε (ag aN hr ξ (ι (uU (bY (jv 2) (cI (aR ω (i5 ω ω)) ω)) (i5 ω ω)) (ι (cI ω (bY (Ν (jv 0) ω) (i5 ω ω))) θ (hs:=bV)) (hs:=bV)))))) Φ)
   (μ (Ε (ag aN hr ξ (ι (uU (bY (Ν (jv 0) ω) ω) ω) (ι (cI ω (bY (Ν (jv 0) ω) ω)) θ (hs:=bV)) (hs:=bV)))))),λds M q x h=>?_⟩)
 ·obtain ⟨xs,cj,rfl,_⟩:=h;rfl
 ·obtain ⟨xs,cj,rfl,l3,hx,h⟩:=h;have rd:∀(j:Nat) (hj:j<3) (M':Ms) (q:DQ),q (.int (xs[j]'(by omega))) M'->fV (.lst (xs.map Dt.int)) (.int (j:Int)) M' q:=λj hj M' q hq=>Ι (d:= .lst (xs.map Dt.int)) rfl (hU (by omega)) hq;have x0:=hx _ (aay (show 0<xs.length by omega));have x1:=hx _ (aay (show 1<xs.length by omega));have x2:=hx _ (aay (show 2<xs.length by omega));walk_at "vc";refine ⟨λz=>?_,λz=>?_⟩
  ·subst z;refine ⟨λρ M'=>M'=M/\∃t:Int,ρ=[some (.lst (xs.map Dt.int)),some (.bl true),some (.int t)],?_,?_⟩
   ·walk_at "vc";refine rd 2 (by decide) _ _ ⟨λ_=>?_,λ_=>?_⟩
    ·obtain ⟨p0,p1⟩:=HC x0.1 x0.2 x1.1 x1.2;obtain ⟨q0,q1⟩:=HC p0 p1 x2.1 x2.2;refine rd 0 (by decide) _ _ ?_;refine rd 1 (by decide) _ _ ?_;refine ⟨⟨x0.big,x1.big⟩,?_⟩;walk_at "vc";refine rd 2 (by decide) _ _ ?_;refine ⟨⟨qu p0 p1 (by decide),x2.big⟩,?_⟩;walk_at "vc";refine rd 0 (by decide) _ _ ?_;exact ⟨⟨qu q0 q1 (by decide),x0.big⟩,rfl,_,rfl⟩
    ·refine rd 0 (by decide) _ _ ?_;exact ⟨rfl,_,rfl⟩
   ·rintro ρ M' ⟨rfl,t,rfl⟩;have YD:iL ((10:Int)^(30:Int).toNat):=bg (k:=110) (by decide);have m0:(0:Int)<2*10^(30:Int).toNat+1:=by decide
    have hm0:=aaV t (show (2*10^(30:Int).toNat+1:Int)≠0 by decide);have hm1:=aaQ t m0;have SO:0<1+xs[1]%10^(6:Int).toNat/\1+xs[1]%10^(6:Int).toNat<=1000000:=by show 0<1+xs[1]%1000000/\1+xs[1]%1000000<=1000000;omega
    have hb7:iL (1+xs[1]%10^(6:Int).toNat):=qu (k:=20) (aaj SO.1) (aaB SO.2 (by decide)) (by decide);walk_at "vc";refine ⟨X2,⟨bg (k:=4) (by decide),YD⟩,m0,X2,?_⟩;dsimp only [CH];refine rd 1 (by decide) _ _ ?_;refine ⟨p6,(by show (0:Int)<1000000;decide),_,_,rfl,SO.1,hb7,h _ (LP ?_ ?_ SO.1 SO.2)⟩
    ·show -(10^30)<=t%(2*10^(30:Int).toNat+1)-10^30;omega
    ·have e:(10:Int)^(30:Int).toNat=10^30:=rfl;rw [e] at hm1;show t%(2*10^30+1)-10^30<=10^30;omega
  ·subst z;refine rd 0 (by decide) _ _ ?_;refine ⟨by decide,?_⟩;dsimp only [CH];refine (rd 1 (by decide) _ _ ?_:fV (.lst (xs.map Dt.int)) (.int 1) _ _);exact ⟨by decide,_,_,rfl,by omega,bg (k:=10) (by omega),h _ Ja⟩
def UB(cj:Bool)(size:Int)(r:Rw):Prop:=RwG size r/\(∀p,r= .fin p->xj cj p)/\∀k ds,r= .ο k ds->∀d∈ds,xj cj d.2.1
theorem OJ(c:Nat):sliceRange ((4:Nat):Int) ((5*c:Nat):Int) ((5:Nat):Int)=(List.range c).map λk=>5*k+4:=by
 unfold sliceRange;have hc:(if ((4:Nat):Int)<((5*c:Nat):Int) then (((5*c:Nat):Int)-((4:Nat):Int)+((5:Nat):Int)-1)/((5:Nat):Int) else 0)=c:=by split <;> omega
 simp only [show ((5:Nat):Int) > 0 by decide,if_true,hc,Int.toNat_natCast];apply aaO;intro k _;omega
theorem UI{c:Nat}{ds:List Dt}{xs:List Int}(e:ds=xs.map Dt.int)(h:xs.length=5*c):i7 (sliceRange ((4:Nat):Int) (ds.length:Int) ((5:Nat):Int)) ds=((List.range c).map λk=>xs.getD (5*k+4) 0).map Dt.int:=by
 subst e;rw [aac,h,OJ];unfold i7;rw [List.filterMap_map,aau];have:∀l:List Nat,(∀k∈l,k<c)->l.filterMap ((λi=>(xs.map Dt.int)[i]?) ∘ λk=>5*k+4)=l.map (Dt.int ∘ λk=>xs.getD (5*k+4) 0):=λl=>by
  induction l with
  |nil=>intro _;rfl
  |cons k l ih=>
   intro hk;have kc:=hk k aae;have e:((λi=>(xs.map Dt.int)[i]?) ∘ λk=>5*k+4) k=some (Dt.int (xs.getD (5*k+4) 0)):=by show (xs.map Dt.int)[5*k+4]? =_;rw [aal,aab,aaa (by omega)];rfl
   rw [abY,e,aaA,<-ih λz hz=>hk z (aad _ hz)];rfl
 exact this _ λk hk=>aaT.mp hk
def D':DF:=λas M q _=>∃(kd:Str) (xs:List Int) (ai:Int) (cj:Bool) (c:Nat),as=[.str kd,.lst (xs.map Dt.int),.int ai,.bl cj]/\xs.length=5*c/\1<=c/\c<=6/\(∀x∈xs,Xs x)/\1<=ai/\ai<=12/\(χ kd=true\/kd="chance")/\∀ds,ds.length=c->UB cj ai (.ο kd ds)->q (.loc M.length) (M++[.lst (ds.map dt)])
theorem dN:Δ ["_law_kind","_law_xs","_law_many","_law_far","_law_doors_here","_law_parts","_law_k","_law_door"] ["_law_kind","_law_xs","_law_many","_law_far"] (τ oU):= .of rfl
theorem AD{f:Addr}{fd:FuncData}(F:cJ K "_law_doors" "_law_doors" oU f fd)(E:Ev K mg w Cm){wd:Addr}{yq:FuncData}(iZ:aw P w K mg base 2 "_law_pay" ["_law_xs","_law_far"] Jq wd yq){dY:Addr}{dW:FuncData}(aN:aw P w K mg base 1 "_law_lowest" ["_law_top","_law_bottom"] KQ dY dW):ah P w K mg base (bU P w) 4 f fd ["_law_kind","_law_xs","_law_many","_law_far"] (cC K D'):=by
 refine F.df dN (λds M q x h=>?_) (λaT A outer s H E' hr=>⟨_,(η (Γ 4 dN.nd (kW θ))
   (η (iq (i:=5) dN.nd rfl (Or.inl rfl) (ys:=["_law_far"]) (ae:=[3]) (.of dN rfl rfl rfl) (bf (b9 (QP (a:=4) (b:=5) (jv 1) ω ω))) (λC s H fp=>(cI ω (bY (jv 0) (Ν (eR 3 (d:= .lst [.int 4,.int 150000]) (by rfl)) (N6 E.uX (Υ (jv 1) θ)))))))
   (η (lZ (eY E.cZ (ι (c8 E.bX (Υ (jv 5) θ)) θ (hs:=aQ))) (aD (i:=6) dN.nd rfl (Or.inl rfl)) ba (η (Γ 7 dN.nd (c7 (ι (bY (Ν (jv 1) (cI (aR ω (jv 6)) ω)) (jv 2)) (ι (ag iZ hr ξ (ι (b9 (uZ (jv 1) (aR ω (jv 6)) (cI (aR ω (jv 6)) ω))) (Υ (jv 3) θ) (hs:=aV))) θ (hs:=aQ)) (hs:=bV))))
   (η (lY (aH (e6 hr (jv 0) jI) (μ (Γ 7 dN.nd (cI (jv 7) (c7 (ι (ag aN hr ξ (ι (Ν (jv 5) (jv 6)) (ι (OE E.zt (Υ (jv 5) θ)) θ (hs:=aQ)) (hs:=aV))) θ (hs:=aQ)))))) Φ))
   (μ (eW (fR (jv 4) (Υ (jv 7) θ)))))))
   (μ (Ε (jv 4)))))),λds M q x h=>?_⟩)
 ·obtain ⟨kd,xs,ai,cj,c,rfl,_⟩:=h;rfl
 ·obtain ⟨kd,xs,ai,cj,c,rfl,xl,c1,c6,hx,s1,s12,O5,h⟩:=h;have sl:∀{z:Nat},z<=1000->z<=sizeLine:=λh=>aap h (by decide);refine ⟨by decide,?_⟩;generalize hM0:M++[MO.lst []]=M0;dsimp only [oM,e_,S4,OF];walk_at "vc";refine ⟨rfl,_,rfl,rfl,by rw [aac];omega,?_,?_⟩
  ·rw [aac,xl,OJ,aac,aaN];omega
  rw [UI rfl xl];refine da (ig _) ?_;obtain ⟨most,em,m0,m1⟩:∃most:Int,(∀(M':Ms) (q:DQ),q (.int most) M'->fV (.lst [.int 4,.int 150000]) (.int (if cj=true then 1 else 0)) M' q)/\0<most/\most<=150000:=by
   cases cj with
   |true=>exact ⟨150000,λM' q hq=>Ι (d:= .lst [.int 4,.int 150000]) rfl (Θ (j:=1) rfl) hq,by decide,by decide⟩
   |false=>exact ⟨4,λM' q hq=>Ι (d:= .lst [.int 4,.int 150000]) rfl bq hq,by decide,by decide⟩
  refine ⟨by rw [aac,aac,aaN];exact sl (by omega),?_⟩;refine cB (F:=λx n=>x=Dt.int n) (f:=λn=> .int (1+n%most)) (as:=(List.range c).map λk=>xs.getD (5*k+4) 0) trivial (λx n RS qq hq=>?_) ?_ ?_
  ·subst RS;walk_at "vc";show yU [.bl cj] M0 λd2 M2=>fV (.lst [.int 4,.int 150000]) d2 M2 λd2 M2=>LY (.int n) d2 M2 λd2 M2=>y8 (.int 1) d2 M2 qq;dsimp only [yU];refine em _ _ ?_;exact ⟨m0,hq⟩
  ·have:∀l:List Int,Paired (λx n=>x=Dt.int n) (l.map Dt.int) l:=λl=>by
    induction l with
    |nil=>exact .nil
    |cons a l ih=>exact .cons rfl ih
   exact this _
  rw [aaF,aau];generalize Tj:((List.range c).map λk=>1+xs.getD (5*k+4) 0%most)=ws;have ew:(List.range c).map ((λn=>Dt.int (1+n%most)) ∘ λk=>xs.getD (5*k+4) 0)=ws.map Dt.int:=by rw [<-Tj,aau];rfl
  rw [ew];have wl:ws.length=c:=by rw [<-Tj,aac,aaN]
  have w0:∀w∈ws,0<w/\w<=most:=λw hw=>by rw [<-Tj] at hw;obtain ⟨y,_,rfl⟩:=aag.mp hw;have e0:=aaV (xs.getD (5*y+4) 0) (show most≠0 by omega);have e1:=aaQ (xs.getD (5*y+4) 0) m0;omega
  have hS:ws.sum<=1000000:=by have:=Jh λw YS=>(w0 w YS).2;rw [wl] at this;have:(c:Int)*most<=6*150000:=abr (by omega) m1 (by omega) (by decide);omega
  have lI:ws≠[]:=λz=>by rw [z] at wl;simp at wl;omega
  have Y0:=EF (λw hw=>(w0 w hw).1) lI;obtain ⟨cc1,cc2⟩:=CN (S:=ws.sum) rfl (λw YS=>(w0 w YS).1) lI hS (by omega);have cl:(ws.map λw=>aq w ws.sum).length=c:=by rw [aac,wl]
  have bS:iL ws.sum:=bg (k:=21) (by omega);clear Tj;refine (aE (d:= .lst (ws.map .int)) (xs:=ws.map .int) rfl ?_:iD [.lst (ws.map .int)] _ _);rw [aac,wl];refine ⟨⟨by omega,by omega⟩,?_⟩;rw [show ((c:Int)).toNat=c by omega];subst hM0;refine fG (λzs ρ M'=>∃(n k:Nat) (ds:List bI) (o1 o2:Option Dt),zs=e7 k n/\k+n=c/\ds.length=k/\vM kd ai (ws.map λw=>aq w ws.sum) ds/\(∀d∈ds,xj cj d.2.1)/\M'=M++[MO.lst (ds.map dt)]/\ρ=[some (.str kd),some (.lst (xs.map Dt.int)),some (.int ai),some (.bl cj),some (.loc M.length),some (.lst (ws.map .int)),o1,o2]) (λx zs ρ M' hj ir=>?_) (λρ M' hj=>?_) _ _ _ ⟨c,0,[],none,none,by simp,by simp,rfl,⟨λ_ z=>(nomatch z),λ_=>⟨λ_ z=>(nomatch z),rfl⟩,λ_ _ z=>(nomatch z)⟩,λ_ z=>(nomatch z),rfl,rfl⟩
  ·obtain ⟨n,k,ds,o1,o2,ex,Zj,hl,hd,hp,rfl,rfl⟩:=hj;obtain ⟨m,rfl,rfl,rfl⟩:=fo ex;have k6:(k:Int)<6:=by omega
   have kx:5*k+3<xs.length:=by omega
   have kw:k<ws.length:=by omega
   have RI:(M++[MO.lst (ds.map dt)])[M.length]? =some (.lst (ds.map dt)):=by simp
   have setM:∀y:bI,(M++[MO.lst (ds.map dt)]).set M.length (.lst (ds.map dt++[dt y]))=M++[.lst ((ds++[y]).map dt)]:=λy=>by simp
   have lt:(ds.map dt).length<sizeLine:=by rw [aac,hl];exact aaM (show k<=12 by omega) (by decide)
   have e5:5*(k:Int)+3=((5*k+3:Nat):Int):=by omega
   have e50:5*(k:Int)=((5*k:Nat):Int):=by omega
   have b5:iL (5:Int):=bg (k:=10) (by decide);have bk:iL (k:Int):=bg (k:=10) (by omega);walk_at "vc";refine ⟨⟨b5,bk⟩,?_⟩;dsimp only [y8];rw [e5];refine (Ι (d:= .lst (xs.map .int)) rfl (hU kx) ?_:fV (.lst (xs.map .int)) (.int ((5*k+3:Nat):Int)) _ _);refine ⟨by omega,⟨b5,bk⟩,5*k,by rw [e50],⟨b5,bk⟩,xs.map Dt.int,5*k+3,rfl,by rw [<-e5],?_⟩;rw [<-ab9,<-ab8];refine da (ig _) ?_;refine ⟨(xs.drop (5*k)).take (5*k+3-5*k),cj,rfl,by rw [abN,abj];omega,λy hy=>hx y (List.mem_of_mem_drop (List.mem_of_mem_take hy)),λp pp=>⟨by show 2<=sizeLine;decide,?_⟩⟩;have Zz:=pp.red.pos;have LH:aF (xs[5*k+3]%ai) p ai=true:=Me (aaV _ (by omega)) (aaQ _ (by omega)) pp.fit;refine ⟨λρ M2=>M2=M++[MO.lst (ds.map dt)]/\∃d:bI,(aF d.1 d.2.1 ai=true/\0<d.2.1.2/\(kd="chance"->d.2.2=[aq ws[k] ws.sum])/\(kd≠"chance"->d.2.2=[])/\xj cj d.2.1)/\ρ=[some (.str kd),some (.lst (xs.map Dt.int)),some (.int ai),some (.bl cj),some (.loc M.length),some (.lst (ws.map .int)),some (.int (k:Int)),some (dt d)],⟨λhc=>?_,λhc=>?_⟩,?_⟩
   ·have hc:kd="chance":=of_decide_eq_true hc;walk_at "vc";refine (Ι (d:= .lst (ws.map .int)) rfl (hU kw) ?_:fV (.lst (ws.map .int)) (.int (k:Int)) _ _);exact ⟨ws,rfl,⟨_,_,rfl⟩,_,_,rfl,Y0,bS,(by show 1<=sizeLine;decide),⟨by simp,by show 3<=sizeLine;decide⟩,rfl,(xs[5*k+3]%ai,p,[aq ws[k] ws.sum]),⟨LH,Zz,λ_=>rfl,λz=>absurd hc z,pp⟩,rfl⟩
   ·have hc:kd≠"chance":=of_decide_eq_false hc;exact ⟨rfl,(xs[5*k+3]%ai,p,[]),⟨LH,Zz,λz=>absurd z hc,λ_=>rfl,pp⟩,rfl⟩
   ·rintro ρ2 M2 ⟨rfl,d,⟨d1,d2,d3,d4,d5⟩,rfl⟩;refine ⟨⟨M.length,_,rfl,RI⟩,M.length,_,_,rfl,rfl,RI,lt,?_⟩;rw [setM d];refine ir _ _ ⟨m,k+1,ds++[d],_,_,by simp,by omega,by simp [hl],hd.more d1 d2 (by rw [cl];omega) (λz=>?_) d4,λy hy=>?_,rfl,rfl⟩
    ·rw [d3 z];simp [hl]
    ·rcases aaP.mp hy with z|z
     ·exact hp y z
     ·rw [aba.mp z];exact d5
  ·obtain ⟨n,k,ds,o1,o2,ex,Zj,hl,hd,hp,rfl,rfl⟩:=hj;have hn:n=0:=by have:=congrArg List.length ex;unfold e7 at this;simpa using this.symm
   refine h ds (by omega) ⟨⟨hd.good O5 (by omega) (by omega) (by rw [cl];omega) cc1 cc2,λk' mS e hk d wD=>by cases e;exact hd.YL (Mt hk) d wD⟩,λp e=>(nomatch e),λk' mS e d wD=>by cases e;exact hp d wD⟩
theorem Qr{n:Int}:∃kd:Str,oJ [Dt.str "one",Dt.str "other",Dt.str "chance",Dt.str "end",Dt.str "one",Dt.str "other",Dt.str "chance",Dt.str "chance"] (n%8)=some (.str kd)/\(χ kd=true\/kd="chance"\/kd="end"):=by
 have:n%8=0\/n%8=1\/n%8=2\/n%8=3\/n%8=4\/n%8=5\/n%8=6\/n%8=7:=by omega
 rcases this with e|e|e|e|e|e|e|e <;> rw [e]
 ·exact ⟨_,bq,.inl (by decide)⟩
 ·exact ⟨_,Θ (j:=1) rfl,.inl (by decide)⟩
 ·exact ⟨_,Θ (j:=2) rfl,.inr (.inl rfl)⟩
 ·exact ⟨_,Θ (j:=3) rfl,.inr (.inr rfl)⟩
 ·exact ⟨_,Θ (j:=4) rfl,.inl (by decide)⟩
 ·exact ⟨_,Θ (j:=5) rfl,.inl (by decide)⟩
 ·exact ⟨_,Θ (j:=6) rfl,.inr (.inl rfl)⟩
 ·exact ⟨_,Θ (j:=7) rfl,.inr (.inl rfl)⟩
theorem UK{n:Int}:∃m:Int,oJ [Dt.int 4,Dt.int 4,Dt.int 4,Dt.int 4,Dt.int 4,Dt.int 4,Dt.int 6,Dt.int 12] (n%8)=some (.int m)/\1<=m/\m<=12/\(n%8=5->m=4):=by
 have:n%8=0\/n%8=1\/n%8=2\/n%8=3\/n%8=4\/n%8=5\/n%8=6\/n%8=7:=by omega
 rcases this with e|e|e|e|e|e|e|e <;> rw [e]
 ·exact ⟨_,bq,by decide,by decide,by decide⟩
 ·exact ⟨_,Θ (j:=1) rfl,by decide,by decide,by decide⟩
 ·exact ⟨_,Θ (j:=2) rfl,by decide,by decide,by decide⟩
 ·exact ⟨_,Θ (j:=3) rfl,by decide,by decide,by decide⟩
 ·exact ⟨_,Θ (j:=4) rfl,by decide,by decide,by decide⟩
 ·exact ⟨_,Θ (j:=5) rfl,by decide,by decide,by decide⟩
 ·exact ⟨_,Θ (j:=6) rfl,by decide,by decide,by decide⟩
 ·exact ⟨_,Θ (j:=7) rfl,by decide,by decide,by decide⟩
theorem VW{n:Int}:∃m:Int,oJ [Dt.int 10,Dt.int 10,Dt.int 10,Dt.int 10,Dt.int 1,Dt.int 1000,Dt.int 10,Dt.int 10] (n%8)=some (.int m)/\1<=m/\m<=1000:=by
 have:n%8=0\/n%8=1\/n%8=2\/n%8=3\/n%8=4\/n%8=5\/n%8=6\/n%8=7:=by omega
 rcases this with e|e|e|e|e|e|e|e <;> rw [e]
 ·exact ⟨_,bq,by decide,by decide⟩
 ·exact ⟨_,Θ (j:=1) rfl,by decide,by decide⟩
 ·exact ⟨_,Θ (j:=2) rfl,by decide,by decide⟩
 ·exact ⟨_,Θ (j:=3) rfl,by decide,by decide⟩
 ·exact ⟨_,Θ (j:=4) rfl,by decide,by decide⟩
 ·exact ⟨_,Θ (j:=5) rfl,by decide,by decide⟩
 ·exact ⟨_,Θ (j:=6) rfl,by decide,by decide⟩
 ·exact ⟨_,Θ (j:=7) rfl,by decide,by decide⟩
def cH(k:Str)(n:Nat):Nat:=if χ k=true then n else 1
def ij:List Rw->Nat
 |[]=>1
 |r::rs=>cH (kindOf r) (Η r).length*ij rs
theorem oZ:∀(rs:List Rw) (r:Rw),ij (rs++[r])=ij rs*cH (kindOf r) (Η r).length
 |[],r=>by show cH _ _*1=1*_;omega
 |a::rs,r=>by show cH _ _*ij (rs++[r])=cH _ _*ij rs*_;rw [oZ rs r,Nat.mul_assoc]
theorem ND{a c r rm:Int}(ha:0<=a)(h:c*r<=rm)(l:a*rm<=30):a*c*r<=30:=by rw [ab7];exact abm (aar h ha) l
structure LF(ε:Fr)(γ:List Rw)(cj:Bool):Prop where
 sh:aM ε=true
 n1:1<=γ.length
 vg:γ.length<=12
 n4:cj=true->γ.length<=4
 row:∀r∈γ,UB cj γ.length r
 pr:ij γ<=30
def Ce(cj:Bool)(ai:Int):List Int:=if cj=true then [2*10^(30:Int).toNat+1,10^(6:Int).toNat,1,ai,150000] else [19,4,1,ai,4]
theorem TJ{cj:Bool}{ai:Int}(h1:1<=ai)(h2:ai<=12):Ku (Ce cj ai):=by
 have Xo:ai<=2*10^30+1:=abm h2 (by decide);cases cj with
 |true=>
  refine ⟨rfl,λs hs=>?_⟩;have hs:s∈[2*10^(30:Int).toNat+1,10^(6:Int).toNat,1,ai,150000]:=hs;simp only [List.mem_cons,List.not_mem_nil,or_false] at hs;rcases hs with e|e|e|e|e
  ·rw [e];decide
  ·rw [e];decide
  ·rw [e];decide
  ·rw [e];exact ⟨by omega,Xo⟩
  ·rw [e];decide
 |false=>
  refine ⟨rfl,λs hs=>?_⟩;have hs:s∈[19,4,1,ai,4]:=hs;simp only [List.mem_cons,List.not_mem_nil,or_false] at hs;rcases hs with e|e|e|e|e
  ·rw [e];decide
  ·rw [e];decide
  ·rw [e];decide
  ·rw [e];exact ⟨by omega,Xo⟩
  ·rw [e];decide
theorem T'{n:Int}:∃r:Int,oJ [Dt.int 30,Dt.int 30,Dt.int 30,Dt.int 30,Dt.int 30,Dt.int 12,Dt.int 24,Dt.int 12] (n%8)=some (.int r)/\1<=r/\r<=30:=by
 have:n%8=0\/n%8=1\/n%8=2\/n%8=3\/n%8=4\/n%8=5\/n%8=6\/n%8=7:=by omega
 rcases this with e|e|e|e|e|e|e|e <;> rw [e]
 ·exact ⟨_,bq,by decide,by decide⟩
 ·exact ⟨_,Θ (j:=1) rfl,by decide,by decide⟩
 ·exact ⟨_,Θ (j:=2) rfl,by decide,by decide⟩
 ·exact ⟨_,Θ (j:=3) rfl,by decide,by decide⟩
 ·exact ⟨_,Θ (j:=4) rfl,by decide,by decide⟩
 ·exact ⟨_,Θ (j:=5) rfl,by decide,by decide⟩
 ·exact ⟨_,Θ (j:=6) rfl,by decide,by decide⟩
 ·exact ⟨_,Θ (j:=7) rfl,by decide,by decide⟩
def DW:DF:=λas M q _=>∃ns:List Int,as=[.kj ns]/\ns.length<=63/\∀ε γ cj,LF ε γ cj->q (.tup [Τ ε,.loc M.length]) (M++[.lst (γ.map aS)])
theorem aG:Δ ["_law_script","_law_begun","_law_how","_law_places","_law_many","_law_share","_law_sizes","_law_rows","_law_room","_law_k","_law_number","_law_kind","_law_count","_law_xs"] ["_law_script"] (τ pY):= .of rfl
theorem AM{f:Addr}{fd:FuncData}(F:cJ K "_law_floor" "_law_floor" pY f fd)(E:Ev K mg w Cm){CP:Addr}{Cg:FuncData}(h8:aw P w K mg base 1 "_law_at" ["_law_script","_law_k"] W7 CP Cg){eB:Addr}{eD:FuncData}(aP:aw P w K mg base 1 "_law_by_digits" ["_law_number"] Ls eB eD){zq:Addr}{zd:FuncData}(jh:aw P w K mg base 2 "_law_share_of" ["_law_number","_law_low"] yY zq zd){wd:Addr}{yq:FuncData}(iZ:aw P w K mg base 2 "_law_pay" ["_law_xs","_law_far"] Jq wd yq){Bw:Addr}{BC:FuncData}(h7:aw P w K mg base 2 "_law_things" ["_law_number","_law_k","_law_many","_law_sizes"] Et Bw BC){Fl:Addr}{Fz:FuncData}(lR:aw P w K mg base 4 "_law_doors" ["_law_kind","_law_xs","_law_many","_law_far"] D' Fl Fz):ah P w K mg base (bU P w) 5 f fd ["_law_script"] (cC K DW):=by
 refine F.df aG (λds M q x h=>?_) (λaT A outer s H E' hr=>⟨_,(η (Γ 1 aG.nd (ag h8 hr ξ (Υ (jv 0) (ι ω θ (hs:=fQ)))))
   (η (Γ 2 aG.nd (bY (jv 1) ω))
   (η (lY (Γ 3 aG.nd (zc (cq (ag aP hr ξ (Υ (jv 1) θ))) (kK (jv 1) ω) (bY (aR (jv 1) ω) ω))))
   (η (Γ 4 aG.nd (cI ω (bY (jv 3) (Ν (eR 3 (d:= .lst [.int 4,.int 4,.int 4,.int 4,.int 4,.int 4,.int 6,.int 12]) (by rfl)) (jv 2)))))
   (η (Γ 5 aG.nd (ag jh hr ξ (ι (ag h8 hr ξ (Υ (jv 0) (ι ω θ (hs:=fQ)))) (ι (Ν (eR 3 (d:= .lst [.int 10,.int 10,.int 10,.int 10,.int 1,.int 1000,.int 10,.int 10]) (by rfl)) (jv 2)) θ (hs:=aV)) (hs:=aQ))))
   (η (Γ 6 aG.nd (Ν (lH (ι (lH (ι ω (ι ω (ι ω (Υ (jv 4) (ι ω θ (hs:=fQ))) (hs:=fQ)) (hs:=fQ)) (hs:=fQ))) (ι (lH (ι (cI (aR ω (i5 ω ω)) ω) (ι (i5 ω ω) (ι ω (Υ (jv 4) (ι ω θ (hs:=fQ))) (hs:=fQ)) (hs:=bV)) (hs:=bV))) θ))) (N6 E.uX (ι (Io hr (jv 2) ω) θ (hs:=Ds)))))
   (η (Γ 7 aG.nd (kW θ))
   (η (Γ 8 aG.nd (Ν (eR 3 (d:= .lst [.int 30,.int 30,.int 30,.int 30,.int 30,.int 12,.int 24,.int 12]) (by rfl)) (jv 2)))
   (η (lZ (eY E.cZ (Υ (jv 4) θ)) (aD (i:=9) aG.nd rfl (Or.inl rfl)) ba (η (Γ 10 aG.nd (ag h8 hr ξ (Υ (jv 0) (ι (cI ω (jv 9)) θ (hs:=bV)))))
   (η (Γ 11 aG.nd (Ν (eR 3 (d:= .lst [.str "one",.str "other",.str "chance",.str "end",.str "one",.str "other",.str "chance",.str "chance"]) (by rfl)) (bY (jv 10) ω)))
   (η (lY (Γ 12 aG.nd (cI ω (bY (zc (cq (ag aP hr ξ (Υ (jv 10) θ))) (kK (jv 10) ω) (bY (aR (jv 10) ω) ω)) ω))))
   (η (lY (aH (JW.jt (lN (e6 hr (jv 11) jI) (kO (e6 hr (jv 11) jI)))) (η (Γ 12 aG.nd (T8 E.Dz (Υ (jv 12) (Υ (jv 8) θ))))
   (μ (Γ 8 aG.nd (kK (jv 8) (jv 12))))) Φ))
   (μ (aH (e6 hr (jv 11) jI) (μ (eW (fR (jv 7) (ι (c7 (Υ (jv 11) (ι (ag iZ hr ξ (ι (b9 (ag h7 hr ξ (Υ (jv 10) (Υ (jv 9) (ι ω (Υ (jv 6) θ) (hs:=fQ)))))) (ι (Io hr (jv 2) ω) θ (hs:=Ds)) (hs:=aQ))) θ (hs:=aQ)))) θ (hs:=DZ))))) (η (Γ 13 aG.nd (b9 (ag h7 hr ξ (Υ (jv 10) (Υ (jv 9) (ι (aR ω (jv 12)) (Υ (jv 6) θ) (hs:=bV)))))))
   (μ (eW (fR (jv 7) (ι (c7 (Υ (jv 11) (ι (b9 (ag lR hr ξ (Υ (jv 11) (Υ (jv 13) (Υ (jv 4) (ι (Io hr (jv 2) ω) θ (hs:=Ds))))))) θ (hs:=aQ)))) θ (hs:=DZ)))))))))))))
   (μ (Ε (c7 (Υ (jv 5) (Υ (jv 7) θ)))))))))))))),λds M q x h=>?_⟩)
 ·obtain ⟨ns,rfl,_⟩:=h;rfl
 ·obtain ⟨ns,rfl,nl,h⟩:=h;refine ⟨ns,0,rfl,nl,by decide,by decide,λb0 Lm=>⟨by decide,?_⟩⟩;refine ⟨λρ M'=>M'=M/\∃t:Int,ρ=[some (.kj ns),some (.int b0),some (.int (b0%8)),some (.int t),none,none,none,none,none,none,none,none,none,none],?_,?_⟩
  ·refine ⟨b0,rfl,λb=>⟨λ_=>?_,λ_=>?_⟩⟩
   ·exact ⟨⟨by decide,bg (k:=10) (by decide)⟩,rfl,_,rfl⟩
   ·exact ⟨⟨x5 Lm,bg (k:=20) (by decide)⟩,by decide,rfl,_,rfl⟩
  rintro ρ M' ⟨rfl,t,rfl⟩;obtain ⟨mx,emx,mx1,abJ,mx5⟩:=UK (n:=b0);obtain ⟨low,V3,Zm,XG⟩:=VW (n:=b0);have t0:=aaV t (show mx≠0 by omega);have t1:=aaQ t (show 0<mx by omega);walk_at "vc";refine (Ι rfl emx ?_:fV (.lst [Dt.int 4,Dt.int 4,Dt.int 4,Dt.int 4,Dt.int 4,Dt.int 4,Dt.int 6,Dt.int 12]) (.int (b0%8)) _ _);refine ⟨by omega,?_⟩;dsimp only [y8];obtain ⟨sz,hz,z1,z12,z4⟩:∃sz:Nat,1+t%mx=(sz:Int)/\1<=sz/\sz<=12/\(b0%8=5->sz<=4):=⟨(1+t%mx).toNat,by omega,by omega,by omega,λz=>by have:=mx5 z;omega⟩;rw [hz];refine ⟨ns,1,rfl,nl,by decide,by decide,λb1 Z4=>?_⟩;refine (Ι rfl V3 ?_:fV (.lst [Dt.int 10,Dt.int 10,Dt.int 10,Dt.int 10,Dt.int 1,Dt.int 1000,Dt.int 10,Dt.int 10]) (.int (b0%8)) _ _);refine ⟨b1,low,rfl,Z4,Zm,XG,λε hs=>?_⟩;obtain ⟨cj,LL⟩:∃cj,cj=decide (b0%8=5):=⟨_,rfl⟩;have YD:iL ((10:Int)^(30:Int).toNat):=bg (k:=110) (by decide);have sl:∀{z:Nat},z<=1000->z<=sizeLine:=λh=>aap h (by decide);refine ⟨sl (by decide),X2,⟨bg (k:=4) (by decide),YD⟩,p6,sl (by decide),sl (by decide),?_⟩;have rd:∀(M':Ms) (q:DQ),q (Bb (Ce cj sz)) M'->Bx (.int (b0%8)) (.int 5) M' λd M1=>yU [d] M1 λd2 M2=>fV (.lst [.lst [.int 19,.int 4,.int 1,.int (sz:Int),.int 4],.lst [.int (2*10^(30:Int).toNat+1),.int (10^(6:Int).toNat),.int 1,.int (sz:Int),.int 150000]]) d2 M2 q:=λM' q hq=>by
   show yU [.bl (decide (b0%8=5))] M' λd2 M2=>fV (.lst [Bb (Ce false sz),Bb (Ce true sz)]) d2 M2 q;rw [<-LL];dsimp only [yU];cases cj with
   |true=>exact Ι (d:= .lst [Bb (Ce false sz),Bb (Ce true sz)]) rfl (Θ (j:=1) rfl) hq
   |false=>exact Ι (d:= .lst [Bb (Ce false sz),Bb (Ce true sz)]) rfl bq hq
  refine rd _ _ ?_;have n4:cj=true->sz<=4:=λz=>z4 (of_decide_eq_true (by rw [<-LL];exact z));obtain ⟨ZH,erm,rm1,rm2⟩:=T' (n:=b0);refine ⟨by decide,?_⟩;refine (Ι rfl erm ?_:fV (.lst [Dt.int 30,Dt.int 30,Dt.int 30,Dt.int 30,Dt.int 30,Dt.int 12,Dt.int 24,Dt.int 12]) (.int (b0%8)) _ _);refine ⟨⟨by omega,by omega⟩,?_⟩;rw [show ((sz:Int)).toNat=sz by omega];refine fG (λzs ρ M2=>∃(n k:Nat) (rs:List Rw) (rm:Int) (o1 o2 o3 o4 o5:Option Dt),(1<=rm/\rm<=30/\(ij rs:Int)*rm<=30)/\zs=e7 k n/\k+n=sz/\rs.length=k/\(∀r∈rs,UB cj sz r)/\M2=M'++[MO.lst (rs.map aS)]/\ρ=[some (.kj ns),some (.int b0),some (.int (b0%8)),some (.int t),some (.int (sz:Int)),some (Τ ε),some (Bb (Ce cj sz)),some (.loc M'.length),some (.int rm),o1,o2,o3,o4,o5]) (λx zs ρ M2 hj ir=>?_) (λρ M2 hj=>?_) _ _ _ ⟨sz,0,[],ZH,none,none,none,none,none,⟨rm1,rm2,by show (1:Int)*ZH<=30;omega⟩,by simp,by simp,rfl,λ_ z=>(nomatch z),rfl,rfl⟩
  ·obtain ⟨n,k,rs,rm,o1,o2,o3,o4,o5,⟨rl,rh,rp⟩,ex,Zj,hl,hd,rfl,rfl⟩:=hj;obtain ⟨m,rfl,rfl,rfl⟩:=fo ex;have k12:(k:Int)<12:=by omega
   have RI:(M'++[MO.lst (rs.map aS)])[M'.length]? =some (.lst (rs.map aS)):=by simp
   have setM:∀y:Rw,(M'++[MO.lst (rs.map aS)]).set M'.length (.lst (rs.map aS++[aS y]))=M'++[.lst ((rs++[y]).map aS)]:=λy=>by simp
   have lt:(rs.map aS).length<sizeLine:=by rw [aac,hl];exact aaM (show k<=12 by omega) (by decide)
   have first:∃k' xs',Dt.loc M'.length= .loc k'/\(M'++[MO.lst (rs.map aS)])[k']? =some (.lst xs'):=⟨_,_,rfl,RI⟩
   have more:∀y,UB cj sz y->∀r∈rs++[y],UB cj sz r:=λy hy r hr=>by
    rcases aaP.mp hr with hr|hr
    ·exact hd r hr
    ·rw [aba.mp hr];exact hy
   have so:=TJ (cj:=cj) (ai:=(sz:Int)) (by omega) (by omega);refine ⟨ns,2+(k:Int),rfl,nl,by omega,by omega,λf hf=>⟨by decide,?_⟩⟩;obtain ⟨kd,ek,O5⟩:=Qr (n:=f);refine Ι rfl ek ?_;refine ⟨λρ M2=>M2=M'++[MO.lst (rs.map aS)]/\∃c:Nat,(1<=c/\c<=6)/\ρ=[some (.kj ns),some (.int b0),some (.int (b0%8)),some (.int t),some (.int (sz:Int)),some (Τ ε),some (Bb (Ce cj sz)),some (.loc M'.length),some (.int rm),some (.int (k:Int)),some (.int f),some (.str kd),some (.int (c:Int)),o5],?_,?_⟩
   ·have cut:∀t:Int,∃c:Nat,(1<=c/\c<=6)/\1+t%6=(c:Int):=λt=>⟨(1+t%6).toNat,by omega,by omega⟩;have Uj:∀(t:Int) (ρ:List (Option Dt)),(∃c:Nat,(1<=c/\c<=6)/\ρ++[some (.int (1+t%6)),o5]=ρ++[some (.int (c:Int)),o5]):=λt ρ=>by obtain ⟨c,h1,h2⟩:=cut t;exact ⟨c,h1,by rw [h2]⟩
    refine ⟨f,rfl,λb=>⟨λ_=>?_,λ_=>?_⟩⟩
    ·exact ⟨⟨by decide,bg (k:=10) (by decide)⟩,by decide,rfl,Uj (f/8) [some (.kj ns),some (.int b0),some (.int (b0%8)),some (.int t),some (.int (sz:Int)),some (Τ ε),some (Bb (Ce cj sz)),some (.loc M'.length),some (.int rm),some (.int (k:Int)),some (.int f),some (.str kd)]⟩
    ·exact ⟨⟨x5 hf,bg (k:=20) (by decide)⟩,by decide,by decide,rfl,Uj (f*48271%65537) [some (.kj ns),some (.int b0),some (.int (b0%8)),some (.int t),some (.int (sz:Int)),some (Τ ε),some (Bb (Ce cj sz)),some (.loc M'.length),some (.int rm),some (.int (k:Int)),some (.int f),some (.str kd)]⟩
   rintro ρ2 M2 ⟨rfl,c0,⟨c01,c06⟩,rfl⟩;refine ⟨λρ M2=>M2=M'++[MO.lst (rs.map aS)]/\∃(c:Nat) (rm:Int),(1<=c/\c<=6)/\(1<=rm/\rm<=30/\(ij rs:Int)*(cH kd c:Int)*rm<=30)/\ρ=[some (.kj ns),some (.int b0),some (.int (b0%8)),some (.int t),some (.int (sz:Int)),some (Τ ε),some (Bb (Ce cj sz)),some (.loc M'.length),some (.int rm),some (.int (k:Int)),some (.int f),some (.str kd),some (.int (c:Int)),o5],?_,?_⟩
   ·have yes:∃(c:Nat) (r':Int),(1<=c/\c<=6)/\(1<=r'/\r'<=30)/\(if rm<(c0:Int) then rm else (c0:Int))=(c:Int)/\rm/(if rm<(c0:Int) then rm else (c0:Int))=r'/\(c:Int)*r'<=rm:=by
     by_cases y:rm<(c0:Int)
     ·rw [if_pos y];exact ⟨rm.toNat,1,by omega,by decide,by omega,Int.ediv_self (by omega),by omega⟩
     ·rw [if_neg y];have a1:1<=rm/(c0:Int):=(Int.le_ediv_iff_mul_le (by omega)).mpr (by omega);have a2:rm/(c0:Int)<=rm:=abX _ (by omega);exact ⟨c0,_,by omega,⟨a1,by omega⟩,rfl,rfl,Int.mul_ediv_self_le (by omega)⟩
    obtain ⟨c',r',zG,fW,ec,er,hcr⟩:=yes;have A6:χ kd=true->1<=r'/\r'<=30/\(ij rs:Int)*(cH kd c':Int)*r'<=30:=λy=>⟨fW.1,fW.2,by unfold cH;rw [if_pos y];exact ND (Int.natCast_nonneg _) hcr rp⟩;rw [ec] at er;walk_at "vc";refine ⟨λz=>⟨λ_=>?_,λy=>(nomatch y)⟩,λz=>⟨λz'=>?_,λz'=>?_⟩⟩
    ·have z:kd="one":=of_decide_eq_true z;dsimp only [Jj];rw [ec];refine ⟨⟨by omega,bg (k:=4) (by omega)⟩,rfl,c',r',zG,A6 (by rw [z];decide),?_⟩;rw [<-er]
    ·have z':kd="other":=of_decide_eq_true z';dsimp only [Jj];rw [ec];refine ⟨⟨by omega,bg (k:=4) (by omega)⟩,rfl,c',r',zG,A6 (by rw [z'];decide),?_⟩;rw [<-er]
    ·have z:kd≠"one":=of_decide_eq_false z;have z':kd≠"other":=of_decide_eq_false z';refine ⟨rfl,c0,rm,⟨c01,c06⟩,⟨rl,rh,?_⟩,rfl⟩;have:χ kd=false:=by unfold χ;rw [beq_eq_false_iff_ne.mpr z,beq_eq_false_iff_ne.mpr z'];rfl
     unfold cH;rw [if_neg (by rw [this];decide)];show (ij rs:Int)*1*rm<=30;rw [Int.mul_one];exact rp
   rintro ρ2 M2 ⟨rfl,c,rm,⟨c1,c6⟩,⟨rl,rh,rp⟩,rfl⟩;refine ⟨λz=>?_,λz=>?_⟩
   ·have z:kd="end":=of_decide_eq_true z;refine ⟨first,f,(k:Int),3,Ce cj sz,rfl,hf,by omega,by omega,by decide,so,λxs xl hx=>da (ig _) ?_⟩;refine ⟨xs,decide (b0%8=5),rfl,by omega,hx,λp pp=>⟨by show 2<=sizeLine;decide,M'.length,_,_,rfl,rfl,RI,lt,?_⟩⟩;rw [<-LL] at pp;have e:Dt.tup [.str kd,Τ p]=aS (.fin p):=by rw [z];rfl
    rw [e,setM (.fin p)];exact ir _ _ ⟨m,k+1,rs++[Rw.fin p],_,_,_,_,_,_,⟨rl,rh,by rw [oZ];rw [z] at rp;rw [Int.natCast_mul];exact rp⟩,by simp,by omega,by simp [hl],more (.fin p) ⟨⟨⟨pp.red.pos,pp.fit⟩,λ_ _ e=>nomatch e⟩,λ_ e=>by cases e;exact pp,λ_ _ e=>nomatch e⟩,rfl,rfl⟩
   ·have z:kd≠"end":=of_decide_eq_false z;have O5:χ kd=true\/kd="chance":=by
     rcases O5 with hk|hk|hk
     ·exact .inl hk
     ·exact .inr hk
     ·exact absurd hk z
    refine ⟨⟨bg (k:=10) (by decide),bg (k:=10) (by omega)⟩,f,(k:Int),5*c,Ce cj sz,by rw [Int.natCast_mul];rfl,hf,by omega,by omega,by omega,so,λxs xl hx=>da (ig _) ?_⟩;refine ⟨first,kd,xs,sz,decide (b0%8=5),c,rfl,xl,c1,c6,hx,by omega,by omega,O5,λds dl QM=>da (fY ds) ?_⟩;rw [<-LL] at QM;refine ⟨by show 2<=sizeLine;decide,M'.length,_,_,rfl,rfl,RI,lt,?_⟩;exact ir _ _ ⟨m,k+1,rs++[Rw.ο kd ds],_,_,_,_,_,_,⟨rl,rh,by rw [oZ,Int.natCast_mul];rw [<-dl] at rp;exact rp⟩,by simp,by omega,by simp [hl],more (.ο kd ds) QM,setM (.ο kd ds),rfl⟩
  ·obtain ⟨n,k,rs,rm,o1,o2,o3,o4,o5,⟨rl,rh,rp⟩,ex,Zj,hl,hd,rfl,rfl⟩:=hj;have hn:n=0:=by have:=congrArg List.length ex;unfold e7 at this;simpa using this.symm
   have e:rs.length=sz:=by omega
   exact ⟨by show 2<=sizeLine;decide,h ε rs cj ⟨hs,by omega,by omega,λz=>by have:=n4 z;omega,by rw [e];exact hd,by have:=aar rl (Int.natCast_nonneg (ij rs));omega⟩⟩
def HV:DF:=λas M q _=>∃γ:List Rw,as=[.lst (γ.map aS)]/\γ.length<=12/\(∀r∈γ,eJ r)/\q (.lst (γ.map aS)) M
theorem vb:Δ ["_law_rows"] ["_law_rows"] (τ sM):= .of rfl
theorem Bh{f:Addr}{fd:FuncData}(F:cJ K "_law_copy" "_law_copy" sM f fd)(E:Ev K mg w Cm):ah P w K mg base (bU P w) 1 f fd ["_law_rows"] (cC K HV):=by
 refine F.df vb (λds M q x h=>?_) (λaT A outer s H E' hr=>⟨_,(μ (Ε (EK (ys:=[]) (ae:=[]) (.of vb rfl rfl rfl) (bf (jv 0)) (λC s H fp=>(c7 (Υ (jv 0) (ι (zc (e6 hr (jv 0) jI) (jv 1) (b9 (xZ E.kC (Υ (jv 1) θ)))) θ))))))),λds M q x h=>?_⟩)
 ·obtain ⟨γ,rfl,_⟩:=h;rfl
 ·obtain ⟨γ,rfl,pk,ro,h⟩:=h;walk_at "vc";dsimp only [pS,e_];walk_at "vc";refine ⟨by rw [aac];exact aap (show _<=12 by omega) (by decide),?_⟩;refine kZ trivial (λx=>x) _ _ (λx hx qq hq=>?_) ?_
  ·obtain ⟨r,fW,rfl⟩:=aag.mp hx;have rr:=ro r fW;cases r with
   |fin p=>
    refine ⟨λ_=>?_,λz=>(nomatch z)⟩;exact ⟨by show 2<=sizeLine;decide,hq⟩
   |ο k ds=>
    refine ⟨λz=>absurd (of_decide_eq_true z) rr.1,λ_=>?_⟩;refine Lz (fY ds) ?_;exact ⟨by show 2<=sizeLine;decide,hq⟩
  ·rw [aaF,List.map_id'];exact h
def xF(cj:Bool):Int:=if cj=true then 10^36 else 12
def cF(cj:Bool):Int:=if cj=true then 10^30 else 9
theorem o9{b:Int}{m n:Nat}(hb:1<=b)(hmn:m<=n):b^m<=b^n:=by obtain ⟨c,rfl⟩:=Nat.exists_eq_add_of_le hmn;rw [Int.pow_add];have p:0<b^c:=Int.pow_pos (by omega);have q:0<=b^m:=abF (by omega);have:=aar (show 1<=b^c by omega) q;omega
theorem sC{p:Fr}(h:aX p=true)(p0:0<p.2):ef p (10^30)/\p.2<=1000000:=by
 unfold aX at h;rw [aao,decide_eq_true_iff,decide_eq_true_iff] at h;have h1:=h.1;have:10^30<=p.2*10^30:=by have:=aaD (show 1<=p.2 by omega) (show (0:Int)<=10^30 by decide);omega
 unfold ef;split at h1 <;> exact ⟨⟨by omega,by omega⟩,h.2⟩
theorem xj.nr{cj:Bool}{p:Fr}{E:Int}(h:xj cj p)(he:p.2∣E):Nr E (cF cj) p:=by
 refine ⟨h.red,zS he,?_⟩;cases cj with
 |true=>exact (sC h.fit h.red.pos).1
 |false=>exact (h.near rfl).2
theorem LF.fw{ε:Fr}{γ:List Rw}{cj:Bool}(lf:LF ε γ cj):FW ε γ (xF cj) (cF cj):=by
 refine ⟨⟨lf.sh,lf.vg,λr hr=>(lf.row r hr).1.1⟩,lf.n1,λk ds hm hk=>(lf.row _ hm).1.2 k ds rfl hk,λk ds hm=>?_,λp hm=>?_,?_,?_,?_⟩
 ·have pp:=(lf.row _ hm).2.2 k ds rfl;cases cj with
  |true=>
   have l6:ds.length<=6:=(eP (ε:=ε) (γ:=γ) ⟨lf.sh,lf.vg,λr hr=>(lf.row r hr).1.1⟩ hm).l6;have all:∀a∈ds.map (·.2.1.2),0<a/\a<=1000000:=λa ha=>by obtain ⟨d,hd,rfl⟩:=aag.mp ha;exact ⟨(pp d hd).red.pos,(sC (pp d hd).fit (pp d hd).red.pos).2⟩
   refine ⟨qf (ds.map (·.2.1.2)),sN λa ha=>(all a ha).1,?_,λd hd=>(pp d hd).nr (y6 (aag.mpr ⟨d,hd,rfl⟩))⟩;have:=Eh all;rw [aac] at this;refine abm this ?_;exact abm (o9 (by decide) l6) (by decide)
  |false=>exact ⟨12,by decide,by decide,λd hd=>(pp d hd).nr ((pp d hd).near rfl).1⟩
 ·have pp:=(lf.row _ hm).2.1 p rfl;cases cj with
  |true=>exact ⟨p.2,pp.red.pos,abm (sC pp.fit pp.red.pos).2 (by decide),pp.nr (Int.dvd_refl _)⟩
  |false=>exact ⟨12,by decide,by decide,pp.nr (pp.near rfl).1⟩
 ·cases cj <;> decide
 ·cases cj <;> decide
 ·cases cj <;> decide
theorem LF.sz{ε:Fr}{γ:List Rw}{cj:Bool}(lf:LF ε γ cj):ie (xF cj) (cF cj)<=2^450/\(12*ie (xF cj) (cF cj))^γ.length<2^1030:=by
 cases cj with
 |true=>exact ⟨by decide,aaB (o9 (by decide) (lf.n4 rfl)) (by decide)⟩
 |false=>exact ⟨by decide,aaB (o9 (by decide) lf.vg) (by decide)⟩
theorem Lr(i:Int):uz (V.int i) (V.int i)=true:=by unfold uz;simp
theorem A9{l:List Nat}{f:Nat->Bool}(h:∀j,f j=true):l.all f=true:=abl.mpr λj _=>h j
theorem Ml{M:Ms}{n:Nat}(i:Int):wH M n (.int i) (.int i) true:=by have:=wH.flat (M:=M) (n:=n) (d:= .int i) (e:= .int i) rfl rfl;rwa [Lr] at this
theorem MP{M:Ms}{n:Nat}{ds:List Dt}(h:∀d∈ds,wH M n d d true):wH M (n+1) (.tup ds) (.tup ds) true:=by
 have:=wH.tup (M:=M) (n:=n) (ds:=ds) (es:=ds) (f:=λ_=>true) λj d e h1 h2=>by rw [h1] at h2;cases h2;exact h d (aam h1)
 rwa [A9 λ_=>rfl,beq_self_eq_true] at this
theorem Lu{M:Ms}{n:Nat}{d e:Dt}{ds:List Dt}(h1:nc M d=some ds)(h2:nc M e=some ds)(h:∀d∈ds,wH M n d d true):wH M (n+1) d e true:=by
 have:=wH.lst (M:=M) (n:=n) (d:=d) (e:=e) (f:=λ_=>true) h1 h2 rfl λj d e h1 h2=>by rw [h1] at h2;cases h2;exact h d (aam h1)
 rwa [A9 λ_=>rfl] at this
theorem Pk{M:Ms}{n:Nat}(p:Fr):wH M (n+1) (Τ p) (Τ p) true:=MP λd hd=>by have hd:d∈[Dt.int p.1,Dt.int p.2]:=hd;simp only [List.mem_cons,List.not_mem_nil,or_false] at hd;rcases hd with rfl|rfl <;> exact Ml _
theorem qI{M:Ms}{n:Nat}{d e:Dt}{tb:List Fr}(h1:nc M d=some (tb.map Τ))(h2:nc M e=some (tb.map Τ)):wH M (n+2) d e true:=Lu h1 h2 λd hd=>by obtain ⟨p,_,rfl⟩:=aag.mp hd;exact Pk p
theorem NT{p:Fr}{M:Ms}{k:Bool->Ms->Prop}(h:k false M):Mg (Τ p) (Τ p) M (λd M1=>match d with|.bl b=>k b M1|_=>False):=by show k (!nR [.int p.1,.int p.2] [.int p.1,.int p.2]) M;rw [Sf,decide_eq_true rfl];exact h
def D3:DF:=λas M q _=>∃i:Int,as=[.int i]/\q (.bl true) M
theorem C5:Δ ["_law_number"] ["_law_number"] (τ oz):= .of rfl
theorem A4{f:Addr}{fd:FuncData}(F:cJ K "_law_whole" "_law_whole" oz f fd)(E:Ev K mg w Cm):ah P w K mg base (bU P w) 1 f fd ["_law_number"] (cC K D3):=by
 refine F.df C5 (λds M q x h=>?_) (λaT A outer s H E' hr=>⟨_,(μ (Ε (iy (ym K E.cy (Υ (jv 0) (Υ (Mi E.uX uL) θ))) (j6 (Qx (ym K E.cy (Υ (jv 0) (Υ (Mi E.xJ Cq) θ)))))))),λds M q x h=>?_⟩)
 ·obtain ⟨i,rfl,_⟩:=h;rfl
 ·obtain ⟨i,rfl,h⟩:=h;refine ⟨_,_,_,_,true,rfl,rfl,rfl,Bo,λ_=>?_,λz=>(nomatch z)⟩;exact ⟨_,_,_,_,false,rfl,rfl,rfl,E.ib,h⟩
structure U7(M:Ms)(d:Dt)(tb:List Fr)(ok:Ms->Prop):Prop where
 kind:Jf M d=some (.type "list")
 seq:kU M d=some (tb.map Τ)
 it:qg M d=some (tb.map Τ,ok)
 ok:ok M
theorem r_{M:Ms}{tb:List Fr}:U7 M (.lst (tb.map Τ)) tb (λ_=>True):=⟨rfl,rfl,rfl,trivial⟩
def Iy:DF:=λas M q _=>∃(d:Dt) (tb:List Fr) (n:Nat) (ok:Ms->Prop),as=[d,.int (n:Nat)]/\U7 M d tb ok/\PN tb n/\q (.bl true) M
theorem rS:Δ ["_law_table_here","_law_many","_law_one"] ["_law_table_here","_law_many"] (τ pG):= .of rfl
theorem zw{f:Addr}{fd:FuncData}(F:cJ K "_law_table" "_law_table" pG f fd)(E:Ev K mg w Cm){Hj:Addr}{Hc:FuncData}(jG:aw P w K mg base 1 "_law_whole" ["_law_number"] D3 Hj Hc){dY:Addr}{dW:FuncData}(aN:aw P w K mg base 1 "_law_lowest" ["_law_top","_law_bottom"] KQ dY dW):ah P w K mg base (bU P w) 2 f fd ["_law_table_here","_law_many"] (cC K Iy):=by
 refine F.df rS (λds M q x h=>?_) (λaT A outer s H E' hr=>⟨_,(η (aH (JW.jt (lN (gL (cq (ym K E.cy (Υ (jv 0) (Υ (Mi E.kC sk) θ))))) (kO (rH hr (c8 E.bX (Υ (jv 0) θ)) (jv 1))))) (μ (Ε Ht)) Φ)
   (η (dF (bf (jv 0)) (aD (i:=2) rS.nd rfl (Or.inl rfl)) ba (η (aH (JW.jt (lN (gL (cq (ym K E.cy (Υ (jv 2) (Υ (Mi E.qN Az) θ))))) (lN (rH hr (c8 E.bX (Υ (jv 2) θ)) ω) (lN (gL (cq (ag jG hr ξ (ι (Ν (jv 2) ω) θ (hs:=aV))))) (kO (gL (cq (ag jG hr ξ (ι (Ν (jv 2) ω) θ (hs:=aV)))))))))) (μ (Ε Ht)) Φ)
   (μ (aH (JW.jt (lN (vp (Ν (jv 2) ω) ω) (kO (rH hr (ag aN hr ξ (ι (Ν (jv 2) ω) (ι (Ν (jv 2) ω) θ (hs:=aV)) (hs:=aV))) (jv 2))))) (μ (Ε Ht)) Φ))))
   (μ (Ε Ht)))),λds M q x h=>?_⟩)
 ·obtain ⟨d,tb,n,ok,rfl,_⟩:=h;rfl
 ·obtain ⟨d,tb,n,ok,rfl,hk,tk,h⟩:=h;have J3:=hk.kind;walk_at "vc";refine ⟨_,_,_,_,true,rfl,J3,rfl,Bo,λz=>(nomatch z),λ_=>?_⟩;refine (aE (d:=d) hk.seq ?_:iD [d] _ _);rw [aac,tk.len];refine ⟨λz=>?_,λ_=>?_⟩
  ·have z:(!decide ((n:Int)=(n:Int)))=true:=z;rw [decide_eq_true rfl] at z;exact nomatch z
  dsimp only [vY,e_];walk_at "vc";rw [show (List.map some [d,Dt.int (n:Int)]++[none])[0]? =some (some d) from rfl];dsimp only;rw [hk.it];refine cc (λzs ρ' M'=>M=M'/\∃(rest:List Fr) (o2:Option Dt),zs=rest.map Τ/\(∀p∈rest,p∈tb)/\ρ'=[some d,some (.int (n:Int)),o2]) (λzs ρ' M' hj=>by obtain ⟨rfl,_⟩:=hj;exact hk.ok) (λx zs ρ' M' hj ir=>?_) (λρ' M' hj=>?_) _ _ _ ⟨rfl,tb,none,rfl,λ_ h=>h,rfl⟩
  ·obtain ⟨rfl,rest,o2,ex,fW,rfl⟩:=hj;cases rest with
   |nil=>cases ex
   |cons p rest=>
    cases ex;have pm:=fW p aae;have rp:=tk.red p pm;obtain ⟨s1,s2⟩:=tk.sz p pm;walk_at "vc";refine ⟨_,_,_,_,true,rfl,rfl,rfl,Bo,λz=>(nomatch z),λ_=>?_⟩;refine (aE (d:=Τ p) (xs:=[.int p.1,.int p.2]) rfl ?_:iD [Τ p] _ _);refine ⟨λz=>(nomatch z),λ_=>?_⟩;refine (Om ?_:fV (Τ p) (.int 0) _ _);refine ⟨p.1,rfl,λz=>(nomatch z),λ_=>?_⟩;refine (Jw ?_:fV (Τ p) (.int 1) _ _);refine ⟨p.2,rfl,λz=>(nomatch z),λ_=>?_⟩;refine (Jw ?_:fV (Τ p) (.int 1) _ _);refine ⟨λz=>?_,λ_=>?_⟩
    ·have z:p.2<1:=of_decide_eq_true z;have:=rp.pos;omega
    refine (Om ?_:fV (Τ p) (.int 0) _ _);refine (Jw ?_:fV (Τ p) (.int 1) _ _);refine ⟨p.1,p.2,rfl,rp.pos,qu (k:=1030) (aaj rp.pos) s1 (by decide),?_⟩;rw [vt rp.pos rp.low];refine NT ?_;exact ⟨λz=>(nomatch z),λ_=>ir _ _ ⟨rfl,rest,_,rfl,λy hy=>fW y (aad _ hy),rfl⟩⟩
  ·obtain ⟨rfl,rest,o2,ex,fW,rfl⟩:=hj;exact h
def vw:List Nat->Nat
 |[]=>1
 |a::l=>a*vw l
theorem Dy{G:Nat->Nat}{g:Nat->Int×Nat}{Q:Nat->Bool}:∀{l:List Nat},(∀i∈l,1<=G i/\(Q i=true->(g i).2<=G i))->(n8 ((l.filter Q).map g)).length<=vw (l.map G)
 |[],_=>aai _
 |i::l,h=>by
  have ih:=Dy (l:=l) λj hj=>h j (aad _ hj);obtain ⟨h1,h2⟩:=h i aae;show _<=G i*vw (l.map G);cases hQ:Q i with
  |false=>
   rw [List.filter_cons_of_neg (by rw [hQ];decide)];exact aap ih (by have:=Nat.mul_le_mul_right (vw (l.map G)) h1;omega)
  |true=>
   rw [List.filter_cons_of_pos hQ,aaA];have e:∀(ms:List Nat) (k:Int) (r:List Pl),(ms.flatMap λj:Nat=>r.map λp=>(k,(j:Int))::p).length=ms.length*r.length:=λms k r=>by
    induction ms with
    |nil=>rw [ab6,Nat.zero_mul];rfl
    |cons a ms ih=>rw [List.flatMap_cons,aah,aac,ih,aax,Nat.succ_mul,Nat.add_comm]
   show ((List.range (g i).2).flatMap λj:Nat=>(n8 ((l.filter Q).map g)).map λp=>((g i).1,(j:Int))::p).length<=_;rw [e,aaN];exact Nat.mul_le_mul (h2 hQ) ih
theorem D8:∀γ:List Rw,vw (γ.map λr=>cH (kindOf r) (Η r).length)=ij γ
 |[]=>rfl
 |r::rs=>by show _*vw (rs.map _)=_*ij rs;rw [D8 rs]
section
variable{ε:Fr}{γ:List Rw}{X C:Int}{Ζ bN:Pl}{tb tb':List Fr}{hand rival:Str}{p1 p2 q1 q2:Pl}{i:Nat}
theorem J4(fw:FW ε γ X C)(hh:χ hand=true):(n8 (eE γ hand)).length<=ij γ:=by
 have e:(List.range γ.length).map (λi=>cH (kindOf (fH γ i)) (Η (fH γ i)).length)=γ.map λr=>cH (kindOf r) (Η r).length:=by
  refine acd λi=>?_;rw [aal,aal];by_cases il:i<γ.length
  ·rw [aaH il,aaa il];show some (cH (kindOf (fH γ i)) (Η (fH γ i)).length)=some (cH (kindOf γ[i]) (Η γ[i]).length);rw [k9 (aaa il)]
  ·rw [abQ (by rw [aaN];omega),abQ (by omega)];rfl
 rw [<-D8,<-e];refine Dy λi hi=>?_;have il:=aaT.mp hi;have hi:γ[i]? =some γ[i]:=aaa il;rw [k9 hi];generalize γ[i]=r at *
 have one:1<=cH (kindOf r) (Η r).length:=by
  unfold cH;cases r with
  |fin q=>exact aai _
  |ο k ds=>
   split
   ·exact (eP fw.pl (aam hi)).l1
   ·exact aai _
 refine ⟨one,λz=>?_⟩;have z:dh γ i=hand:=of_decide_eq_true z;unfold dh at z;rw [hi] at z;have z:kindOf r=hand:=z;show (Η r).length<=cH (kindOf r) (Η r).length;unfold cH;rw [z,if_pos hh];exact aai _
theorem Kn(fw:FW ε γ X C)(dk:fS γ Ζ)(b1:1<=ie X C)(lA:(12*ie X C)^γ.length<2^1030):∃tb,jF ε γ Ζ tb:=by obtain ⟨tb,z,N,_,_,_,tab,bot⟩:=(fw.sys dk b1).ex fw.pl.len;exact ⟨tb,tab,λi hi=>aaB (bot i hi) lA⟩
theorem wN.dk(o:wN ε γ p1 p2 tb)(fw:FW ε γ X C):fS γ (de γ (aj p1 p2) γ.length):=vm (je (bL fw dM.h1 o.f1) (bL fw dM.h2 o.f2))
theorem D4{n:Nat}{t t':List Fr}(l:t.length=n)(l':t'.length=n)(ev:∀i,i<n->t'.getD i (0,1)=t.getD i (0,1)):t'=t:=by refine aa6 (by rw [l,l']) λi h1 h2=>?_;have:=ev i (by omega);rw [aab,aab,aaa h1,aaa h2] at this;exact this
theorem wN.uniq(o:wN ε γ p1 p2 tb)(o':wN ε γ q1 q2 tb')(fw:FW ε γ X C)(b1:1<=ie X C)(lA:(12*ie X C)^γ.length<2^1030):tb'=tb:=by have a1:=bL fw dM.h1 o.f1;have a2:=bL fw dM.h2 o.f2;have c1:=bL fw dM.h1 o'.f1;have c2:=bL fw dM.h2 o'.f2;obtain ⟨m,wm⟩:=Kn fw (vm (je a1 c2)) b1 lA;obtain ⟨m',ZY⟩:=Kn fw (vm (je c1 a2)) b1 lA;refine D4 o.wt.tab.len o'.wt.tab.len λi il=>?_;have u1:=o.low fw b1 c2 wm il;have u2:=o'.high fw b1 a1 wm il;have u3:=o'.low fw b1 a2 ZY il;have u4:=o.high fw b1 c1 ZY il;exact qU (o'.wt.tab.red i il) (o.wt.tab.red i il) (Rat.le_antisymm (Rat.le_trans u3 u4) (Rat.le_trans u1 u2))
end
theorem i4{k:Str}(h:χ k=true):k="one"\/k="other":=by unfold χ at h;rw [aca,beq_iff_eq,beq_iff_eq] at h;exact h
def ar(p:Fr):Fr:=(-p.1,p.2)
def b8(d:bI):bI:=(d.1,ar d.2.1,d.2.2)
def bz(k:Str):Str:=if k="one" then "other" else if k="other" then "one" else k
def aB:Rw->Rw
 |.fin p=> .fin (ar p)
 |.ο k ds=> .ο (bz k) (ds.map b8)
theorem lq(p:Fr):ar (ar p)=p:=by obtain ⟨a,b⟩:=p;show ((- -a,b):Fr)=(a,b);rw [Int.neg_neg]
theorem E9(d:bI):b8 (b8 d)=d:=by obtain ⟨t,p,c⟩:=d;show ((t,ar (ar p),c):bI)=(t,p,c);rw [lq]
theorem Kx{p q:Fr}:ar p=ar q↔p=q:=⟨λh=>by rw [<-lq p,h,lq],λh=>by rw [h]⟩
theorem p_{t b:Int}(hb:0<b):aq (-t) b=ar (aq t b):=by
 have hg:g (-t) b=g t b:=by unfold g;rw [Int.neg_gcd]
 have h0:0<g t b:=vU (by omega);have hd:g t b∣t:=Int.gcd_dvd_left ..;rw [xQ hb,xQ hb,hg];show ((-t).fdiv (g t b),b.fdiv (g t b))=(-(t.fdiv (g t b)),b.fdiv (g t b));rw [abn _ (aaj h0),abn t (aaj h0),Int.neg_ediv_of_dvd hd]
theorem zV{p q:Fr}(hp:0<p.2)(hq:0<q.2):cN (ar p) (ar q)=ar (cN p q):=by unfold cN;show aq (-p.1*q.2+ -q.1*p.2) (p.2*q.2)=_;rw [show -p.1*q.2+ -q.1*p.2= -(p.1*q.2+q.1*p.2) by rw [Int.neg_mul,Int.neg_mul,Int.neg_add]];exact p_ (aaE hp hq)
theorem uP{p q:Fr}(hp:0<p.2)(hq:0<q.2):aA p (ar q)=ar (aA p q):=by unfold aA;show aq (p.1 * -q.1) (p.2*q.2)=_;rw [Int.mul_neg];exact p_ (aaE hp hq)
theorem vv{p q:Fr}:br (ar p) (ar q)=br q p:=by
 unfold br;show decide (-p.1*q.2< -q.1*p.2)=decide (q.1*p.2<p.1*q.2);rw [Int.neg_mul,Int.neg_mul]
 congr 1
 exact propext ⟨λh=>by omega,λh=>by omega⟩
theorem Mz(tb:List Fr)(t:Int):jQ (tb.map ar) t=ar (jQ tb t):=by unfold jQ;rw [aab,aal,aab];cases tb[t.toNat]? <;> rfl
theorem vF:∀(ps:List (Fr×Fr)) (w:Fr),0<w.2->(∀p∈ps,0<p.1.2/\0<p.2.2)->(ps.map λp=>(p.1,ar p.2)).foldl (λw p=>cN w (aA p.1 p.2)) (ar w)=ar (ps.foldl (λw p=>cN w (aA p.1 p.2)) w)
 |[],_,_,_=>rfl
 |p::ps,w,hw,hp=>by obtain ⟨h1,h2⟩:=hp p aae;have ht:0<(aA p.1 p.2).2:=bK (by have:=aaE h1 h2;omega);rw [aaA,aaW,aaW];show (ps.map λp=>(p.1,ar p.2)).foldl _ (cN (ar w) (aA p.1 (ar p.2)))=_;rw [uP h1 h2,zV hw ht];exact vF ps _ (bK (by have:=aaE hw ht;omega)) λq hq=>hp q (aad _ hq)
theorem Fe(ns:List Fr)(f:Fr):(ns.map ar).foldl (λf n=>if br f n then n else f) (ar f)=ar (ns.foldl (λf n=>if br n f then n else f) f):=by
 induction ns generalizing f with
 |nil=>rfl
 |cons n ns ih=>
  rw [aaA,aaW,aaW,vv];rw [<-ih]
  congr 1
  split <;> rfl
theorem Fm(ns:List Fr)(f:Fr):(ns.map ar).foldl (λf n=>if br n f then n else f) (ar f)=ar (ns.foldl (λf n=>if br f n then n else f) f):=by
 induction ns generalizing f with
 |nil=>rfl
 |cons n ns ih=>
  rw [aaA,aaW,aaW,vv];rw [<-ih]
  congr 1
  split <;> rfl
theorem zx(ns:List Fr)(h:ns≠[]):(ns.map ar).headD (0,1)=ar (ns.headD (0,1)):=by
 cases ns with
 |nil=>exact absurd rfl h
 |cons n ns=>rfl
theorem Bq{ns:List Fr}(h:ns≠[]):fe (ns.map ar)=ar (fk ns):=by unfold fe fk;rw [zx ns h];exact Fe ns _
theorem CF{ns:List Fr}(h:ns≠[]):fk (ns.map ar)=ar (fe ns):=by unfold fe fk;rw [zx ns h];exact Fm ns _
theorem gs:bz "chance"="chance":=by decide
theorem gz:bz "one"="other":=by decide
theorem d9:bz "other"="one":=by decide
theorem mW{k:Str}(h:χ k=true):χ (bz k)=true:=by
 rcases i4 h with rfl|rfl
 ·rw [gz];decide
 ·rw [d9];decide
theorem vJ{ai:Int}{r:Rw}(h:ia ai r):ia ai (aB r):=by
 have Tp:∀{p:Fr},aX p=true->aX (ar p)=true:=λ{p} h=>by unfold aX at h⊢;rw [aao,decide_eq_true_iff,decide_eq_true_iff] at h⊢;refine ⟨?_,h.2⟩;have h1:=h.1;show (if -p.1<0 then - -p.1 else -p.1)<=10^30;split at h1 <;> split <;> omega
 cases r with
 |fin p=>exact ⟨h.1,Tp h.2⟩
 |ο k ds=>
  obtain ⟨⟨h1,h2,h3,h4⟩,h5⟩:=h;have Z5:(ds.map b8).map υ=ds.map υ:=by rw [aau];rfl
  have h5:(if χ k then Λ ds ai else if k="chance" then Λ ds ai&&Ω (ds.map υ) else false)=true:=h5;have fd:Λ ds ai=true->Λ (ds.map b8) ai=true:=λh=>by unfold Λ at h⊢;rw [aac];rw [aao] at h⊢;refine ⟨h.1,abl.mpr λd hd=>?_⟩;obtain ⟨d',wD,rfl⟩:=aag.mp hd;have:=abl.mp h.2 d' wD;unfold aF at this⊢;rw [aao,aao] at this⊢;exact ⟨this.1,this.2.1,Tp this.2.2⟩
  have pos:∀d∈ds.map b8,d.2.2.length<=1/\0<d.2.1.2:=λd hd=>by obtain ⟨d',wD,rfl⟩:=aag.mp hd;exact h4 d' wD
  by_cases hk:χ k=true
  ·rw [if_pos hk] at h5;have uD:=mW hk;have ne:bz k≠"end"/\bz k≠"chance":=by refine ⟨λz=>?_,λz=>?_⟩ <;> (rw [z] at uD;exact absurd uD (by decide))
   refine ⟨⟨ne.1,by rw [aac];exact h2,λz=>absurd z ne.2,pos⟩,?_⟩;show (if χ (bz k) then _ else _)=true;rw [if_pos uD];exact fd h5
  ·rw [if_neg hk] at h5;by_cases hc:k="chance"
   ·subst hc;rw [if_pos rfl,aao] at h5;refine ⟨⟨by rw [gs];exact h1,by rw [aac];exact h2,λz=>⟨λd hd=>?_,by rw [Z5];exact (h3 rfl).2⟩,pos⟩,?_⟩
    ·obtain ⟨d',wD,rfl⟩:=aag.mp hd;exact (h3 rfl).1 d' wD
    ·show (if χ (bz "chance") then Λ (ds.map b8) ai else if bz "chance"="chance" then Λ (ds.map b8) ai&&Ω ((ds.map b8).map υ) else false)=true;rw [gs,if_neg (by decide),if_pos rfl,Z5,aao];exact ⟨fd h5.1,h5.2⟩
   ·rw [if_neg hc] at h5;cases h5
theorem F_{r:Rw}{ai:Int}(h:dD r ai=true):aB (aB r)=r:=by
 cases r with
 |fin p=>show Rw.fin (ar (ar p))=_;rw [lq]
 |ο k ds=>
  show Rw.ο (bz (bz k)) ((ds.map b8).map b8)=_;rw [aau,show b8 ∘ b8=id from funext E9,List.map_id];have h5:(if χ k then Λ ds ai else if k="chance" then Λ ds ai&&Ω (ds.map υ) else false)=true:=h;by_cases hk:χ k=true
  ·rcases i4 hk with rfl|rfl
   ·rw [gz,d9]
   ·rw [d9,gz]
  ·rw [if_neg hk] at h5;by_cases hc:k="chance"
   ·subst hc;rw [gs,gs]
   ·rw [if_neg hc] at h5;cases h5
section
variable{ε:Fr}{γ:List Rw}{X C:Int}{Ζ:Pl}{tb:List Fr}{k:Str}{ds:List bI}{i j:Nat}{p p1 p2:Pl}{r:Rw}
theorem yK(p:Fr):val (ar p)= -val p:=by show ((-p.1:Int):Rat)/(p.2:Rat)= -((p.1:Rat)/(p.2:Rat));rw [Rat.intCast_neg];generalize (p.1:Rat)=a;generalize (p.2:Rat)=b;grind
theorem D7{p:Fr}(h:Red p):Red (ar p):=⟨h.pos,by show Int.gcd (-p.1) p.2=1;rw [Int.neg_gcd];exact h.low⟩
theorem II{E:Int}{p:Fr}(h:Nr E C p):Nr E C (ar p):=by
 obtain ⟨N,e⟩:=h.he;obtain ⟨a,b⟩:=h.ab;refine ⟨D7 h.red,⟨-N,?_⟩,?_,?_⟩
 ·show -p.1*E= -N*p.2;rw [Int.neg_mul,Int.neg_mul,e]
 ·show -p.1<=p.2*C;omega
 ·show -(p.2*C)<= -p.1;omega
theorem nz(i:Nat):(tb.map ar).getD i (0,1)=ar (tb.getD i (0,1)):=by rw [aab,aal,aab];cases tb[i]? <;> rfl
theorem vo(j:Nat):(ds.map b8).getD j d0=b8 (ds.getD j d0):=by rw [aab,aal,aab];cases ds[j]? <;> rfl
theorem vR(r:Rw):kindOf (aB r)=bz (kindOf r):=by
 cases r with
 |fin p=>exact (by decide:(Str.ofString "end")=bz "end")
 |ο k ds=>rfl
theorem rC(r:Rw):Η (aB r)=(Η r).map b8:=by cases r <;> rfl
theorem lP{z:Str}(h:χ (bz z)=true):χ z=true:=by
 unfold bz at h;split at h
 ·rename_i e;rw [e];decide
 ·split at h
  ·rename_i e;rw [e];decide
  ·exact h
theorem AQ(h:Rw.ο k ds∈γ.map aB):∃k' mS,Rw.ο k' mS∈γ/\k=bz k'/\ds=mS.map b8:=by
 obtain ⟨r,hr,e⟩:=aag.mp h;cases r with
 |fin p=>cases e
 |ο k' mS=>cases e;exact ⟨k',mS,hr,rfl,rfl⟩
theorem FW.turn(fw:FW ε γ X C):FW ε (γ.map aB) X C:=by
 refine ⟨⟨fw.pl.sh,by rw [aac];exact fw.pl.len,λr hr=>?_⟩,by rw [aac];exact fw.n1,λk ds hm hh d hd=>?_,λk ds hm=>?_,λp hm=>?_,fw.x1,fw.c9,fw.c1⟩
 ·obtain ⟨r',fW,rfl⟩:=aag.mp hr;rw [aac];exact vJ (fw.pl.row r' fW)
 ·obtain ⟨k',mS,WI,rfl,rfl⟩:=AQ hm;obtain ⟨d',wD,rfl⟩:=aag.mp hd;exact fw.W0 k' mS WI (lP hh) d' wD
 ·obtain ⟨k',mS,WI,rfl,rfl⟩:=AQ hm;obtain ⟨E,e0,e1,h⟩:=fw.Tp k' mS WI;refine ⟨E,e0,e1,λd hd=>?_⟩;obtain ⟨d',wD,rfl⟩:=aag.mp hd;exact II (h d' wD)
 ·obtain ⟨r,hr,e⟩:=aag.mp hm;cases r with
  |ο k ds=>cases e
  |fin p'=>
   cases e;obtain ⟨E,e0,e1,h⟩:=fw.fin p' hr;exact ⟨E,e0,e1,II h⟩
theorem vB(il:i<γ.length):fH (γ.map aB) i=aB (fH γ i):=
 k9 (by rw [aal,rw_at il];rfl)
theorem u0(r:Rw):av Ζ i (aB r)=(av Ζ i r).map b8:=by
 unfold av;rw [rC];cases Μ Ζ i with
 |none=>rfl
 |some j=>
  show [((((Η r).map b8).getD j.toNat d0).1,(((Η r).map b8).getD j.toNat d0).2.1,(((Η r).map b8).getD j.toNat d0).2.2++[((1,1):Fr)])]=_;rw [vo];rfl
theorem ML(r:Rw):ME Ζ i (aB r)=(ME Ζ i r).map b8:=by
 cases r with
 |fin p=>rfl
 |ο k ds=>exact u0 (.ο k ds)
theorem vz:∀ws:List bI,aO (λd=>cV d*val ((tb.map ar).getD d.1.toNat (0,1))) (ws.map b8)= -aO (λd=>cV d*val (tb.getD d.1.toNat (0,1))) ws
 |[]=>by show (0:Rat)= -0;grind
 |d::ws=>by show cV d*val ((tb.map ar).getD d.1.toNat (0,1))+aO _ (ws.map b8)= -(cV d*val (tb.getD d.1.toNat (0,1))+aO _ ws);rw [vz ws,nz,yK];grind
theorem MX(fw:FW ε γ X C)(dk:fS γ Ζ)(hi:γ[i]? =some r):Ol Ζ i (aB r)=ar (Ol Ζ i r):=by
 cases r with
 |fin p=>rfl
 |ο k ds=>
  obtain ⟨_,_,_,B,E,_,_,_,_,hw⟩:=fw.aa dk hi;show fU (((av Ζ i (aB (.ο k ds))).map υ).zip ((av Ζ i (aB (.ο k ds))).map (·.2.1)))=ar (fU (((av Ζ i (.ο k ds)).map υ).zip ((av Ζ i (.ο k ds)).map (·.2.1))));rw [u0];generalize av Ζ i (.ο k ds)=ws at *
  have e:((ws.map b8).map υ).zip ((ws.map b8).map (·.2.1))=((ws.map υ).zip (ws.map (·.2.1))).map λp=>(p.1,ar p.2):=by rw [aau,aau,show υ ∘ b8=υ from rfl,show (λd:bI=>d.2.1) ∘ b8=ar ∘ (λd:bI=>d.2.1) from rfl,<-aau,List.zip_map_right];rfl
  rw [e];refine vF _ (0,1) (by decide) λp hp=>?_;obtain ⟨q1,q2⟩:=abf hp;obtain ⟨d1,m1,x1⟩:=aag.mp q1;obtain ⟨d2,m2,x2⟩:=aag.mp q2;exact ⟨by rw [<-x1];exact (hw d1 m1).ch.pos,by rw [<-x2];exact (hw d2 m2).py.red.pos⟩
theorem jF.turn(h:jF ε γ Ζ tb)(fw:FW ε γ X C)(dk:fS γ Ζ):jF ε (γ.map aB) Ζ (tb.map ar):=by
 have l:(γ.map aB).length=γ.length:=aac _;refine ⟨⟨by rw [aac,l];exact h.tab.len,λi il=>?_,λi il=>?_⟩,λi il=>?_⟩
 ·rw [nz];exact D7 (h.tab.red i (by omega))
 ·have il:i<γ.length:=by omega
  have e:=h.tab.eq i il;rw [nz,yK,e];unfold xo xc;rw [vB il,MX fw dk (rw_at il),ML,vz,yK];grind
 ·rw [nz];exact h.bot i (by omega)
theorem rO(fw:FW ε γ X C)(hm:Rw.ο k ds∈γ){d:bI}(hd:d∈ds)(hp:∀t,t<γ.length->0<(tb.getD t (0,1)).2):Ξ ε (tb.map ar) (b8 d)=ar (Ξ ε tb d):=by have s0:=fw.sh.1;have dr:=eP fw.pl hm;obtain ⟨t0,t1⟩:=dr.to d hd;have tp:0<(jQ tb d.1).2:=hp _ (by omega);unfold Ξ;show cN (ar d.2.1) (aA ε (jQ (tb.map ar) d.1))=_;rw [Mz,uP s0 tp];exact zV (dr.py d hd).2 (b_ (aa9 (aaE s0 tp))).pos
theorem Gy(fw:FW ε γ X C)(hm:Rw.ο k ds∈γ)(hh:χ k=true)(hp:∀t,t<γ.length->0<(tb.getD t (0,1)).2):eh ε (tb.map ar) (.ο (bz k) (ds.map b8))=ar (eh ε tb (.ο k ds)):=by
 have l1:=(eP fw.pl hm).l1;have ne:ds.map (Ξ ε tb)≠[]:=λz=>by have:=congrArg List.length z;rw [aac,ab6] at this;omega
 have eS:(ds.map b8).map (Ξ ε (tb.map ar))=(ds.map (Ξ ε tb)).map ar:=by rw [aau,aau];exact aaO λd hd=>rO fw hm hd hp
 show (if bz k="one" then fe ((ds.map b8).map (Ξ ε (tb.map ar))) else fk ((ds.map b8).map (Ξ ε (tb.map ar))))=ar (if k="one" then fe (ds.map (Ξ ε tb)) else fk (ds.map (Ξ ε tb)));rw [eS];rcases i4 hh with rfl|rfl
 ·rw [gz,if_neg (by decide),if_pos rfl];exact CF ne
 ·rw [d9,if_pos rfl,if_neg (by decide)];exact Bq ne
theorem GY(fw:FW ε γ X C)(hm:r∈γ)(hp:∀t,t<γ.length->0<(tb.getD t (0,1)).2):bZ ε (tb.map ar) (aB r)=bZ ε tb r:=by
 cases r with
 |fin p=>rfl
 |ο k ds=>
  show (if χ (bz k) then (List.range (ds.map b8).length).filter λj=>decide (Ξ ε (tb.map ar) ((ds.map b8).getD j d0)=eh ε (tb.map ar) (.ο (bz k) (ds.map b8))) else [])=(if χ k then (List.range ds.length).filter λj=>decide (Ξ ε tb (ds.getD j d0)=eh ε tb (.ο k ds)) else []);cases hh:χ k with
  |false=>
   have:χ (bz k)=false:=by
    cases e:χ (bz k) with
    |false=>rfl
    |true=>rw [lP e] at hh;cases hh
   rw [this];rfl
  |true=>
   rw [mW hh,aac,Gy fw hm hh hp];refine List.filter_congr λj hj=>?_;have jl:=aaT.mp hj;have e2:ds.getD j d0=ds[j]:=by rw [aab,aaa jl];rfl
   rw [vo,e2,rO fw hm (aay jl) hp]
   congr 1
   exact propext Kx
theorem qi(fw:FW ε γ X C)(hp:∀t,t<γ.length->0<(tb.getD t (0,1)).2)(p:Pl):Α ε (γ.map aB) (tb.map ar) p=Α ε γ tb p:=by
 have e:∀i:Int,fq ε (γ.map aB) (tb.map ar) i=fq ε γ tb i:=λi=>by
  unfold fq;rw [aal];cases h:γ[i.toNat]? with
  |none=>rfl
  |some r=>exact GY fw (aam h) hp
 unfold Α
 congr 1
 funext x
 unfold pB;rw [e]
theorem FL{z y:Str}(hy:χ y=true):bz z=bz y↔z=y:=by
 refine ⟨λh=>?_,λh=>by rw [h]⟩;have hz:χ z=true:=lP (by rw [h];exact mW hy);rcases i4 hz with rfl|rfl <;> rcases i4 hy with rfl|rfl
 ·rfl
 ·exact absurd h (by decide)
 ·exact absurd h (by decide)
 ·rfl
theorem qF{z:Str}(hz:χ z=true):eE (γ.map aB) (bz z)=eE γ z:=by
 have ek:∀i,i<γ.length->dh (γ.map aB) i=bz (dh γ i):=λi il=>by unfold dh;rw [aal,aaa il];exact vR _
 have ep:gU (γ.map aB) (bz z)=gU γ z:=by
  unfold gU;rw [aac];refine List.filter_congr λi hi=>?_;rw [ek i (aaT.mp hi)]
  congr 1
  exact propext (FL hz)
 unfold eE;rw [ep];refine aaO λi hi=>?_;have il:i<γ.length:=aaT.mp (List.mem_filter.mp hi).1;rw [vB il,rC,aac]
theorem AB(z:Str):aj p2 p1 (bz z)=aj p1 p2 z:=by
 unfold aj bz;by_cases e:z="one"
 ·rw [if_pos e,if_pos e,if_neg (by decide),if_pos rfl]
 ·rw [if_neg e,if_neg e];by_cases e2:z="other"
  ·rw [if_pos e2,if_pos e2,if_pos rfl]
  ·rw [if_neg e2,if_neg e2,if_neg e,if_neg e2]
theorem wN.turn(o:wN ε γ p1 p2 tb)(fw:FW ε γ X C):wN ε (γ.map aB) p2 p1 (tb.map ar):=by
 have hp:∀t,t<γ.length->0<(tb.getD t (0,1)).2:=λt ht=>(o.wt.tab.red t ht).pos;have k1:=qF (γ:=γ) (z:="one") (by decide);have k2:=qF (γ:=γ) (z:="other") (by decide);rw [gz] at k1;rw [d9] at k2;refine ⟨by rw [k2];exact o.f2,by rw [k1];exact o.f1,(o.wt.turn fw (o.dk fw)).ext λi il=>?_,by rw [qi fw hp];exact o.n2,by rw [qi fw hp];exact o.n1⟩;have l:(γ.map aB).length=γ.length:=aac _;have hi:γ[i]? =some γ[i]:=aaa (by omega);generalize γ[i]=r at *
 rw [nH hi,nH (r:=aB r) (by rw [aal,hi];rfl),vR,AB]
theorem FH(fw:FW ε γ X C):(γ.map aB).map aB=γ:=by rw [aau];exact (aaO λr hr=>F_ (fw.pl.row r hr).2).trans (List.map_id _)
theorem wN.turned{q1 q2:Pl}{tb':List Fr}(o:wN ε γ p1 p2 tb)(o':wN ε (γ.map aB) q1 q2 tb')(fw:FW ε γ X C)(b1:1<=ie X C)(lA:(12*ie X C)^γ.length<2^1030):tb'=tb.map ar:=
 wN.uniq (o.turn fw) o' fw.turn b1 (by rw [aac];exact lA)
theorem wN.held{q:Pl}{tb':List Fr}(o:wN ε γ p1 p2 tb)(b:FO ε γ "other" "one" p2 q tb')(fw:FW ε γ X C)(b1:1<=ie X C):tb'=tb:=by have w':jF ε γ (de γ (aj q p2) γ.length) tb':=Am fw PX o.f2 b.1 rfl rfl b.2.1;have h2:=bL fw dM.h2 o.f2;have hq:=bL fw dM.h1 b.1;have h1:=bL fw dM.h1 o.f1;have a:=λi il=>o.high fw b1 hq w' (i:=i) il;have c:=λi il=>sS (tb:=tb') (tb':=tb) (rival:="one") (pa:=q) (qr:=p1) (p1:=q) (p2:=p2) (q1:=p1) (q2:=p2) fw b1 dM.h1 b.1 b.2.2 rfl rfl (λz hz=>rG hz) h1 (vm (je h1 h2)) w' o.wt i il;refine D4 o.wt.tab.len w'.tab.len λi il=>?_;have u:=a i il;have v:=c i il;rw [sg1] at v;exact qU (w'.tab.red i il) (o.wt.tab.red i il) (by grind)
end
structure zj(ε:Fr)(γ:List Rw):Prop where
 sh:aM ε=true
 n1:1<=γ.length
 vg:γ.length<=12
 row:∀r∈γ,ia γ.length r
theorem zj.turn{ε:Fr}{γ:List Rw}(h:zj ε γ):zj ε (γ.map aB):=
 ⟨h.sh,by rw [aac];exact h.n1,by rw [aac];exact h.vg,λr hr=>by
  obtain ⟨r',fW,rfl⟩:=aag.mp hr;rw [aac]
  exact vJ (h.row r' fW)⟩
theorem Hi{k:Str}{ai:Int}{ds:List bI}(h:dD (.ο k ds) ai=true):([("one","other"),("other","one"),("chance","chance")]:List (Str×Str)).lookup k=some (bz k):=by
 have h5:(if χ k then Λ ds ai else if k="chance" then Λ ds ai&&Ω (ds.map υ) else false)=true:=h;by_cases hk:χ k=true
 ·rcases i4 hk with rfl|rfl <;> decide
 ·rw [if_neg hk] at h5;by_cases hc:k="chance"
  ·subst hc;decide
  ·rw [if_neg hc] at h5;cases h5
theorem oK{E:Ms}{n:Nat}:∀(γ:List Rw) (j:Nat),(∀i m,(lM γ)[i]? =some m->E[j+i]? =some m)->gI n E (ny (n+j) γ) (γ.map aS)
 |[],_,_=> .nil
 |.fin p::r,j,h=> .cons (.old (Em (.fin p))) (oK r j h)
 |.ο k ds::r,j,h=> .cons (.tup (.cons (.old trivial) (.cons (.Aa (abv _ _) (by rw [abg];exact h 0 _ rfl) (gI.old (fY ds))) .nil))) (oK r (j+1) λi m e=>by rw [show j+1+i=j+(i+1) by omega];exact h (i+1) m e)
theorem KP(γ:List Rw)(M:Ms)(x:MO):gI M.length (lM γ++[x]) (ny M.length γ) (γ.map aS):=
 oK γ 0 λi m e=>by rw [Nat.zero_add,aaq (aaf.mp e).1];exact e
theorem Dr(M:Ms):∀rs:List Rw,Paired (jN M) (rs.map aS) rs
 |[]=> .nil
 |r::rs=> .cons (wa _ r) (Dr M rs)
def Tt:DF:=λas M q _=>∃p,as=[Τ p]/\q (Τ (ar p)) M
theorem qt:Δ ["pay"] ["pay"] (τ g7):= .of rfl
theorem oX{f:Addr}{fd:FuncData}(F:cJ K "with_other_sign" "with_other_sign" g7 f fd)(E:Ev K mg w Cm):ah P w K mg base (bU P w) 1 f fd ["pay"] (cC K Tt):=by
 refine F.df qt (λds M q x h=>?_) (λaT A outer s H E' hr=>⟨_,(μ (Ε (c7 (ι (Ot (Ν (jv 0) ω)) (ι (Ν (jv 0) ω) θ (hs:=aV)) (hs:=N2))))),λds M q x h=>?_⟩)
 ·obtain ⟨p,rfl,_⟩:=h;rfl
 ·obtain ⟨p,rfl,h⟩:=h;exact ⟨by show 2<=sizeLine;decide,h⟩
theorem Kb{te:DE}{cs:En}{M:Ms}{ds:List bI}{ok:Ms->Prop}{k:List Dt->Ms->Prop}(ho:ok M)(ht:∀d∈ds,∀q:DQ,q (dt (b8 d)) M->te (some (dt d)::cs) M q k4)(h:k ((ds.map b8).map dt) M):nN te cs ok (ds.map dt) [] M k:=by
 refine cB (F:=λx a=>x=dt a/\a∈ds) (f:=λd=>dt (b8 d)) ho (λx a ha q' hq=>?_) (gJ dt ds ds λ_ h=>h) ?_
 ·obtain ⟨rfl,ha⟩:=ha;exact ht a ha q' hq
 ·rw [aaF];rw [aau] at h;exact h
def tP:DF:=λas M q _=>∃r ai,as=[aS r]/\ia ai r/\q (aS (aB r)) M
theorem jX:Δ ["row","doors"] ["row"] (τ mT):= .of rfl
theorem wO{f:Addr}{fd:FuncData}(F:cJ K "turned_row" "turned_row" mT f fd)(E:Ev K mg w Cm){sI:Addr}{rK:FuncData}(dG:aw P w K mg base 1 "with_other_sign" ["pay"] Tt sI rK):ah P w K mg base (bU P w) 2 f fd ["row"] (cC K tP):=by
 refine F.df jX (λds M q x h=>?_) (λaT A outer s H E' hr=>⟨_,(η (aH (e6 hr (Ν (jv 0) ω) jI) (μ (Ε (c7 (ι jI (ι (ag dG hr ξ (ι (Ν (jv 0) ω) θ (hs:=aV))) θ (hs:=aQ)) (hs:=fQ))))) Φ)
   (η (iq (i:=1) jX.nd rfl (Or.inl rfl) (ys:=[]) (ae:=[]) (.of jX rfl rfl rfl) (bf (Ν (jv 0) ω)) (λC s H fp=>(cI (c7 (ι (Ν (jv 0) ω) (ι (ag dG hr (fB (P:=P) (w:=w)) (ι (Ν (jv 0) ω) θ (hs:=aV))) θ (hs:=aQ)) (hs:=aV))) (Gm (jv 0) ω))))
   (μ (Ε (c7 (ι (Og E.iA (Ν (jv 0) ω)) (Υ (jv 1) θ) (hs:=aV))))))),λds M q x h=>?_⟩)
 ·obtain ⟨r,ai,rfl,_⟩:=h;rfl
 ·obtain ⟨r,ai,rfl,ro,h⟩:=h;cases r with
  |fin p=>exact ⟨λ_=>⟨p,rfl,by show 2<=sizeLine;decide,h⟩,λz=>(nomatch z)⟩
  |ο k ds=>
   refine ⟨λz=>absurd (of_decide_eq_true z) ro.1.1,λ_=>?_⟩;walk_at "vc";refine zW (i:=0) (j:=1) (ds:=[.str k,.lst (ds.map dt)]) rfl (Θ (j:=1) rfl) rfl ⟨by rw [aac];exact aap ro.1.2.1 (by decide),?_⟩;refine Kb trivial (λd hd q' hq=>?_) ?_
   ·walk_at "vc";refine (D1 ?_:fV (dt d) (.int 0) _ _);refine (Iq ?_:fV (dt d) (.int 1) _ _);refine ⟨d.2.1,rfl,by show 2<=sizeLine;decide,.int d.1::Τ d.2.1::d.2.2.map Τ,2,rfl,rfl,by decide,by simp,⟨by simp,?_⟩,hq⟩;show 2+(d.2.2.map Τ).length<=sizeLine;rw [aac];exact aap (Nat.add_le_add_left (ro.1.2.2.2 d hd).1 2) (by decide)
   ·exact ⟨k,_,rfl,Hi ro.2,by show 2<=sizeLine;decide,h⟩
def Dh(C:Addr):DF:=λas M q _=>∃ε γ,as=[au C ε γ]/\zj ε γ/\q (au C ε (γ.map aB)) M
theorem zI:Δ ["floor"] ["floor"] (τ wZ):= .of rfl
theorem Fj{f:Addr}{fd:FuncData}(F:cJ K "turned" "turned" wZ f fd)(E:Ev K mg w Cm){mv:Addr}{lX:FuncData}(et:Nh P w K mg base 5 "Floor" Cm ["self","share","rows"] (IZ Cm) mv lX){CB:Addr}{Bp:FuncData}(j9:cE P w K mg base 2 Cm "rows" ["self"] (Oq Cm) CB Bp){CS:Addr}{B':FuncData}(j2:aw P w K mg base 2 "turned_row" ["row"] tP CS B'){kI:Addr}{kB:FuncData}(cw:cE P w K mg base 1 Cm "share" ["self"] (C3 Cm) kI kB):ah P w K mg base (bU P w) 7 f fd ["floor"] (cC K (Dh Cm)):=by
 refine F.df zI (λds M q x h=>?_) (λaT A outer s H E' hr=>⟨_,(μ (Ε (b9 (Jp et hr ξ (ι (ik cw hr ξ (jv 0)) (ι (fA (ys:=[]) (ae:=[]) (.of zI rfl rfl rfl) (bf (b9 (ik j9 hr ξ (jv 0)))) (λC s H fp=>(ag j2 hr (fB (P:=P) (w:=w)) (Υ (jv 0) θ)))) θ) (hs:=aQ)))))),λds M q x h=>?_⟩)
 ·obtain ⟨ε,γ,rfl,_⟩:=h;rfl
 ·obtain ⟨ε,γ,rfl,ro,h⟩:=h;have rt:=ro.turn;refine ⟨⟨_,_,.inl rfl,rfl⟩,ε,γ,rfl,?_⟩;refine ⟨⟨_,_,.inl rfl,rfl⟩,ε,γ,rfl,ro.vg,λr hr=>(ro.row r hr).1,?_⟩;rw [aaJ];refine iG (d':= .lst (γ.map aS)) (.Aa (Nat.le_add_right _ _) (by simp) (KP γ M _)) ?_;refine ⟨by rw [aac];exact aap ro.vg (by decide),?_⟩;refine cB (F:=λx a=>x=aS a/\a∈γ) (f:=λr=>aS (aB r)) trivial (λx a ha q' vS=>?_) (gJ aS γ γ λ_ h=>h) ?_
  ·obtain ⟨rfl,ha⟩:=ha;exact ⟨a,_,rfl,ro.row a ha,vS⟩
  rw [aaF,show γ.map (λr=>aS (aB r))=(γ.map aB).map aS by rw [aau];rfl];refine ⟨M.length,.lst ((γ.map aB).map aS),ε,(γ.map aB).map aS,γ.map aB,λ_=>True,rfl,by simp,rfl,Dr _ _,ro.sh,rt.n1,rt.vg,λr hr=>rt.row r hr,rfl,?_⟩;rw [show (M++[MO.ins Cm [] []]).set M.length (.ins Cm ["kept_share","kept_rows"] [Τ ε,.lst ((γ.map aB).map aS)])=M++[.ins Cm ["kept_share","kept_rows"] [Τ ε,.lst ((γ.map aB).map aS)]] by simp [List.set_append]];exact iG (d':=au Cm ε (γ.map aB)) (.Sb (Nat.le_refl _) (by simp) (.cons (.old (kq ε)) (.cons (.old (nQ (γ.map aB))) .nil))) h
theorem Ah{M:Ms}:∀rs:List Rw,Paired (jN M) (rs.map aS) rs
 |[]=> .nil
 |r::rs=> .cons (wa _ r) (Ah rs)
theorem Ie{M:Ms}{q:DQ}{A:Addr}{ε:Fr}{γ:List Rw}(h:q (au A ε γ) M):tV M q (.loc M.length) ((M++[MO.ins A [] []]).set M.length (.ins A ["kept_share","kept_rows"] [Τ ε,.lst (γ.map aS)])):=by rw [eO];exact iG (d':=au A ε γ) (.Sb (Nat.le_refl _) (by simp) (.cons (.old (kq ε)) (.cons (.old (nQ γ)) .nil))) h
def Uq:Dt->Dt
 |.tup [.int a,.int b]=> .tup [.int (0-a),.int b]
 |d=>d
theorem Kg(tb:List Fr):(tb.map Τ).map Uq=(tb.map ar).map Τ:=by rw [aau,aau];refine aaO λp _=>?_;show Dt.tup [.int (0-p.1),.int p.2]= .tup [.int (-p.1),.int p.2];rw [Int.zero_sub]
theorem kR:Δ ["_law_script","_law_share","_law_rows","_law_floor_here","_law_table_here","_law_due","_law_back","_law_found","_law_plan","_law_held"] ["_law_script"] (τ OO):= .of rfl
theorem Pa{f:Addr}{fd:FuncData}(F:cJ K "law" "law" OO f fd)(E:Ev K mg w Cm){G8:Addr}{Fb:FuncData}(me:aw P w K mg base 5 "_law_floor" ["_law_script"] DW G8 Fb){mv:Addr}{lX:FuncData}(et:Nh P w K mg base 5 "Floor" Cm ["self","share","rows"] (IZ Cm) mv lX){K8:Addr}{Jx:FuncData}(pI:aw P w K mg base 1 "_law_copy" ["_law_rows"] HV K8 Jx){Ny:Addr}{MH:FuncData}(iV:aw P w K mg base 11 "worths" ["floor"] (Av Cm) Ny MH){Gi:Addr}{FJ:FuncData}(gM:aw P w K mg base 2 "_law_table" ["_law_table_here","_law_many"] Iy Gi FJ){LR:Addr}{Lq:FuncData}(nZ:aw P w K mg base 7 "turned" ["floor"] (Dh Cm) LR Lq){yA:Addr}{yb:FuncData}(gw:Mj P w K mg base 10 "mended" ["floor","hand","start"] (xk Cm) [.str "one",.bw] yA yb){rB:Addr}{sW:FuncData}(gE:aw P w K mg base 9 "against" ["floor","hand","plan"] (qZ Cm) rB sW){CP:Addr}{Cg:FuncData}(h8:aw P w K mg base 1 "_law_at" ["_law_script","_law_k"] W7 CP Cg):ah P w K mg base (bU P w) 12 f fd ["_law_script"] (cC K QN):=by
 refine F.df kR (λds M q x h=>?_) (λaT A outer s H E' hr=>⟨_,(η (MJ (b9 (ag me hr ξ (Υ (jv 0) θ))) (pM rfl (cG (aD (i:=1) kR.nd rfl (Or.inl rfl)) (cG (aD (i:=2) kR.nd rfl (Or.inl rfl)) ly))))
   (η (Γ 3 kR.nd (b9 (Jp et hr ξ (Υ (jv 1) (ι (ag pI hr ξ (Υ (jv 2) θ)) θ (hs:=aQ))))))
   (η (Γ 4 kR.nd (ag iV hr ξ (Υ (jv 3) θ)))
   (η (aH (gL (cq (ag gM hr ξ (Υ (jv 4) (ι (c8 E.bX (Υ (jv 2) θ)) θ (hs:=aQ)))))) (μ (Ε Ht)) Φ)
   (η (As (i:=5) kR.nd rfl (Or.inl rfl) (ys:=[]) (ae:=[]) (.of kR rfl rfl rfl) (bf (jv 4)) (λC s H fp=>(c7 (ι (uU ω (jv 0)) (Υ (jv 1) θ) (hs:=bV)))))
   (η (Γ 6 kR.nd (ag nZ hr ξ (Υ (jv 3) θ)))
   (η (Γ 7 kR.nd (ag iV hr ξ (Υ (jv 6) θ)))
   (η (aH (JW.jt (lN (gL (cq (ag gM hr ξ (Υ (jv 7) (ι (c8 E.bX (Υ (jv 2) θ)) θ (hs:=aQ)))))) (kO (BY 2 hr (jv 7) (jv 5))))) (μ (Ε Ht)) Φ)
   (η (Γ 8 kR.nd (Ν (OC gw hr ξ (Υ (jv 3) θ)) ω))
   (η (Γ 9 kR.nd (Ν (ag gE hr ξ (Υ (jv 6) (ι jI (Υ (jv 8) θ) (hs:=fQ)))) ω))
   (η (aH (JW.jt (lN (gL (cq (ag gM hr ξ (Υ (jv 9) (ι (c8 E.bX (Υ (jv 2) θ)) θ (hs:=aQ)))))) (kO (BY 2 hr (jv 9) (jv 5))))) (μ (Ε Ht)) Φ)
   (η (aH (BY 2 hr (ag iV hr ξ (ι (ag nZ hr ξ (Υ (jv 6) θ)) θ (hs:=aQ))) (jv 4)) (μ (Ε Ht)) Φ)
   (μ (Ε (T3 (Io hr (bY (ag h8 hr ξ (Υ (jv 0) (ι ω θ (hs:=fQ)))) ω) ω) (j6 (R_ 2 hr (ag iV hr ξ (Υ (jv 3) θ)) (jv 4)))))))))))))))))),λds M q x h=>?_⟩)
 ·obtain ⟨ns,rfl,_⟩:=h;rfl
 ·obtain ⟨ns,rfl,nl,hq⟩:=h;refine ⟨ns,rfl,nl,λε γ cj lf=>iG (d':= .tup [Τ ε,.lst (γ.map aS)]) (.tup (.cons (.old (kq ε)) (.cons (.Aa (Nat.le_refl _) (by simp) (gI.old (nQ γ))) .nil))) ?_⟩;have fw:=lf.fw;obtain ⟨i_,lA⟩:=lf.sz;have b1:1<=ie (xF cj) (cF cj):=by cases cj <;> decide
  have pk:=lf.vg;have n1:=lf.n1;have ro:∀r∈γ,eJ r/\dD r γ.length=true:=λr hr=>(lf.row r hr).1.1;have np:∀{z:Str},χ z=true->(n8 (eE γ z)).length<=1000:=λhz=>aap (J4 fw hz) (aap lf.pr (by decide));have ZN:zj ε γ:=⟨lf.sh,n1,pk,ro⟩;have lT:(γ.map aB).length=γ.length:=aac _;have P7:=fw.turn;have U3:(12*ie (xF cj) (cF cj))^(γ.map aB).length<2^1030:=by rw [lT];exact lA
  have k1:=qF (γ:=γ) (z:="one") (by decide);have k2:=qF (γ:=γ) (z:="other") (by decide);rw [gz] at k1;rw [d9] at k2;have npT:(n8 (eE (γ.map aB) "one")).length<=1000:=by rw [k2];exact np (by decide)
  refine ⟨γ,rfl,pk,λr hr=>(ro r hr).1,?_⟩;refine ⟨M.length,.lst (γ.map aS),ε,γ.map aS,γ,λ_=>True,rfl,aZ,rfl,Ah γ,lf.sh,n1,pk,ro,rfl,Ie ?_⟩;refine ⟨ε,γ,_,_,rfl,fw,i_,lA,b1,np (by decide),λp0 pa0 tb E0 fp0 b0 n0=>?_⟩;have opt:=Ae fw fp0 b0 n0;have tok:=opt.wt.ok fw (opt.dk fw) b1;have S_:PN (tb.map ar) γ.length:=by have:=(opt.turn fw).wt.ok P7 ((opt.turn fw).dk P7) b1;rwa [lT] at this
  generalize M++E0=M1;walk_at "vc";refine (aE (xs:=γ.map aS) rfl ?_:iD [Dt.lst (γ.map aS)] _ _);rw [aac];refine ⟨.lst (tb.map Τ),tb,γ.length,_,rfl,r_,tok,λz=>(nomatch z),λ_=>?_⟩;dsimp only [pS,e_];walk_at "vc";refine ⟨by rw [aac,tok.len];exact aap pk (by decide),?_⟩;refine kZ trivial Uq _ _ (λx hx qq hq=>?_) ?_
  ·obtain ⟨t,ht,rfl⟩:=aag.mp hx;exact ⟨by show 2<=sizeLine;decide,hq⟩
  rw [aaF,Kg];refine ⟨ε,γ,rfl,ZN,?_⟩;refine ⟨ε,γ.map aB,_,_,rfl,P7,i_,U3,b1,npT,λp3 pa3 tb3 E3 fp3 b3 n3=>?_⟩;obtain rfl:tb3=tb.map ar:=opt.turned (Ae P7 fp3 b3 n3) fw b1 lA;generalize M1++E3=M2;refine (aE (xs:=γ.map aS) rfl ?_:iD [Dt.lst (γ.map aS)] _ _);rw [aac];refine ⟨.lst ((tb.map ar).map Τ),tb.map ar,γ.length,_,rfl,r_,S_,λz=>(nomatch z),λ_=>?_⟩;refine ⟨true,.inr ⟨_,rfl⟩,.inr ⟨_,rfl⟩,qI rfl rfl,λz=>(nomatch z),λ_=>?_⟩;refine ⟨ε,γ,"one","other",_,_,rfl,.inl ⟨rfl,rfl⟩,fw,i_,lA,b1,np (by decide),λp4 pa4 LA E4 ka4 ZZ b4 n4 ha4=>?_⟩;refine (Ι (d:= .tup [.loc M2.length,.loc ka4,.lst (LA.map Τ),.loc (M2.length+1)]) rfl bq ?_:fV (.tup [.loc M2.length,.loc ka4,.lst (LA.map Τ),.loc (M2.length+1)]) (.int 0) _ _);have o4:=Ae fw ZZ b4 n4;obtain rfl:LA=tb:=opt.uniq o4 fw b1 lA;have fpT:ak (eE (γ.map aB) "other") p4:=by rw [k1];exact ZZ
  refine ⟨ε,γ.map aB,"other","one",M2.length,p4,_,_,rfl,dc aZ,.inr ⟨rfl,rfl⟩,P7,i_,U3,b1,vO P7 (by decide) fpT,λpa5 tb5 E5 fa5 wt5 be5=>?_⟩;obtain rfl:tb5=LA.map ar:=(o4.turn fw).held ⟨fa5,wt5,be5⟩ P7 b1;refine (Ι (d:= .tup [.loc ((M2++[dP p4]++E4).length+2),.lst ((LA.map ar).map Τ)]) rfl (Θ (j:=1) rfl) ?_:fV (.tup [.loc ((M2++[dP p4]++E4).length+2),.lst ((LA.map ar).map Τ)]) (.int 1) _ _);refine (aE (xs:=γ.map aS) rfl ?_:iD [Dt.lst (γ.map aS)] _ _);rw [aac];refine ⟨.lst ((LA.map ar).map Τ),LA.map ar,γ.length,_,rfl,r_,S_,λz=>(nomatch z),λ_=>?_⟩;refine ⟨true,.inr ⟨_,rfl⟩,.inr ⟨_,rfl⟩,qI rfl rfl,λz=>(nomatch z),λ_=>?_⟩;refine ⟨ε,γ.map aB,rfl,ZN.turn,?_⟩;rw [FH fw];refine ⟨ε,γ,_,_,rfl,fw,i_,lA,b1,np (by decide),λp6 pa6 tb6 E6 fp6 b6 n6=>?_⟩;obtain rfl:tb6=LA:=opt.uniq (Ae fw fp6 b6 n6) fw b1 lA;refine ⟨true,.inr ⟨_,rfl⟩,.inr ⟨_,rfl⟩,qI rfl rfl,λz=>(nomatch z),λ_=>?_⟩;refine ⟨ns,0,rfl,nl,by decide,by decide,λn hn=>⟨by decide,λ_=>hq _,λ_=>?_⟩⟩;refine ⟨ε,γ,_,_,rfl,fw,i_,lA,b1,np (by decide),λp7 pa7 tb7 E7 fp7 b7 n7=>?_⟩;obtain rfl:tb7=tb6:=opt.uniq (Ae fw fp7 b7 n7) fw b1 lA;exact ⟨true,.inr ⟨_,rfl⟩,.inr ⟨_,rfl⟩,qI rfl rfl,hq _⟩
structure FT(K:fI)(f:Addr)(x:Str)(st:Stmt):Prop where
 a:PySem.W.nsIn K mainGlobals x=some (some (.ref f))
 e:∃fd,cJ K x x st f fd
structure FM(K:fI)(C f:Addr)(m x:Str)(st:Stmt):Prop where
 a:PySem.W.findIn K (.ref C) m=some (some (.ref f))
 i:PySem.W.isFn K (.ref f)=true
 e:∃fd,cJ K m x st f fd
structure FV(K:fI)(f:Addr)(x:Str)(st:Stmt)(U:Addr)(its:Array Value):Prop where
 a:PySem.W.nsIn K mainGlobals x=some (some (.ref f))
 e:∃fd,Ga K x st U its f fd
section
variable{K:fI}{C f:Addr}{m x:Str}{st:Stmt}{oc:Value}{od an:Option Addr}{Bc:Array (Option Value)}{kV doc pm aT ct:Value}
theorem FT.of(a:PySem.W.nsIn K mainGlobals x=some (some (.ref f)))(l:K.lookup f=some ⟨oc,od,.func (PySem.W.fnOf x x (fZ st) (dH st) (τ st) .none kV doc pm an aT ct),Bc⟩)(c:PySem.W.codeIn K aT x=true)(k:PySem.W.keepIn K (.ref f)=true):FT K f x st:=⟨a,_,Jo l c k⟩
theorem FM.of(a:PySem.W.findIn K (.ref C) m=some (some (.ref f)))(i:PySem.W.isFn K (.ref f)=true)(l:K.lookup f=some ⟨oc,od,.func (PySem.W.fnOf m x (fZ st) (dH st) (τ st) .none kV doc pm an aT ct),Bc⟩)(c:PySem.W.codeIn K aT x=true)(k:PySem.W.keepIn K (.ref f)=true):FM K C f m x st:=⟨a,i,_,Jo l c k⟩
theorem FV.of{U:Addr}{its:Array Value}{tc:Value}{td:Option Addr}{tn:Nat}{ts:Array (Option Value)}(a:PySem.W.nsIn K mainGlobals x=some (some (.ref f)))(l:K.lookup f=some ⟨oc,od,.func (PySem.W.fnOf x x (fZ st) (dH st) (τ st) (.ref U) kV doc pm an aT ct),Bc⟩)(c:PySem.W.codeIn K aT x=true)(k:PySem.W.keepIn K (.ref f)=true)(t:K.lookup U=some ⟨tc,td,.seq its tn,ts⟩):FV K f x st U its:=⟨a,_,⟨_,_,_,_,_,_,_,_,_,rfl,l,c⟩,⟨_,_,t,rfl⟩,k⟩
end
theorem dz{P:List Value->Prop}(h:∀a0:Value,P [a0]):∀us:List Value,us.length=1->P us
 |[a0],_=>h a0
theorem cK{P:List Value->Prop}(h:∀a0 a1:Value,P [a0,a1]):∀us:List Value,us.length=2->P us
 |[a0,a1],_=>h a0 a1
theorem iP{P:List Value->Prop}(h:∀a0 a1 a2:Value,P [a0,a1,a2]):∀us:List Value,us.length=3->P us
 |[a0,a1,a2],_=>h a0 a1 a2
theorem zz{P:List Value->Prop}(h:∀a0 a1 a2 a3:Value,P [a0,a1,a2,a3]):∀us:List Value,us.length=4->P us
 |[a0,a1,a2,a3],_=>h a0 a1 a2 a3
theorem UC{P:List Value->Prop}(h:∀a0 a1 a2 a3 a4:Value,P [a0,a1,a2,a3,a4]):∀us:List Value,us.length=5->P us
 |[a0,a1,a2,a3,a4],_=>h a0 a1 a2 a3 a4
theorem yj{K:fI}(h:PySem.W.subIn K (.type "int") (.type "bool")=some false):PySem.W.kitOne K (.type "int") (.type "bool")=some false:=by unfold PySem.W.kitOne PySem.W.kitCls;rw [if_neg (by decide+kernel)];show (if PySem.W.kitMeta "bool"=true then _ else _)=_;rw [if_pos (by decide+kernel)];exact h
theorem Aq{K:fI}(h:PySem.W.subIn K (.type "int") (.type "str")=some false):PySem.W.kitOne K (.type "int") (.type "str")=some false:=by unfold PySem.W.kitOne PySem.W.kitCls;rw [if_neg (by decide+kernel)];show (if PySem.W.kitMeta "str"=true then _ else _)=_;rw [if_pos (by decide+kernel)];exact h
theorem um{K:fI}(h:PySem.W.subIn K (.type "tuple") (.type "str")=some false):PySem.W.kitOne K (.type "tuple") (.type "str")=some false:=by unfold PySem.W.kitOne PySem.W.kitCls;rw [if_neg (by decide+kernel)];show (if PySem.W.kitMeta "str"=true then _ else _)=_;rw [if_pos (by decide+kernel)];exact h
theorem ub{K:fI}(h:PySem.W.subIn K (.type "tuple") (.type "int")=some false):PySem.W.kitOne K (.type "tuple") (.type "int")=some false:=by unfold PySem.W.kitOne PySem.W.kitCls;rw [if_neg (by decide+kernel)];show (if PySem.W.kitMeta "int"=true then _ else _)=_;rw [if_pos (by decide+kernel)];exact h
theorem wb{K:fI}(h:PySem.W.subIn K (.type "list") (.type "str")=some false):PySem.W.kitOne K (.type "list") (.type "str")=some false:=by unfold PySem.W.kitOne PySem.W.kitCls;rw [if_neg (by decide+kernel)];show (if PySem.W.kitMeta "str"=true then _ else _)=_;rw [if_pos (by decide+kernel)];exact h
theorem yc{K:fI}(h:PySem.W.subIn K (.type "list") (.type "int")=some false):PySem.W.kitOne K (.type "list") (.type "int")=some false:=by unfold PySem.W.kitOne PySem.W.kitCls;rw [if_neg (by decide+kernel)];show (if PySem.W.kitMeta "int"=true then _ else _)=_;rw [if_pos (by decide+kernel)];exact h
theorem qW{K:fI}(h:PySem.W.subIn K (.type "tuple") (.type "list")=some false):PySem.W.kitOne K (.type "tuple") (.type "list")=some false:=by unfold PySem.W.kitOne PySem.W.kitCls;rw [if_neg (by decide+kernel)];show (if PySem.W.kitMeta "list"=true then _ else _)=_;rw [if_pos (by decide+kernel)];exact h
theorem rT{K:fI}(h:PySem.W.subIn K (.type "list") (.type "tuple")=some false):PySem.W.kitOne K (.type "list") (.type "tuple")=some false:=by unfold PySem.W.kitOne PySem.W.kitCls;rw [if_neg (by decide+kernel)];show (if PySem.W.kitMeta "tuple"=true then _ else _)=_;rw [if_pos (by decide+kernel)];exact h
theorem Q4{K:fI}{a:Addr}{t1 t2 t3:Tok}(h1:PySem.W.nsIn K a "one"=some (some (.str "other" t1)))(h2:PySem.W.nsIn K a "other"=some (some (.str "one" t2)))(h3:PySem.W.nsIn K a "chance"=some (some (.str "chance" t3))){z y:Str}(h:([("one","other"),("other","one"),("chance","chance")]:List (Str×Str)).lookup z=some y):∃tk,PySem.W.nsIn K a z=some (some (.str y tk)):=by
 rw [abd] at h;split at h
 ·rename_i e;cases beq_iff_eq.mp e;cases h;exact ⟨_,h1⟩
 rw [abd] at h;split at h
 ·rename_i e;cases beq_iff_eq.mp e;cases h;exact ⟨_,h2⟩
 rw [abd] at h;split at h
 ·rename_i e;cases beq_iff_eq.mp e;cases h;exact ⟨_,h3⟩
 cases h
open PySem.W in
theorem all_mk{l:OpenLaw}{w:World}{K:Frag}{h:Heap}{mg:Str->Option Value}{fa Cm Dq Vb f1 f2 f3 f4 f5 f6 f7 f8 f9 f10 f11 f12 f13 f14 f15 f16 f17 f18 f19 f20 f21 f22 f23 f24 f25 f26 f27 f28 f29 f30 f31 f32 f33 f34 f35 f36 f37 f38 f39 f40 f41 f42 f43 f44 f45 f46 f47 f48 f49 f50 f51 f52 f53 f54 f55 f56 f57 f58 f59 f60 f61 f62 f63 f64 f65 f66:Addr}(X:K.In h)(G:h.Ns mainGlobals mg)(hfa:mg "law"=some (.ref fa))
  {w_ uh uG lB:Tok}
  (v_:nsIn K mainGlobals "MOST_DOORS"=some (some (.int (6) w_)))
  (ud:nsIn K mainGlobals "MOST_BOTTOM"=some (some (.int (1000000) uh)))
  (uv:nsIn K mainGlobals "MOST_PLACES"=some (some (.int (12) uG)))
  (lF:nsIn K mainGlobals "MOST_SHARE_BOTTOM"=some (some (.int (1000) lB)))
  (Ng:nsIn K mainGlobals "Floor"=some (some (.ref Cm))) (eL:plainGet K Cm Str.empty=true) (eK:hasDictIn K Cm=true) (eG:plainOver K Cm=true) (eZ:findIn K (.ref Cm) "__setattr__"=some (some (.builtin "object.__setattr__"))) (Mn:makesIn K Cm=true) (LJ:keepIn K (.ref Cm)=true)
  (xn:findIn K (.ref Cm) "kept_rows"=some none)
  (uu:findIn K (.ref Cm) "kept_share"=some none)
  {J2 IQ:Tok} {IX:Option Addr} {HL:Array (Option Value)} {JP:Nat} (H_:nsIn K mainGlobals "HANDS"=some (some (.ref Dq))) (Ia:K.lookup Dq=some ⟨.type "tuple",IX,.seq #[(.str "one" J2),(.str "other" IQ)] JP,HL⟩)
  (zD:subIn K (.type "int") (.type "bool")=some false)
  (Cu:subIn K (.type "int") (.type "str")=some false)
  (xu:subIn K (.type "tuple") (.type "str")=some false)
  (wj:subIn K (.type "tuple") (.type "int")=some false)
  (zE:subIn K (.type "list") (.type "str")=some false)
  (z_:subIn K (.type "list") (.type "int")=some false)
  (uf:subIn K (.type "tuple") (.type "list")=some false)
  (uF:subIn K (.type "list") (.type "tuple")=some false)
  (t1:FT K f1 "_law_at" BU)
  (t2:FT K f2 "_law_by_digits" jj)
  (t3:FT K f3 "_law_lowest" l9)
  (t4:FT K f4 "_law_share_of" j5)
  (t5:FT K f5 "_law_pay" xw)
  (t6:FT K f6 "_law_stream" mH)
  (t7:FT K f7 "_law_things" mr)
  (t8:FT K f8 "_law_doors" oU)
  (t9:FT K f9 "_law_floor" pY)
  (t10:FT K f10 "fits_share" mJ)
  (t11:FT K f11 "fits_pay" sT)
  (t12:FT K f12 "fits_door" o7)
  (t13:FT K f13 "fits_doors" mV)
  (t14:FT K f14 "common_divisor" gW)
  (t15:FT K f15 "common_bottom" iC)
  (t16:FT K f16 "fits_chances" jz)
  (t17:FT K f17 "fits_row" rV)
  (t18:FT K f18 "copied_row" lV)
  (t19:FM K Cm f19 "__init__" "Floor.__init__" mf)
  (t20:FT K f20 "_law_copy" sM)
  (t21:FM K Cm f21 "size" "Floor.size" mK)
  (t22:FM K Cm f22 "kind" "Floor.kind" mN)
  (t23:FT K f23 "places_of" pv)
  (t24:FT K f24 "first_plan" mO)
  (t25:FT K f25 "started" si)
  (t26:FM K Cm f26 "doors" "Floor.doors" kD)
  (t27:FT K f27 "has_door" se)
  (t28:FT K f28 "doors_of" sG)
  (t29:FT K f29 "with_weights" jw)
  (t30:FT K f30 "number_of_head" iJ)
  (t31:FT K f31 "moved_ahead" j7)
  (t32:FT K f32 "cleared_line" ju)
  (t33:FT K f33 "cleared" sf)
  (t34:FT K f34 "fraction" oR)
  (t35:FT K f35 "quotients" mq)
  (t36:FT K f36 "answer_of" oO)
  (t37:FT K f37 "minus" BW)
  (t38:FT K f38 "times" B_)
  (t39:FT K f39 "whole_row" pJ)
  (t40:FT K f40 "led_row" xq)
  (t41:FM K Cm f41 "pay" "Floor.pay" pA)
  (t42:FM K Cm f42 "share" "Floor.share" j8)
  (t43:FT K f43 "ways_from" oH)
  (t44:FT K f44 "plus" Ig)
  (t45:FT K f45 "weighed" rR)
  (t46:FT K f46 "row_of" Cz)
  (t47:FT K f47 "worths_by" pU)
  (t48:FT K f48 "worths_against" hI)
  (t49:FM K Cm f49 "shown" "Floor.shown" kg)
  (t50:FM K Cm f50 "all_shown" "Floor.all_shown" g_)
  (t51:FT K f51 "under" Be)
  (t52:FT K f52 "greatest" pL)
  (t53:FT K f53 "least" CK)
  (t54:FM K Cm f54 "look" "Floor.look" mL)
  (t55:FM K Cm f55 "best" "Floor.best" mw)
  (t56:FT K f56 "better_doors" jH)
  (t57:FT K f57 "against" rj)
  {U58:Addr} {Ka:Tok} (t58:FV K f58 "mended" wF U58 #[.str "one" Ka,.none])
  (t59:FT K f59 "worths" yk)
  (t60:FT K f60 "_law_whole" oz)
  (t61:FT K f61 "_law_table" pG)
  (t62:FM K Cm f62 "rows" "Floor.rows" mF)
  (t63:FT K f63 "with_other_sign" g7)
  (t64:FT K f64 "turned_row" mT)
  (t65:FT K f65 "turned" wZ)
  (t66:FT K f66 "law" OO)
  (S5:nsIn K mainGlobals "len"=some none)
  (TB:nsIn K mainGlobals "abs"=some none)
  (w6:nsIn K mainGlobals "isinstance"=some none)
  (SA:nsIn K mainGlobals "int"=some none)
  (P_:nsIn K mainGlobals "bool"=some none)
  (R3:nsIn K mainGlobals "str"=some none)
  (L_:nsIn K mainGlobals "tuple"=some none)
  (QB:nsIn K mainGlobals "list"=some none)
  (Lv:nsIn K mainGlobals "range"=some none)
  (AJ:nsIn K mainGlobals "enumerate"=some none)
  (Ug:nsIn K mainGlobals "any"=some none)
  (TV:nsIn K mainGlobals "all"=some none)
  (Sr:nsIn K mainGlobals "sum"=some none)
  (SS:nsIn K mainGlobals "zip"=some none)
  (Q2:nsIn K mainGlobals "dict"=some none)
  (Uo:nsIn K mainGlobals "min"=some none)
  (RV:nsIn K mainGlobals "max"=some none)
  {Uu:Array DictEntry} {nTK:Nat} {Ze We Ym:Tok}
  (YT:nsIn K mainGlobals "TURNED_KINDS"=some (some (.ref Vb)))
  (X7:K.lookup Vb=some ⟨.type "dict",none,.dict Uu nTK, #[]⟩)
  (VZ:KeysLit w.params Uu.toList)
  (XQ:nsIn K Vb "one"=some (some (.str "other" Ze)))
  (Xh:nsIn K Vb "other"=some (some (.str "one" We)))
  (Wu:nsIn K Vb "chance"=some (some (.str "chance" Ym)))
  :∃fd:FuncData,(∀(s:Shared) (v:Value),BindsTo s fd ⟨[v],[]⟩ [("_law_script",v)])/\∀base:Heap,K.In base->base.Ns mainGlobals mg->ah l.prog w K mg base Vj 12 fa fd ["_law_script"] (yZ K):=by
 obtain ⟨a1,_,F1⟩:=t1;obtain ⟨a2,_,F2⟩:=t2;obtain ⟨a3,_,F3⟩:=t3;obtain ⟨a4,_,F4⟩:=t4;obtain ⟨a5,_,F5⟩:=t5;obtain ⟨a6,_,F6⟩:=t6;obtain ⟨a7,_,F7⟩:=t7;obtain ⟨a8,_,F8⟩:=t8;obtain ⟨a9,_,F9⟩:=t9;obtain ⟨WY,_,Y5⟩:=t10;obtain ⟨a11,_,V1⟩:=t11;obtain ⟨a12,_,X5⟩:=t12;obtain ⟨a13,_,Zq⟩:=t13;obtain ⟨a14,_,Ye⟩:=t14;obtain ⟨a15,_,Xk⟩:=t15;obtain ⟨a16,_,YY⟩:=t16;obtain ⟨a17,_,Xw⟩:=t17;obtain ⟨a18,_,Zh⟩:=t18;obtain ⟨a19,i19,_,F19⟩:=t19;obtain ⟨a20,_,Zg⟩:=t20;obtain ⟨a21,i21,_,Y6⟩:=t21;obtain ⟨a22,i22,_,XH⟩:=t22;obtain ⟨a23,_,XF⟩:=t23;obtain ⟨a24,_,YB⟩:=t24;obtain ⟨a25,_,Wq⟩:=t25;obtain ⟨a26,i26,_,X'⟩:=t26;obtain ⟨a27,_,YK⟩:=t27;obtain ⟨a28,_,W5⟩:=t28;obtain ⟨a29,_,WA⟩:=t29;obtain ⟨a30,_,XS⟩:=t30;obtain ⟨a31,_,V4⟩:=t31;obtain ⟨a32,_,Zb⟩:=t32;obtain ⟨a33,_,WC⟩:=t33;obtain ⟨a34,_,Zp⟩:=t34;obtain ⟨a35,_,Wo⟩:=t35;obtain ⟨a36,_,Ww⟩:=t36;obtain ⟨a37,_,Xn⟩:=t37;obtain ⟨a38,_,Zn⟩:=t38;obtain ⟨a39,_,Yw⟩:=t39;obtain ⟨a40,_,XB⟩:=t40;obtain ⟨a41,i41,_,Yr⟩:=t41;obtain ⟨a42,i42,_,WQ⟩:=t42;obtain ⟨a43,_,W8⟩:=t43;obtain ⟨a44,_,YU⟩:=t44;obtain ⟨a45,_,XZ⟩:=t45;obtain ⟨a46,_,Wz⟩:=t46;obtain ⟨a47,_,XO⟩:=t47;obtain ⟨a48,_,Xz⟩:=t48;obtain ⟨a49,i49,_,XX⟩:=t49;obtain ⟨a50,i50,_,XM⟩:=t50;obtain ⟨a51,_,Xy⟩:=t51;obtain ⟨a52,_,XI⟩:=t52;obtain ⟨a53,_,X1⟩:=t53;obtain ⟨a54,i54,_,WE⟩:=t54;obtain ⟨a55,i55,_,Zk⟩:=t55;obtain ⟨a56,_,Y9⟩:=t56;obtain ⟨a57,_,Ws⟩:=t57;obtain ⟨a58,_,Y8⟩:=t58;obtain ⟨a59,_,Xc⟩:=t59;obtain ⟨a60,_,YN⟩:=t60;obtain ⟨a61,_,Wv⟩:=t61;obtain ⟨a62,i62,_,W2⟩:=t62;obtain ⟨a63,_,XD⟩:=t63;obtain ⟨a64,_,XA⟩:=t64;obtain ⟨a65,_,XC⟩:=t65;obtain ⟨a66,dL,Z7⟩:=t66;have e:=hfa.symm.trans (mg_of X G a66);cases e;have xx:=mg_of X G v_;have uo:=mg_of X G ud;have uB:=mg_of X G uv;have lC:=mg_of X G lF;have bX:=mg_none_of X G S5;have qX:=mg_none_of X G TB;have cy:=mg_none_of X G w6;have uX:=mg_none_of X G SA;have xJ:=mg_none_of X G P_;have JH:=mg_none_of X G R3;have qN:=mg_none_of X G L_;have kC:=mg_none_of X G QB;have cZ:=mg_none_of X G Lv;have eA:=mg_none_of X G AJ;have DH:=mg_none_of X G Ug;have Ed:=mg_none_of X G TV;have zt:=mg_none_of X G Sr;have vc:=mg_none_of X G SS;have tM:=mg_none_of X G Q2;have Dz:=mg_none_of X G Uo;have HU:=mg_none_of X G RV;have E:Ev K mg w Cm:={bX:=bX,qX:=qX,cy:=cy,uX:=uX,xJ:=xJ,JH:=JH,qN:=qN,kC:=kC,cZ:=cZ,eA:=eA,DH:=DH,Ed:=Ed,zt:=zt,vc:=vc,tM:=tM,Dz:=Dz,HU:=HU,ib:=yj zD,kis:=Aq Cu,kts:=um xu,kti:=ub wj,kls:=wb zE,kli:=yc z_,ktl:=qW uf,klt:=rT uF,cR:=⟨eL,eK,eG,eZ⟩,bJ:=xn,fv:=uu,xi:=⟨_,_,_,_,mg_of X G H_,Ia,rfl,rfl,(by show 2<=sizeLine;decide),.cons ⟨_,rfl⟩ (.cons ⟨_,rfl⟩ .nil)⟩,iA:=⟨_,_,_,mg_of X G YT,X7,VZ,λz y h=>Q4 XQ Xh Wu h⟩,qh:=⟨_,xx⟩,ji:=⟨_,uo⟩,nq:=⟨_,uB⟩,g9:=⟨_,lC⟩};refine ⟨dL,λs v=>by obtain ⟨_,_,_,_,_,_,_,_,_,rfl,_⟩:=Z7.ex;exact .of_eq rfl,λbase _ _=>?_⟩;have mc:= @aw.mk l.prog w K mg base;have h8:=mc (JG F1 E) (F1.binds λ_ _ _ _ _ _=>cK λ_ _=>rfl) (mg_of X G a1) F1.kp;have aP:=mc (rq F2 E) (F2.binds λ_ _ _ _ _ _=>dz λ_=>rfl) (mg_of X G a2) F2.kp;have aN:=mc (wI F3 E) (F3.binds λ_ _ _ _ _ _=>cK λ_ _=>rfl) (mg_of X G a3) F3.kp;have jh:=mc (uI F4 E aP aN) (F4.binds λ_ _ _ _ _ _=>cK λ_ _=>rfl) (mg_of X G a4) F4.kp;have iZ:=mc (GO F5 E aN) (F5.binds λ_ _ _ _ _ _=>cK λ_ _=>rfl) (mg_of X G a5) F5.kp;have kF:=mc (xY F6 E) (F6.binds λ_ _ _ _ _ _=>cK λ_ _=>rfl) (mg_of X G a6) F6.kp;have h7:=mc (yr F7 E aP kF) (F7.binds λ_ _ _ _ _ _=>zz λ_ _ _ _=>rfl) (mg_of X G a7) F7.kp;have lR:=mc (AD F8 E iZ aN) (F8.binds λ_ _ _ _ _ _=>zz λ_ _ _ _=>rfl) (mg_of X G a8) F8.kp;have me:=mc (AM F9 E h8 aP jh iZ h7 lR) (F9.binds λ_ _ _ _ _ _=>dz λ_=>rfl) (mg_of X G a9) F9.kp;have kf:=mc (xf Y5 E) (Y5.binds λ_ _ _ _ _ _=>dz λ_=>rfl) (mg_of X G WY) Y5.kp;have gB:=mc (Ck V1 E) (V1.binds λ_ _ _ _ _ _=>dz λ_=>rfl) (mg_of X G a11) V1.kp;have mi:=mc (AV X5 E gB) (X5.binds λ_ _ _ _ _ _=>cK λ_ _=>rfl) (mg_of X G a12) X5.kp;have hZ:=mc (yH Zq E mi) (Zq.binds λ_ _ _ _ _ _=>cK λ_ _=>rfl) (mg_of X G a13) Zq.kp;have bF:=mc (oF Ye E) (Ye.binds λ_ _ _ _ _ _=>cK λ_ _=>rfl) (mg_of X G a14) Ye.kp;have cf:=mc (qC Xk E bF) (Xk.binds λ_ _ _ _ _ _=>dz λ_=>rfl) (mg_of X G a15) Xk.kp;have iM:=mc (rN YY E cf) (YY.binds λ_ _ _ _ _ _=>dz λ_=>rfl) (mg_of X G a16) YY.kp;have oG:=mc (C7 Xw E gB hZ iM) (Xw.binds λ_ _ _ _ _ _=>cK λ_ _=>rfl) (mg_of X G a17) Xw.kp;have d8:=mc (yE Zh E) (Zh.binds λ_ _ _ _ _ _=>dz λ_=>rfl) (mg_of X G a18) Zh.kp;have et:Nh l.prog w K mg base _ "Floor" Cm _ _ _ _:=⟨yo F19 E kf oG d8,(F19.binds λ_ _ _ _ _ _=>iP λ_ _ _=>rfl),⟨Mn,a19,i19,LJ⟩,mg_of X G Ng⟩;have pI:=mc (Bh Zg E) (Zg.binds λ_ _ _ _ _ _=>dz λ_=>rfl) (mg_of X G a20) Zg.kp;have aU:cE l.prog w K mg base _ Cm "size" _ _ _ _:=⟨wx Y6 E,(Y6.binds λ_ _ _ _ _ _=>dz λ_=>rfl),⟨eL,eK,eG,eZ⟩,⟨a21,i21,Y6.kp⟩⟩;have Ρ:cE l.prog w K mg base _ Cm "kind" _ _ _ _:=⟨wy XH E,(XH.binds λ_ _ _ _ _ _=>cK λ_ _=>rfl),⟨eL,eK,eG,eZ⟩,⟨a22,i22,XH.kp⟩⟩;have mD:=mc (zC XF E aU Ρ) (XF.binds λ_ _ _ _ _ _=>cK λ_ _=>rfl) (mg_of X G a23) XF.kp;have d7:=mc (wL YB E mD) (YB.binds λ_ _ _ _ _ _=>cK λ_ _=>rfl) (mg_of X G a24) YB.kp;have pW:=mc (C1 Wq E d7) (Wq.binds λ_ _ _ _ _ _=>iP λ_ _ _=>rfl) (mg_of X G a25) Wq.kp;have aI:cE l.prog w K mg base _ Cm "doors" _ _ _ _:=⟨uE X' E Ρ,(X'.binds λ_ _ _ _ _ _=>cK λ_ _=>rfl),⟨eL,eK,eG,eZ⟩,⟨a26,i26,X'.kp⟩⟩;have o_:=mc (CL YK E aI) (YK.binds λ_ _ _ _ _ _=>iP λ_ _ _=>rfl) (mg_of X G a27) YK.kp;have pb:=mc (Cp W5 E aU Ρ o_) (W5.binds λ_ _ _ _ _ _=>cK λ_ _=>rfl) (mg_of X G a28) W5.kp;have iz:=mc (sH WA E) (WA.binds λ_ _ _ _ _ _=>dz λ_=>rfl) (mg_of X G a29) WA.kp;have gR:=mc (qz XS E) (XS.binds λ_ _ _ _ _ _=>iP λ_ _ _=>rfl) (mg_of X G a30) XS.kp;have jn:=mc (ui V4 E) (V4.binds λ_ _ _ _ _ _=>iP λ_ _ _=>rfl) (mg_of X G a31) V4.kp;have ft:=mc (rW Zb E) (Zb.binds λ_ _ _ _ _ _=>zz λ_ _ _ _=>rfl) (mg_of X G a32) Zb.kp;have pT:=mc (Ca WC E iz gR jn ft) (WC.binds λ_ _ _ _ _ _=>cK λ_ _=>rfl) (mg_of X G a33) WC.kp;have bc:=mc (Ar Zp E bF) (Zp.binds λ_ _ _ _ _ _=>cK λ_ _=>rfl) (mg_of X G a34) Zp.kp;have kJ:=mc (x3 Wo E bc) (Wo.binds λ_ _ _ _ _ _=>zz λ_ _ _ _=>rfl) (mg_of X G a35) Wo.kp;have mP:=mc (Ad Ww E pT kJ) (Ww.binds λ_ _ _ _ _ _=>dz λ_=>rfl) (mg_of X G a36) Ww.kp;have yy:=mc (Jk Xn E bc) (Xn.binds λ_ _ _ _ _ _=>cK λ_ _=>rfl) (mg_of X G a37) Xn.kp;have gm:=mc (Ir Zn E bc) (Zn.binds λ_ _ _ _ _ _=>cK λ_ _=>rfl) (mg_of X G a38) Zn.kp;have lQ:=mc (A0 Yw E cf) (Yw.binds λ_ _ _ _ _ _=>dz λ_=>rfl) (mg_of X G a39) Yw.kp;have nv:=mc (G9 XB E aU yy gm lQ) (XB.binds λ_ _ _ _ _ _=>UC λ_ _ _ _ _=>rfl) (mg_of X G a40) XB.kp;have fm:cE l.prog w K mg base _ Cm "pay" _ _ _ _:=⟨zi Yr E Ρ,(Yr.binds λ_ _ _ _ _ _=>cK λ_ _=>rfl),⟨eL,eK,eG,eZ⟩,⟨a41,i41,Yr.kp⟩⟩;have cw:cE l.prog w K mg base _ Cm "share" _ _ _ _:=⟨ur WQ E,(WQ.binds λ_ _ _ _ _ _=>dz λ_=>rfl),⟨eL,eK,eG,eZ⟩,⟨a42,i42,WQ.kp⟩⟩;have mj:=mc (zN W8 E aI Ρ) (W8.binds λ_ _ _ _ _ _=>iP λ_ _ _=>rfl) (mg_of X G a43) W8.kp;have pw:=mc (Mr YU E bc) (YU.binds λ_ _ _ _ _ _=>cK λ_ _=>rfl) (mg_of X G a44) YU.kp;have gA:=mc (BA XZ E pw gm) (XZ.binds λ_ _ _ _ _ _=>cK λ_ _=>rfl) (mg_of X G a45) XZ.kp;have xP:=mc (KS Wz E Ρ nv fm cw mj gA) (Wz.binds λ_ _ _ _ _ _=>iP λ_ _ _=>rfl) (mg_of X G a46) Wz.kp;have mG:=mc (Aj XO E mP aU xP) (XO.binds λ_ _ _ _ _ _=>cK λ_ _=>rfl) (mg_of X G a47) XO.kp;have dE:=mc (pF Xz E mG) (Xz.binds λ_ _ _ _ _ _=>iP λ_ _ _=>rfl) (mg_of X G a48) Xz.kp;have jk:cE l.prog w K mg base _ Cm "shown" _ _ _ _:=⟨uy XX E pw gm,(XX.binds λ_ _ _ _ _ _=>zz λ_ _ _ _=>rfl),⟨eL,eK,eG,eZ⟩,⟨a49,i49,XX.kp⟩⟩;have aW:cE l.prog w K mg base _ Cm "all_shown" _ _ _ _:=⟨pX XM E aI jk,(XM.binds λ_ _ _ _ _ _=>iP λ_ _ _=>rfl),⟨eL,eK,eG,eZ⟩,⟨a50,i50,XM.kp⟩⟩;have k7:=mc (J1 Xy E) (Xy.binds λ_ _ _ _ _ _=>cK λ_ _=>rfl) (mg_of X G a51) Xy.kp;have mn:=mc (zU XI E k7) (XI.binds λ_ _ _ _ _ _=>dz λ_=>rfl) (mg_of X G a52) XI.kp;have yG:=mc (KN X1 E k7) (X1.binds λ_ _ _ _ _ _=>dz λ_=>rfl) (mg_of X G a53) X1.kp;have kH:cE l.prog w K mg base _ Cm "look" _ _ _ _:=⟨xb WE E Ρ fm gA aW aI mn yG,(WE.binds λ_ _ _ _ _ _=>iP λ_ _ _=>rfl),⟨eL,eK,eG,eZ⟩,⟨a54,i54,WE.kp⟩⟩;have kn:cE l.prog w K mg base _ Cm "best" _ _ _ _:=⟨yt Zk E Ρ kH aW,(Zk.binds λ_ _ _ _ _ _=>iP λ_ _ _=>rfl),⟨eL,eK,eG,eZ⟩,⟨a55,i55,Zk.kp⟩⟩;have bQ:=mc (rD Y9 E kn) (Y9.binds λ_ _ _ _ _ _=>iP λ_ _ _=>rfl) (mg_of X G a56) Y9.kp;have gE:=mc (BV Ws E pb d7 dE bQ) (Ws.binds λ_ _ _ _ _ _=>iP λ_ _ _=>rfl) (mg_of X G a57) Ws.kp;have Ju:=He Y8 E (P:=l.prog) (base:=base) pW gE bQ
 have gw:Mj l.prog w K mg base _ "mended" _ _ [Dt.str "one",Dt.bw] _ _:=⟨Ju,⟨[V.str "one",V.bw],[Value.str "one" Ka,Value.none],Y8.binds (λ_ _ _ _ _ _ us hl=>by
  have hl:us.length=1:=by simpa using hl
  match us,hl with
  |[a0],_=>exact ⟨_,rfl,rfl⟩),(.cons ⟨_,rfl⟩ (.cons rfl .nil)),λ_ _=>⟨_,_,rfl,rfl,⟨_,_,rfl,rfl,rfl⟩⟩⟩,mg_of X G a58,Y8.kp⟩
 have iV:=mc (Fv Xc E gw) (Xc.binds λ_ _ _ _ _ _=>dz λ_=>rfl) (mg_of X G a59) Xc.kp;have jG:=mc (A4 YN E) (YN.binds λ_ _ _ _ _ _=>dz λ_=>rfl) (mg_of X G a60) YN.kp;have gM:=mc (zw Wv E jG aN) (Wv.binds λ_ _ _ _ _ _=>cK λ_ _=>rfl) (mg_of X G a61) Wv.kp;have j9:cE l.prog w K mg base _ Cm "rows" _ _ _ _:=⟨xy W2 E d8,(W2.binds λ_ _ _ _ _ _=>dz λ_=>rfl),⟨eL,eK,eG,eZ⟩,⟨a62,i62,W2.kp⟩⟩;have dG:=mc (oX XD E) (XD.binds λ_ _ _ _ _ _=>dz λ_=>rfl) (mg_of X G a63) XD.kp;have j2:=mc (wO XA E dG) (XA.binds λ_ _ _ _ _ _=>dz λ_=>rfl) (mg_of X G a64) XA.kp;have nZ:=mc (Fj XC E et j9 j2 cw) (XC.binds λ_ _ _ _ _ _=>dz λ_=>rfl) (mg_of X G a65) XC.kp;exact Pn (Pa Z7 E me et pI iV gM nZ gw gE h8)
theorem walk{l:PySem.W.OpenLaw}{q:Program}{loose:List Str}{XP:(Str->Option Value)->Heap->Prop}{YP:World->Heap->Prop}{d:DefRec}{K:Params->fI}(hn:l.most=some 63)(RP:d.params.defaults=[])
  (hY:∀(w:World) (h:Heap),YP w h->(K w.params).In h)
  (F:∀(w:World) (mg:Str->Option Value) (fa:Addr) (h:Heap),(K w.params).In h->h.Ns mainGlobals mg->mg d.name=some (.ref fa)->
   ∃fd:FuncData,(∀(s:Shared) (u:Value),BindsTo s fd ⟨[u],[]⟩ [("_law_script",u)])/\∀base:Heap,(K w.params).In base->base.Ns mainGlobals mg->ah l.prog w (K w.params) mg base Vj 12 fa fd ["_law_script"] (yZ (K w.params))):
  PySem.W.WalkO q loose XP YP l.row.toRowW d [] (λf vs=>PySem.call f vs):=
 L2.yD (n:=63) (k:=12) (x:="_law_script") (CX:=λ_=>Vj) (sp:=λw=>yZ (K w.params)) hn (by decide) RP ⟨rfl,by decide,by decide⟩ hY F (λ_ _ a ns hl _ hS=>⟨a,ns,rfl,hS,hl,λ_=>rfl⟩) λ_ _ _ _ _ z=>z
end
end Pg
open PySem PySem.W PyProof.Rows
set_option maxRecDepth 100000 in
set_option maxHeartbeats 0 in
theorem PySem.Challenge.cw_chanceduel_k34_worths_turned_holds : PySem.Challenge.rw_chanceduel_k34_worths_turned.Holds := by
 w_on;o_law
 refine holds_open (q:=Hd.q) (loose:=["TURNED_KINDS","mended"]) (Xt:=Hd.Xt) (XP:=XL Hd.q [])
  (Yf:=Hd.H.obs) (Ya:=Hd.H.val) (YP:=Hd.H.says) Hd.left Hd.H.of Hd.H.keeps
  (λs e=>xl_of s (Bool.and_eq_true_iff.mp e).1) XL.keeps (by rfl) (by rfl) (by rfl)
  (λs e=>recFacts_of (Bool.and_eq_true_iff.mp e).2) (by rfl) (by assumption) (by decide+kernel)
  ⟨rfl,rfl,rfl,rfl,rfl,by decide+kernel⟩ ?hw ?hc
 (case hw=>w_witness2)
 refine Pg.walk (l:=PySem.Challenge.rw_chanceduel_k34_worths_turned) rfl rfl (fun w h Y=>PySem.W.kIn_of Y) ?F
 case F=>
  k_fill
  intro w mg fa h KX G MI
  refine' Pg.all_mk KX G MI ?_ ?_ ?_ ?_ ?_ ?_ ?_ ?_ ?_ ?_ ?_ ?_ ?_ ?_ ?_ ?_ ?_ ?_ ?_ ?_ ?_ ?_ ?_ ?_ ?_ ?_ ?_ ?_ ?_ ?_ ?_ ?_ ?_ ?_ ?_ ?_ ?_ ?_ ?_ ?_ ?_ ?_ ?_ ?_ ?_ ?_ ?_ ?_ ?_ ?_ ?_ ?_ ?_ ?_ ?_ ?_ ?_ ?_ ?_ ?_ ?_ ?_ ?_ ?_ ?_ ?_ ?_ ?_ ?_ ?_ ?_ ?_ ?_ ?_ ?_ ?_ ?_ ?_ ?_ ?_ ?_ ?_ ?_ ?_ ?_ ?_ ?_ ?_ ?_ ?_ ?_ ?_ ?_ ?_ ?_ ?_ ?_ ?_ ?_ ?_ ?_ ?_ ?_ ?_ ?_ ?_ ?_ ?_ ?_ ?_ ?_ ?_
  all_goals try first|(refine' Pg.FT.of ?_ ?_ ?_ ?_ <;> try k_is)|(refine' Pg.FM.of ?_ ?_ ?_ ?_ ?_ <;> try k_is)|(refine' Pg.FV.of ?_ ?_ ?_ ?_ ?_ <;> try k_is)|k_is|k_exc|kernel_rfl
  all_goals try exact ⟨⟨_,_,rfl,rfl⟩,⟨_,_,rfl,rfl⟩,⟨_,_,rfl,rfl⟩,trivial⟩
